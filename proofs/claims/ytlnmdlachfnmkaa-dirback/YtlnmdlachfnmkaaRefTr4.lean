/- The document's Set and Del, whatever the prefix. -/
import Derived.Test.YtlnmdlachfnmkaaRefTr3
namespace Go.Proofs.Ytlnmdlachfnmkaa.Tri
set_option maxRecDepth 100000
open Go.RowKit Go.Proofs.Ytlnmdlachfnmkaa
set_option linter.unusedVariables false

theorem pxC_take : ∀ (L : List PX) (k : Nat), (pxC L).take (k * 2) = pxC (L.take k)
  | [], k => by simp [pxC]
  | p :: L, 0 => by simp [pxC]
  | p :: L, k + 1 => by
    rw [show (k + 1) * 2 = k * 2 + 1 + 1 by omega]
    show Value.int .u32 p.1 :: Value.int .i64 p.2 :: (pxC L).take (k * 2) = _
    rw [pxC_take L k]; rfl

theorem pxC_drop : ∀ (L : List PX) (k : Nat), (pxC L).drop (k * 2) = pxC (L.drop k)
  | [], k => by simp [pxC]
  | p :: L, 0 => by simp
  | p :: L, k + 1 => by
    rw [show (k + 1) * 2 = k * 2 + 1 + 1 by omega]
    show (pxC L).drop (k * 2) = _
    rw [pxC_drop L k]; rfl

theorem owns_some {w : World} {B : Nat} {e : TypeId} {k : Nat} {v : Value} {n : Nat} {xs : List Value} (h : w.ownsRow B e k v n xs) (hv : v ≠ .slice none 0 0) : ∃ g c, v = .slice (some ⟨g, 0, none⟩) n c ∧ n ≤ c := by
  obtain ⟨_, h⟩ := h
  rcases h with ⟨h, _⟩ | ⟨g, cap, cur, h, _, _, h1, _⟩
  · exact absurd h hv
  · exact ⟨g, cap, h, h1⟩

theorem new_ref {w w' : World} {xb : Nat} {L : Row} {F : List Nat} {n : Nat} {yp yi : List Value} (h : NewRows w xb n yp yi w') (hn : n = L.length) (hp : yp = pxC (L.map (·.1))) (hi : yi = (L.map (·.2)).map (Value.int .i64)) (hx : xb ∈ F) : RefAns w xb F L w' := by
  obtain ⟨up, ui, h1, h2, h3, h4, h5, h6⟩ := h
  subst hn hp hi
  refine ⟨xb :: (blks up ++ blks ui), ⟨up, ui, rfl, h1, ?_, ?_, .inr (.inl ⟨?_, ?_⟩)⟩, h6.mono (by simpa using hx), fun x hx' => ?_⟩
  · unfold OwnP; rw [List.length_map]; exact owns_base h2 (Nat.zero_le _)
  · unfold OwnI; rw [List.length_map]; exact owns_base h3 (Nat.zero_le _)
  · obtain ⟨g, c, h, _⟩ := owns_some h2 h4; exact ⟨g, c, h⟩
  · obtain ⟨g, c, h, _⟩ := owns_some h3 h5; exact ⟨g, c, h⟩
  · rcases List.mem_cons.1 hx' with rfl | hx'
    · exact .inl hx
    · rcases List.mem_append.1 hx' with hx' | hx'
      · exact .inr (owns_block h2 (mem_blks.1 hx')).1
      · exact .inr (owns_block h3 (mem_blks.1 hx')).1

theorem int_one {L : List Int} {u : Value} (h : u ∈ L.map (Value.int .i64)) : u.oneCell' = true := by
  obtain ⟨n, _, rfl⟩ := List.mem_map.1 h; rfl

/-- The rows' slices, to be cut. -/
theorem RefAt.rows {w : World} {xb : Nat} {L : Row} {F : List Nat} (h : RefAt w xb L F) :
    ∃ vp vi, xb ∈ F ∧ w.heap[xb]? = some (.cells #[vp, vi] 38 (0, 0)) ∧ ∀ k, k ≤ L.length →
      (∃ p1 c1, Cuts 35 vp none (some k) p1 k c1 ∧ Src w 2 p1 k c1 (pxC ((L.map (·.1)).take k))) ∧ (∃ p2 c2, Cuts 35 vp (some k) none p2 (L.length - k) c2 ∧ Src w 2 p2 (L.length - k) c2 (pxC ((L.map (·.1)).drop k))) ∧
      (∃ p3 c3, Cuts 36 vi none (some k) p3 k c3 ∧ Src w 1 p3 k c3 (((L.map (·.2)).take k).map (Value.int .i64)) ∧ ∀ b off, p3 = some ⟨b, off, none⟩ → b ≠ xb) ∧
      (∃ p4 c4, Cuts 36 vi (some k) none p4 (L.length - k) c4 ∧ Src w 1 p4 (L.length - k) c4 (((L.map (·.2)).drop k).map (Value.int .i64)) ∧ ∀ b off, p4 = some ⟨b, off, none⟩ → b ≠ xb) := by
  obtain ⟨vp, vi, rfl, hX, hP, hI, hnil⟩ := h
  refine ⟨vp, vi, by simp, hX, fun k hk => ?_⟩
  unfold OwnP at hP
  unfold OwnI at hI
  rw [List.length_map] at hP hI
  rcases hnil with ⟨rfl, rfl⟩ | ⟨⟨gp, cp, rfl⟩, gi, ci, rfl⟩ | ⟨rfl, gi, ci, rfl⟩
  · have hL : L.length = 0 := by
      obtain ⟨_, h⟩ := hP
      rcases h with ⟨_, h⟩ | ⟨_, _, _, h, _⟩
      · exact h
      · cases h
    obtain rfl : L = [] := List.length_eq_zero_iff.1 hL
    obtain rfl : k = 0 := by simpa using hk
    refine ⟨⟨none, 0, cut_hi_px none 0 0 0 (Nat.le_refl _) (Nat.le_refl _), ⟨rfl, fun _ => rfl, by simp [pxC], .inl rfl⟩⟩, ⟨none, 0, cut_lo_px none 0 0 0 (Nat.le_refl _) (Nat.le_refl _), ⟨rfl, fun _ => rfl, by simp [pxC], .inl rfl⟩⟩,
      ⟨none, 0, cut_hi_int none 0 0 0 (Nat.le_refl _) (Nat.le_refl _), ⟨rfl, fun _ => rfl, by simp, .inl rfl⟩, by simp⟩, ⟨none, 0, cut_lo_int none 0 0 0 (Nat.le_refl _) (Nat.le_refl _), ⟨rfl, fun _ => rfl, by simp, .inl rfl⟩, by simp⟩⟩
  · obtain ⟨_, _, e1, hcp, _, _⟩ := owns_slice hP
    cases e1
    obtain ⟨_, _, e2, hci, _, _⟩ := owns_slice hI
    cases e2
    have sP := src_own hP (fun u hu => pxC_one hu)
    have sI := src_own hI (fun u hu => int_one hu)
    have hne : gi ≠ xb := by
      intro e
      obtain ⟨_, _, cur, hc⟩ := owns_block hI (g := gi) rfl
      rw [e, hX] at hc; cases hc
    refine ⟨⟨_, _, cut_hi_px _ _ _ k hk hcp, ?_⟩, ⟨_, _, cut_lo_px _ _ _ k hk hcp, ?_⟩, ⟨_, _, cut_hi_int _ _ _ k hk hci, ?_, ?_⟩, ⟨_, _, cut_lo_int _ _ _ k hk hci, ?_, ?_⟩⟩
    · rw [← pxC_take]; exact sP.take hk
    · rw [← pxC_drop]; exact sP.drop' hk hcp
    · have := sI.take hk
      rw [Nat.mul_one, ← List.map_take] at this
      exact this
    · rintro b off h; cases h; exact hne
    · have := sI.drop' hk hci
      rw [Nat.mul_one, ← List.map_drop] at this
      rw [Nat.mul_one]
      exact this
    · intro b off h
      split at h
      · cases h; exact hne
      · rw [Option.map_some, addr_add] at h; cases h; exact hne
  · have hL : L.length = 0 := by
      obtain ⟨_, h⟩ := hP
      rcases h with ⟨_, h⟩ | ⟨_, _, _, h, _⟩
      · exact h
      · cases h
    obtain rfl : L = [] := List.length_eq_zero_iff.1 hL
    obtain rfl : k = 0 := by simpa using hk
    have hne : gi ≠ xb := by
      intro e
      obtain ⟨_, _, cur, hc⟩ := owns_block hI (g := gi) rfl
      rw [e, hX] at hc; cases hc
    refine ⟨⟨none, 0, cut_hi_px none 0 0 0 (Nat.le_refl _) (Nat.le_refl _), ⟨rfl, fun _ => rfl, by simp [pxC], .inl rfl⟩⟩, ⟨none, 0, cut_lo_px none 0 0 0 (Nat.le_refl _) (Nat.le_refl _), ⟨rfl, fun _ => rfl, by simp [pxC], .inl rfl⟩⟩,
      ⟨_, _, cut_hi_int _ 0 ci 0 (Nat.le_refl _) (Nat.zero_le _), ⟨rfl, (fun h => by cases h), by simp, .inl rfl⟩, ?_⟩, ⟨_, _, cut_lo_int _ 0 ci 0 (Nat.le_refl _) (Nat.zero_le _), ⟨rfl, (fun h => by split at h <;> cases h), by simp, .inl rfl⟩, ?_⟩⟩
    · rintro b off h; cases h; exact hne
    · intro b off h
      split at h
      · cases h; exact hne
      · rw [Option.map_some, addr_add] at h; cases h; exact hne

theorem refSet_any (xb : Nat) (L : Row) (F : List Nat) (c m v : Int) (w : World) (h : RefAt w xb L F) (hl : L.length ≤ 1000000) (c0 : 0 ≤ c) (c1 : c ≤ 4294967295) :
    Calls Try.prog 22 #[.pointer (some ⟨xb, 0, none⟩), .agg #[.int .u32 c, .int .i64 m], .int .i64 v] w fun e w' => e = .returned (.int .i64 (if isV c m = true then 0 else 1)) ∧ RefAns w xb F (if isV c m = true then setL L (c, m) v else L) w' := by
  by_cases hv : isV c m = true
  · simp only [if_pos hv]
    have hp := vp_of c0 c1 hv
    by_cases hf : foundB L (c, m) = true
    · exact refSet_here xb L F c m v w h hl hp hf
    · have hf' : foundB L (c, m) = false := by simpa using hf
      have k0 := fun w => refIs_any c m w c0 c1
      rw [hv] at k0
      have k1 := fun w' (hx : Ext w w') => place_any xb L F c m w' (h.later (hx.toS []) (by simp)) hl
      rw [hf'] at k1
      have hset := setL_new v hf'
      have hk := placeN_le L (c, m)
      obtain ⟨vp, vi, hxF, hX, hr⟩ := h.rows
      obtain ⟨⟨p1, c1', t1, s1⟩, ⟨p2, c2, t2, s2⟩, ⟨p3, c3, t3, s3, _⟩, ⟨p4, c4, t4, s4, _⟩⟩ := hr _ hk
      generalize placeN L (c, m) = k at *
      refine (refSet_walk xb c m v k L.length vp vi p1 p2 p3 p4 c1' c2 c3 c4 _ _ _ _ w hk hl hX k0 k1 t1 t2 t3 t4 s1 s2 s3 s4).mono ?_
      rintro e w' ⟨rfl, hN⟩
      refine ⟨rfl, new_ref hN ?_ ?_ ?_ hxF⟩
      · rw [hset]; simp; omega
      · rw [hset]
        simp only [List.map_append, List.map_take, List.map_drop, List.map_cons, pxC_append]
        rw [List.append_assoc]
        congr 1
      · rw [hset]
        simp
  · simp only [if_neg hv]
    refine (refSet_bad xb c m v w c0 c1 (by simpa using hv)).mono ?_
    rintro e w' ⟨rfl, hx⟩
    exact ⟨rfl, F, h.later (hx.toS []) (by simp), hx.toS F, fun x hx => .inl hx⟩

theorem refDel_no (xb : Nat) (L : Row) (F : List Nat) (c m : Int) (w : World) (h : RefAt w xb L F) (hl : L.length ≤ 1000000) (hf : foundB L (c, m) = false) :
    Calls Try.prog 25 #[.pointer (some ⟨xb, 0, none⟩), .agg #[.int .u32 c, .int .i64 m]] w fun e w' => e = .returned (.bool false) ∧ Ext w w' := by
  have k1 := fun w' (hx : Ext w w') => place_any xb L F c m w' (h.later (hx.toS []) (by simp)) hl
  rw [hf] at k1
  generalize placeN L (c, m) = k at *
  have hA : Ext w (w.alloc (.cells #[.int .u32 c, .int .i64 m] 30)) := (Ext.refl w).alloc _
  clear hf
  go_enter Try.func25, Try.ntmps25
  go_wp2_with (go_at_call 42; refine (k1 _ hA).mono ?_; rintro e w1 ⟨rfl, hx1⟩)
  go_ret
  exact ⟨rfl, hA.trans hx1⟩

theorem refDel_any (xb : Nat) (L : Row) (F : List Nat) (c m : Int) (w : World) (h : RefAt w xb L F) (hs : Srt L) (hl : L.length ≤ 1000000) :
    Calls Try.prog 25 #[.pointer (some ⟨xb, 0, none⟩), .agg #[.int .u32 c, .int .i64 m]] w fun e w' => e = .returned (.bool (foundB L (c, m))) ∧ RefAns w xb F (delL L (c, m)) w' := by
  by_cases hf : foundB L (c, m) = true
  · rw [hf]
    have k1 := fun w' (hx : Ext w w') => place_any xb L F c m w' (h.later (hx.toS []) (by simp)) hl
    rw [hf] at k1
    have hdel := del_found hs hf
    obtain ⟨u, hu⟩ := foundB_iff.1 hf
    have hk := (List.getElem?_eq_some_iff.1 hu).1
    obtain ⟨vp, vi, hxF, hX, hr⟩ := h.rows
    generalize placeN L (c, m) = k at *
    obtain ⟨⟨p1, c1', t1, s1⟩, _, ⟨p3, c3, t3, s3, b3⟩, _⟩ := hr k (by omega)
    obtain ⟨_, ⟨p2, c2, t2, s2⟩, _, ⟨p4, c4, t4, s4, b4⟩⟩ := hr (k + 1) (by omega)
    refine (refDel_walk xb c m k L.length vp vi p1 p2 p3 p4 c1' c2 c3 c4 _ _ _ _ w hk hl hX k1 t1 t2 t3 t4 s1 s2 s3 s4 b3 b4).mono ?_
    rintro e w' ⟨rfl, hN⟩
    refine ⟨rfl, new_ref hN ?_ ?_ ?_ hxF⟩
    · rw [hdel]; simp; omega
    · rw [hdel]; simp only [List.map_append, List.map_take, List.map_drop, pxC_append]
    · rw [hdel]; simp
  · have hf' : foundB L (c, m) = false := by simpa using hf
    rw [hf', del_not hs hf']
    refine (refDel_no xb L F c m w h hl hf').mono ?_
    rintro e w' ⟨rfl, hx⟩
    exact ⟨rfl, F, h.later (hx.toS []) (by simp), hx.toS F, fun x hx => .inl hx⟩
end Go.Proofs.Ytlnmdlachfnmkaa.Tri
