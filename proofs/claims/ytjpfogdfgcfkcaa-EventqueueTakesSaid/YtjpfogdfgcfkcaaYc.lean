/- The reference's Add. -/
import Derived.Test.YtjpfogdfgcfkcaaYb
namespace Go.Proofs.Ytjpfogdfgcfkcaa
open Go.RowKit Go.Lib

theorem unt_cons (e : Ec) (l : List Ec) (t : Int) : unt (e :: l) t = if e.1 ≤ t then unt l t + 1 else 0 := by
  unfold unt
  rw [List.takeWhile_cons]
  by_cases h : e.1 ≤ t
  · rw [if_pos (decide_eq_true h), if_pos h, List.length_cons]
  · rw [if_neg (by simpa using h), if_neg h]; rfl
theorem unt_lt {t : Int} : ∀ {l : List Ec} {k : Nat} {x : Ec}, k < unt l t → l[k]? = some x → x.1 ≤ t := by
  intro l
  induction l with
  | nil => intro k x _ h; cases h
  | cons e l ih =>
    intro k x h hx
    rw [unt_cons] at h
    split at h
    · rcases k with _ | k
      · simp at hx; subst hx; assumption
      · exact ih (k := k) (by omega) (by simpa using hx)
    · omega
theorem unt_at {t : Int} : ∀ {l : List Ec} {x : Ec}, l[unt l t]? = some x → t < x.1 := by
  intro l
  induction l with
  | nil => intro x h; cases h
  | cons e l ih =>
    intro x hx
    rw [unt_cons] at hx
    split at hx
    · exact ih (by simpa using hx)
    · simp at hx; subst hx; omega
/-- The events that the reference has put out when it has seen k of them. -/
def outE (l : List Ec) (u : Nat) (e : Ec) (k : Nat) : List Ec := if u < k then l.take u ++ [e] ++ (l.take k).drop u else l.take k
theorem outE_lt {l : List Ec} {u k : Nat} {e x : Ec} (h : u < k) (hx : l[k]? = some x) : outE l u e (k + 1) = outE l u e k ++ [x] := by
  unfold outE
  rw [if_pos (by omega), if_pos h, take_succ'' hx, List.drop_append_of_le_length (by rw [List.length_take]; have := (List.getElem?_eq_some_iff.1 hx).1; omega)]
  simp
theorem outE_at {l : List Ec} {k : Nat} {e x : Ec} (hx : l[k]? = some x) : outE l k e (k + 1) = outE l k e k ++ [e] ++ [x] := by
  have hk : (l.take k).length = k := by rw [List.length_take]; have := (List.getElem?_eq_some_iff.1 hx).1; omega
  unfold outE
  rw [if_pos (by omega), if_neg (by omega), take_succ'' hx, List.drop_append_of_le_length (by omega)]
  rw [show (l.take k).drop k = [] from List.drop_eq_nil_of_le (by omega)]
  simp
theorem outE_gt {l : List Ec} {u k : Nat} {e x : Ec} (h : k < u) (hx : l[k]? = some x) : outE l u e (k + 1) = outE l u e k ++ [x] := by
  unfold outE
  rw [if_neg (by omega), if_neg (by omega), take_succ'' hx]
theorem outE_all {l : List Ec} {t : Int} {e : Ec} (h : unt l t < l.length) : outE l (unt l t) e l.length = insE l t e := by
  unfold outE insE
  rw [if_pos h, List.take_of_length_le (i := l.length) (Nat.le_refl _)]
theorem outE_end {l : List Ec} {t : Int} {e : Ec} (h : unt l t = l.length) : outE l (unt l t) e l.length ++ [e] = insE l t e := by
  unfold outE insE
  rw [h, if_neg (by omega), List.drop_eq_nil_of_le (Nat.le_refl _), List.append_nil]

set_option maxHeartbeats 8000000 in
set_option maxRecDepth 100000 in
theorem refAdd_any (l : List Ev) (v : Value) (next t kd o : Int) (d : Value) (p : List Nat) (w : World) (hv : EL w v l) (hd : Byt w d p) (hdn : NilOk d) :
    Calls Try.prog 15 #[.agg #[v, .int .i64 next], .int .i64 t, .int .i64 kd, .int .i64 o, d] w (AddQ w (addS (l.map core) next t kd o p) next) := by
  obtain ⟨A, c, rfl⟩ := el_form hv
  obtain ⟨dA, dc, rfl⟩ := byt_form hd
  obtain ⟨N, hN⟩ : ∃ N, l.length = N := ⟨_, rfl⟩
  obtain ⟨M, hM⟩ : ∃ M, p.length = M := ⟨_, rfl⟩
  rw [hN] at hv ⊢
  rw [hM] at hd hdn ⊢
  obtain ⟨W1, hW1⟩ : ∃ W1, (w.alloc (.cells #[.slice A N c, .int .i64 next] 24)).alloc (.cells #[.slice none 0 0, .int .i64 0] 24) = W1 := ⟨_, rfl⟩
  have hb1 : Below w.heap.size w W1 := by rw [← hW1]; exact ((Below.refl _ w).alloc (Nat.le_refl _) _).alloc (by simp) _
  obtain ⟨g, hg⟩ : ∃ g, w.heap.size = g := ⟨_, rfl⟩
  have hx1 : W1.heap[g]? = some (.cells #[.slice A N c, .int .i64 next] 24) := by rw [← hW1, ← hg]; exact (Below.heap_alloc _ _ _ (by simp)).trans (heap_alloc_new w _)
  have hy1 : W1.heap[g + 1]? = some (.cells #[.slice none 0 0, .int .i64 0] 24) := by rw [← hW1, ← hg]; simpa using heap_alloc_new (w.alloc (.cells #[.slice A N c, .int .i64 next] 24)) (.cells #[.slice none 0 0, .int .i64 0] 24)
  have hz1 : W1.heap.size = g + 2 := by rw [← hW1, ← hg]; simp
  have x0 : W1.cell? ⟨g, 0, none⟩ = some (.slice A N c) := cell_of_row _ _ 0 _ _ _ hx1
  have x1 : W1.cell? ⟨g, 1, none⟩ = some (.int .i64 next) := cell_of_row _ _ 1 _ _ _ hx1
  have HV := hid hv
  have HN := hid hN
  have HM := hid hM
  have HD := hid hd
  have HDN := hid hdn
  have HB1 := hid hb1
  have HX1 := hid hx1
  have HY1 := hid hy1
  have HZ1 := hid hz1
  have HW1 := hid hW1
  have HG := hid hg
  have HCK := hid (refCheck_any l _ next W1 (hv.below hb1))
  obtain ⟨ck, hck⟩ : ∃ ck, chk (l.map core) next = ck := ⟨_, rfl⟩
  rw [hck] at HCK
  have HCE := hid hck
  clear hv hN hM hd hdn hb1 hx1 hy1 hz1 hW1 hg hck
  go_enter Try.func15, Try.ntmps15
  go_wp2_with fail
  rw [HW1.out, HG.out]
  refine HCK.out.mono ?_
  rintro e w2 ⟨rfl, hb2⟩
  have HX2 := hid ((hb2.block _ (box_lt HX1.out)).trans HX1.out)
  have HY2 := hid ((hb2.block _ (box_lt HY1.out)).trans HY1.out)
  have HB2 := hid (HB1.out.trans (hb2.mono HB1.out.size))
  have hz2 : g + 2 ≤ w2.heap.size := by rw [← HZ1.out]; exact hb2.size
  have x0 := cell_of_row _ _ 0 _ _ _ HX2.out
  have x1 := cell_of_row _ _ 1 _ _ _ HX2.out
  have y0 := cell_of_row _ _ 0 _ _ _ HY2.out
  have y1 := cell_of_row _ _ 1 _ _ _ HY2.out
  have fy0 := box_fr HY2.out 0
  have fy1 := box_fr HY2.out 1
  clear hb2 HCK
  by_cases hc0 : ck = 0
  · subst hc0
    obtain ⟨hk1, hk2, hk3, hk4, hk5⟩ := chk_ok HCE.out
    rw [List.length_map, HN.out] at hk1
    have hbl : ∀ x ∈ l, x.p.length ≤ 100000 := fun x hx => by
      have := (fldC_ok (hk4 (core x) (List.mem_map_of_mem hx))).2.2.2.2.2.2
      exact Nat.le_trans this (by decide)
    have HBL := hid hbl
    have hwn : IntKind.i64.wrap (next + 1) = next + 1 := by rw [IntKind.wrap_i64]; omega
    clear hk4 hk5 hbl
    by_cases ht1 : t < 0
    · have d1 : decide (t < 0) = true := decide_eq_true ht1
      have HR : Hid (addS (l.map core) next t kd o p = .error 24) := hid (by
        have h : fldI t next kd o p.length (next + 1) = 24 := by unfold fldI; rw [if_pos (by omega)]
        unfold addS; rw [HCE.out, if_neg (by simp), h, if_pos (by decide)])
      clear ht1
      go_wp2_with fail
      refine bodyPost_ret (results_v_tmp2 rfl _ _ (g + 1) _ rfl (lv24 (set2h _ _ HY2.out)) _ rfl _ rfl) rfl ?_
      exact .inl ⟨24, HR.out, rfl, set2b _ _ HB2.out (by rw [HG.out]; omega)⟩
    have d1 : decide (t < 0) = false := decide_eq_false ht1
    by_cases ht2 : 1073741824 < t
    · have d2 : decide ((1073741824 : Int) < t) = true := decide_eq_true ht2
      have HR : Hid (addS (l.map core) next t kd o p = .error 24) := hid (by
        have h : fldI t next kd o p.length (next + 1) = 24 := by unfold fldI; rw [if_pos (by omega)]
        unfold addS; rw [HCE.out, if_neg (by simp), h, if_pos (by decide)])
      clear ht2
      go_wp2_with fail
      refine bodyPost_ret (results_v_tmp2 rfl _ _ (g + 1) _ rfl (lv24 (set2h _ _ HY2.out)) _ rfl _ rfl) rfl ?_
      exact .inl ⟨24, HR.out, rfl, set2b _ _ HB2.out (by rw [HG.out]; omega)⟩
    have d2 : decide ((1073741824 : Int) < t) = false := decide_eq_false ht2
    by_cases hk1' : kd < 0
    · have d3 : decide (kd < 0) = true := decide_eq_true hk1'
      have HR : Hid (addS (l.map core) next t kd o p = .error 2) := hid (by
        have h : fldI t next kd o p.length (next + 1) = 2 := by unfold fldI; rw [if_neg (by omega), if_pos (by omega)]
        unfold addS; rw [HCE.out, if_neg (by simp), h, if_pos (by decide)])
      clear hk1'
      go_wp2_with fail
      refine bodyPost_ret (results_v_tmp2 rfl _ _ (g + 1) _ rfl (lv24 (set2h _ _ HY2.out)) _ rfl _ rfl) rfl ?_
      exact .inl ⟨2, HR.out, rfl, set2b _ _ HB2.out (by rw [HG.out]; omega)⟩
    have d3 : decide (kd < 0) = false := decide_eq_false hk1'
    by_cases ho1 : o < 0
    · have d4 : decide (o < 0) = true := decide_eq_true ho1
      have HR : Hid (addS (l.map core) next t kd o p = .error 2) := hid (by
        have h : fldI t next kd o p.length (next + 1) = 2 := by unfold fldI; rw [if_neg (by omega), if_pos (by omega)]
        unfold addS; rw [HCE.out, if_neg (by simp), h, if_pos (by decide)])
      clear ho1
      go_wp2_with fail
      refine bodyPost_ret (results_v_tmp2 rfl _ _ (g + 1) _ rfl (lv24 (set2h _ _ HY2.out)) _ rfl _ rfl) rfl ?_
      exact .inl ⟨2, HR.out, rfl, set2b _ _ HB2.out (by rw [HG.out]; omega)⟩
    have d4 : decide (o < 0) = false := decide_eq_false ho1
    by_cases hm1 : 4096 < M
    · have d5 : decide ((4096 : Int) < (M : Int)) = true := decide_eq_true (by omega)
      have HR : Hid (addS (l.map core) next t kd o p = .error 5) := hid (by
        have h : fldI t next kd o p.length (next + 1) = 5 := by unfold fldI; rw [if_neg (by omega), if_neg (by omega), if_pos (by rw [HM.out]; omega)]
        unfold addS; rw [HCE.out, if_neg (by simp), h, if_pos (by decide)])
      clear hm1
      go_wp2_with fail
      refine bodyPost_ret (results_v_tmp2 rfl _ _ (g + 1) _ rfl (lv24 (set2h _ _ HY2.out)) _ rfl _ rfl) rfl ?_
      exact .inl ⟨5, HR.out, rfl, set2b _ _ HB2.out (by rw [HG.out]; omega)⟩
    have d5 : decide ((4096 : Int) < (M : Int)) = false := decide_eq_false (by omega)
    have hfl : fldI t next kd o p.length (next + 1) = 0 := by unfold fldI; rw [if_neg (by omega), if_neg (by omega), if_neg (by rw [HM.out]; omega)]
    by_cases hn1 : N = 4096
    · have d6 : decide ((4096 : Int) ≤ (N : Int)) = true := decide_eq_true (by omega)
      have HR : Hid (addS (l.map core) next t kd o p = .error 11) := hid (by
        unfold addS; rw [HCE.out, if_neg (by simp), hfl, if_neg (by decide), if_pos (by rw [List.length_map, HN.out]; exact .inl hn1)])
      clear hn1 hfl
      go_wp2_with fail
      refine bodyPost_ret (results_v_tmp2 rfl _ _ (g + 1) _ rfl (lv24 (set2h _ _ HY2.out)) _ rfl _ rfl) rfl ?_
      exact .inl ⟨11, HR.out, rfl, set2b _ _ HB2.out (by rw [HG.out]; omega)⟩
    have d6 : decide ((4096 : Int) ≤ (N : Int)) = false := decide_eq_false (by omega)
    by_cases hn2 : next = 1073741824
    · have d7 : decide ((1073741824 : Int) ≤ next) = true := decide_eq_true (by omega)
      have HR : Hid (addS (l.map core) next t kd o p = .error 11) := hid (by
        unfold addS; rw [HCE.out, if_neg (by simp), hfl, if_neg (by decide), if_pos (by rw [List.length_map, HN.out]; exact .inr hn2)])
      clear hn2 hfl
      go_wp2_with fail
      refine bodyPost_ret (results_v_tmp2 rfl _ _ (g + 1) _ rfl (lv24 (set2h _ _ HY2.out)) _ rfl _ rfl) rfl ?_
      exact .inl ⟨11, HR.out, rfl, set2b _ _ HB2.out (by rw [HG.out]; omega)⟩
    have d7 : decide ((1073741824 : Int) ≤ next) = false := decide_eq_false (by omega)
    have HR : Hid (addS (l.map core) next t kd o p = .ok (insE (l.map core) t (t, next, kd, o, p))) := hid (by
      unfold addS; rw [HCE.out, if_neg (by simp), hfl, if_neg (by decide), if_neg (by rw [List.length_map, HN.out]; omega)])
    have HXC := hid (refCopy_any t next kd o (.slice dA M dc) p w2 (HD.out.below HB2.out) HDN.out (by rw [HM.out]; omega))
    clear hfl hn1 hn2 hm1
    go_wp2_with fail
    refine HXC.out.mono ?_
    rintro e w3 ⟨xA, xc, rfl, hox, hbx⟩
    have hb3 := HB2.out.trans (hbx.mono HB2.out.size)
    have hx3 := (hbx.block _ (box_lt HX2.out)).trans HX2.out
    have hy3 := (hbx.block _ (box_lt HY2.out)).trans HY2.out
    obtain ⟨W4, hW4⟩ : ∃ W4, (w3.alloc (.cells #[.int .i64 t, .int .i64 next, .int .i64 kd, .int .i64 o, .slice xA p.length xc] 32)).alloc (.cells #[.slice none 0 0, .int .i64 (next + 1)] 24) = W4 := ⟨_, rfl⟩
    obtain ⟨h, hh⟩ : ∃ h, w3.heap.size = h := ⟨_, rfl⟩
    have hb4 : Below w3.heap.size w3 W4 := by rw [← hW4]; exact ((Below.refl _ _).alloc (Nat.le_refl _) _).alloc (by simp) _
    have HZ4 : Hid (W4.heap[h]? = some (.cells #[.int .i64 t, .int .i64 next, .int .i64 kd, .int .i64 o, .slice xA p.length xc] 32)) := hid (by rw [← hW4, ← hh]; exact (Below.heap_alloc _ _ _ (by simp)).trans (heap_alloc_new w3 _))
    have HY4 : Hid (W4.heap[h + 1]? = some (.cells #[.slice none 0 0, .int .i64 (next + 1)] 24)) := hid (by rw [← hW4, ← hh]; simpa using heap_alloc_new (w3.alloc (.cells #[.int .i64 t, .int .i64 next, .int .i64 kd, .int .i64 o, .slice xA p.length xc] 32)) (.cells #[.slice none 0 0, .int .i64 (next + 1)] 24))
    have hz4 : W4.heap.size = h + 2 := by rw [← hW4, ← hh]; simp
    have HX4 := hid ((hb4.block _ (box_lt hx3)).trans hx3)
    have HR4 := hid ((hb4.block _ (box_lt hy3)).trans hy3)
    have HB4 := hid (hb3.trans (hb4.mono hb3.size))
    have hgh : g + 2 ≤ h := by have := hbx.size; omega
    have HPX4 : Hid (Pay W4 (⟨t, next, kd, o, .slice xA p.length xc, p⟩ : Ev)) := hid ⟨⟨_, own_keep hox (keep_below hb4)⟩, HD.out.1⟩
    have HZS := hid hz4
    have HW4 := hid hW4
    have HH := hid hh
    have hx3a : (w3.alloc (.cells #[.int .i64 t, .int .i64 next, .int .i64 kd, .int .i64 o, .slice xA p.length xc] 32)).cell? ⟨g, 1, none⟩ = some (.int .i64 next) := cell_of_row _ _ 1 _ _ _ ((Below.heap_alloc _ _ _ (box_lt hx3)).trans hx3)
    clear hb3 hx3 hy3 hb4 hz4 hW4 hh hox hbx HXC x0 x1 y0 y1 fy0 fy1
    go_wp2_with fail
    rw [HW4.out, HH.out]
    clear hx3a
    obtain ⟨u, hu⟩ : ∃ u, unt (l.map core) t = u := ⟨_, rfl⟩
    have huN : u ≤ N := by rw [← hu]; have := unt_le (l.map core) t; rw [List.length_map, HN.out] at this; exact this
    have HU := hid hu
    clear hu
    go_loopw [16, 17] (fun pl i wr => ∃ (k m : Nat) (uA : Option Addr) (uc : Nat) (vs : List Ev), k ≤ N ∧ i = .int .i64 (k : Int) ∧ pl = .bool (decide (u < k)) ∧ Hid (vs.length = m) ∧ Hid (m ≤ k + 1) ∧ Hid (vs.map core = outE (l.map core) u (t, next, kd, o, p) k) ∧ Hid (wr.heap[g]? = some (.cells #[.slice A N c, .int .i64 next] 24)) ∧ Hid (wr.heap[g + 1]? = some (.cells #[.slice none 0 0, .int .i64 0] 24)) ∧ Hid (wr.heap[h]? = some (.cells #[.int .i64 t, .int .i64 next, .int .i64 kd, .int .i64 o, .slice xA p.length xc] 32)) ∧ Hid (wr.heap[h + 1]? = some (.cells #[.slice uA m uc, .int .i64 (next + 1)] 24)) ∧ Hid (Pay wr (⟨t, next, kd, o, .slice xA p.length xc, p⟩ : Ev)) ∧ Hid (h + 2 ≤ wr.heap.size) ∧ Hid (wr.ownsRow (h + 2) 32 5 (.slice uA m uc) m (vs.map cEv).flatten) ∧ Hid (∀ x ∈ vs, Pay wr x) ∧ Hid (Below w.heap.size w wr)) (fun _ i _ => N - (Lib.intOf i).toNat)
    case atStart => exact ⟨0, 0, none, 0, [], Nat.zero_le _, rfl, by simp, hid rfl, hid (by omega), hid (by simp [outE]), HX4, HR4, HZ4, HY4, HPX4, hid (by rw [HZS.out]; omega), hid (World.ownsRow_nil _ _ _ _), hid (fun x hx => by cases hx), HB4⟩
    case round =>
      obtain ⟨k, m, uA, uc, vs, hk, rfl, rfl, HL, HMK, HVS, HX, HRR, HZ, HY, HPX, HHW, HO, HP, HB⟩ := hrel
      clear HX4 HR4 HZ4 HY4 HPX4 HB4 HX1 HY1 HX2 HY2
      have x0 := cell_of_row _ _ 0 _ _ _ HX.out
      have y0 := cell_of_row _ _ 0 _ _ _ HY.out
      have y1 := cell_of_row _ _ 1 _ _ _ HY.out
      by_cases hkn : k < N
      · have hkn' : (k : Int) < (N : Int) := by omega
        obtain ⟨b, off, rfl, hblw, hc⟩ := el_cells HV.out (by rw [HN.out]; omega)
        obtain ⟨x, hx⟩ : ∃ x, l[k]? = some x := ⟨l[k]'(by rw [HN.out]; exact hkn), List.getElem?_eq_getElem _⟩
        obtain ⟨p0, p1, p2, p3, p4⟩ := hc k x hx
        have hxb := HV.out.1 x (List.mem_of_getElem? hx)
        have hxl := HBL.out x (List.mem_of_getElem? hx)
        have hxc : (l.map core)[k]? = some (core x) := by rw [List.getElem?_map, hx]; rfl
        have HXC := hid hxc
        have hmk := HMK.out
        have hgx := box_lt HX.out
        clear hc hx hxc
        obtain ⟨xt, xn, xk, xo, xd, xp⟩ := x
        dsimp only at p0 p1 p2 p3 p4 hxb hxl
        have HCE := hid (fun (X : World) (hX : Below w.heap.size w X) => refCopy_any xt xn xk xo xd xp X (hxb.1.below hX) hxb.2 (by omega))
        have H8 := hid hxb.1.1
        clear hxb
        by_cases huk : u = k
        · have huk2 : k = u := huk.symm
          clear huk
          subst huk2
          have hgt : decide (t < xt) = true := decide_eq_true (unt_at (l := l.map core) (t := t) (by rw [HU.out]; exact HXC.out))
          have hp0 : decide (k < k) = false := by simp
          have hmk2 : m ≤ k := by
            have h := congrArg List.length HVS.out
            rw [List.length_map, HL.out] at h
            unfold outE at h
            rw [if_neg (by omega), List.length_take] at h
            omega
          have HTK := hid (outE_at (e := (t, next, kd, o, p)) HXC.out)
          rw [hp0]
          have z0 := cell_of_row _ _ 0 _ _ _ HZ.out
          have z1 := cell_of_row _ _ 1 _ _ _ HZ.out
          have z2 := cell_of_row _ _ 2 _ _ _ HZ.out
          have z3 := cell_of_row _ _ 3 _ _ _ HZ.out
          have z4 := cell_of_row _ _ 4 _ _ _ HZ.out
          clear hp0
          have hbl := Nat.lt_of_lt_of_le hblw HB.out.size
          have q0 := (HB.out.cell (p := ⟨b, off + k * 5, none⟩) hblw).trans p0
          have q1 := (HB.out.cell (p := ⟨b, off + k * 5 + 1, none⟩) hblw).trans p1
          have q2 := (HB.out.cell (p := ⟨b, off + k * 5 + 2, none⟩) hblw).trans p2
          have q3 := (HB.out.cell (p := ⟨b, off + k * 5 + 3, none⟩) hblw).trans p3
          have q4 := (HB.out.cell (p := ⟨b, off + k * 5 + 4, none⟩) hblw).trans p4
          go_wp2_with (at_builtin; go_loud (refine append_ev rfl (.tmp 84) (.tmp 86) rfl (h + 2) (.slice uA m uc) m _ rfl (own_keep HO.out (keep_below (al1 _ _))) [.int .i64 t, .int .i64 next, .int .i64 kd, .int .i64 o, .slice xA p.length xc] rfl (ev_one _ _ _ _ _ _ _) ⟨wr.heap.size, 0, none⟩ 1 rfl (fun j u hu => by rw [add_at, cell_of_row _ _ _ _ _ _ (heap_alloc_new _ _)]; simpa using hu) (by omega) (Nat.le_trans HHW.out (al1 _ _).size) ?_); intro v6 w6 ho6 hg6; have hbw := (al1 wr (.cells #[.int .i64 t, .int .i64 next, .int .i64 kd, .int .i64 o, .slice xA p.length xc] 32)); have how := own_keep HO.out (keep_below hbw); have hbT := (HB.out.trans (hbw.mono HB.out.size)); have HB6 := hid (hbT.grown hg6 hbT.size (fun k e => by have := (how.lt k e).1; have := HHW.out; have := HG.out; omega)); have HP6 := hid (fun x hx => ((HP.out x hx).keep (keep_below hbw)).keep (keep_grown (T := 5) how (by decide) hg6)); have HPX6 := hid ((HPX.out.keep (keep_below hbw)).keep (keep_grown (T := 5) how (by decide) hg6)); have HY6 := hid (keep_grown (T := 24) how (by decide) hg6 _ _ ((hbw.block _ (box_lt HY.out)).trans HY.out)); have HX6 := hid (keep_grown (T := 24) how (by decide) hg6 _ _ ((hbw.block _ (box_lt HX.out)).trans HX.out)); have HRR6 := hid (keep_grown (T := 24) how (by decide) hg6 _ _ ((hbw.block _ (box_lt HRR.out)).trans HRR.out)); have HZ6 := hid ((hg6.block h (Nat.lt_of_lt_of_le (box_lt HZ.out) hbw.size) (fun e => by have := (how.lt h e.symm).1; omega)).trans ((hbw.block _ (box_lt HZ.out)).trans HZ.out)); have HHW6 := hid (Nat.le_trans HHW.out (Nat.le_trans hbw.size hg6.size)); obtain ⟨a6, c6, rfl⟩ := own_form32 ho6; have HO6 := hid ho6; clear ho6 hg6 how hbT hbw; have y0 := cell_of_row _ _ 0 _ _ _ HY6.out; have fy0 := box_fr HY6.out 0)
          have hks : ∀ (j : Nat), j ≠ h + 1 → (w6.setCell ⟨h + 1, 0, none⟩ (.slice a6 (m + 1) c6)).heap[j]? = w6.heap[j]? := fun j hj => Below.heap_setCell _ _ _ _ hj
          have hy7 := box_set (cs := [.slice uA m uc, .int .i64 (next + 1)]) HY6.out 0 (.slice a6 (m + 1) c6)
          have ho7 := own_off HO6.out (own_ne HO6.out HY6.out (by decide)) 0 (.slice a6 (m + 1) c6)
          have hb7 : Below w.heap.size w (w6.setCell ⟨h + 1, 0, none⟩ (.slice a6 (m + 1) c6)) := HB6.out.setCell (p := ⟨h + 1, 0, none⟩) (by rw [HG.out]; show g ≤ h + 1; omega) _
          have hsz : h + 2 ≤ (w6.setCell ⟨h + 1, 0, none⟩ (.slice a6 (m + 1) c6)).heap.size := by have h := HHW6.out; simpa [World.setCell] using h
          obtain ⟨wq, hwq⟩ : ∃ X, w6.setCell ⟨h + 1, 0, none⟩ (.slice a6 (m + 1) c6) = X := ⟨_, rfl⟩
          rw [hwq] at hks hy7 ho7 hb7 hsz ⊢
          have hk5 : Keep 5 w6 wq := fun j cs hj => (hks j (fun e => by rw [e, HY6.out] at hj; cases hj)).trans hj
          have HX7 := hid ((hks g (by omega)).trans HX6.out)
          have HRR7 := hid ((hks (g + 1) (by omega)).trans HRR6.out)
          have HZ7 := hid ((hks h (by omega)).trans HZ6.out)
          have HY7 := hid hy7
          have HPX7 := hid (HPX6.out.keep hk5)
          have HHW7 := hid hsz
          have HO7 : Hid (wq.ownsRow (h + 2) 32 5 (.slice a6 (m + 1) c6) (m + 1) ((vs ++ [(⟨t, next, kd, o, .slice xA p.length xc, p⟩ : Ev)]).map cEv).flatten) := hid (by rw [List.map_append, List.flatten_append]; simpa [cEv] using ho7)
          have HP7 : Hid (∀ x ∈ vs ++ [(⟨t, next, kd, o, .slice xA p.length xc, p⟩ : Ev)], Pay wq x) := hid (fun x hx => (List.mem_append.1 hx).elim (fun hx => (HP6.out x hx).keep hk5) (fun hx => by rw [List.mem_singleton] at hx; subst hx; exact HPX7.out))
          have HB7 := hid hb7
          have HL7 : Hid ((vs ++ [(⟨t, next, kd, o, .slice xA p.length xc, p⟩ : Ev)]).length = m + 1) := hid (by rw [List.length_append, HL.out]; rfl)
          clear hks hy7 ho7 hb7 hsz hk5 x0 y0 y1 hgx fy0 z0 z1 z2 z3 z4 q0 q1 q2 q3 q4 hbl
          have x0 := cell_of_row _ _ 0 _ _ _ HX7.out
          have y0 := cell_of_row _ _ 0 _ _ _ HY7.out
          go_wp2_with fail
          have hbl := Nat.lt_of_lt_of_le hblw HB7.out.size
          have q0 := (HB7.out.cell (p := ⟨b, off + k * 5, none⟩) hblw).trans p0
          have q1 := (HB7.out.cell (p := ⟨b, off + k * 5 + 1, none⟩) hblw).trans p1
          have q2 := (HB7.out.cell (p := ⟨b, off + k * 5 + 2, none⟩) hblw).trans p2
          have q3 := (HB7.out.cell (p := ⟨b, off + k * 5 + 3, none⟩) hblw).trans p3
          have q4 := (HB7.out.cell (p := ⟨b, off + k * 5 + 4, none⟩) hblw).trans p4
          have HKra := hid (fun (X : World) (hX : Below wq.heap.size wq X) => And.intro ((hX.cell (p := ⟨h + 1, 0, none⟩) (box_lt HY7.out)).trans y0) (And.intro ((hX.cell (p := ⟨g, 0, none⟩) (box_lt HX7.out)).trans x0) (And.intro ((hX.cell (p := ⟨b, off + k * 5, none⟩) hbl).trans q0) (And.intro ((hX.cell (p := ⟨b, off + k * 5 + 1, none⟩) hbl).trans q1) (And.intro ((hX.cell (p := ⟨b, off + k * 5 + 2, none⟩) hbl).trans q2) (And.intro ((hX.cell (p := ⟨b, off + k * 5 + 3, none⟩) hbl).trans q3) ((hX.cell (p := ⟨b, off + k * 5 + 4, none⟩) hbl).trans q4)))))))
          refine region_tail 9 (fun X => X.cell? ⟨h + 1, 0, none⟩ = some (.slice a6 (m + 1) c6) ∧ X.cell? ⟨g, 0, none⟩ = some (.slice (some ⟨b, off, none⟩) N c) ∧ X.cell? ⟨b, off + k * 5, none⟩ = some (.int .i64 xt) ∧ X.cell? ⟨b, off + k * 5 + 1, none⟩ = some (.int .i64 xn) ∧ X.cell? ⟨b, off + k * 5 + 2, none⟩ = some (.int .i64 xk) ∧ X.cell? ⟨b, off + k * 5 + 3, none⟩ = some (.int .i64 xo) ∧ X.cell? ⟨b, off + k * 5 + 4, none⟩ = some xd) (by kernel_rfl) ?_
          obtain ⟨X0, hX0⟩ : ∃ X, wq.drew = X := ⟨_, rfl⟩
          have hB0 : Below wq.heap.size wq X0 := by rw [← hX0]; exact (Below.refl wq.heap.size wq).drew
          have hHeld := HKra.out X0 hB0
          rw [hX0]
          clear hX0
          refine' wpAnyT_take (i := 0) (oi := ?oira0) (v := ?vra0) ?hira0 (by kernel_rfl) (by kernel_rfl) ?hqra0 ?hyra0 hHeld ?restra0
          case hira0 => (simp only [List.getElem?_toArray, List.getElem?_cons_zero]; rfl)
          case hqra0 => exact fun _ _ _ h => h
          case hyra0 => (refine Or.inl ⟨by rfl, ?_⟩; intro w' hSw; (try dsimp only at hSw); go_simp; try with_reducible rfl)
          (try simp only [Act.put, List.setIfInBounds_toArray, List.set_cons_zero, List.set_cons_succ])
          refine' wpAnyT_take (i := 1) (oi := ?oira1) (v := ?vra1) ?hira1 (by kernel_rfl) (by kernel_rfl) ?hqra1 ?hyra1 hHeld ?restra1
          case hira1 => (simp only [List.getElem?_toArray, List.getElem?_cons_zero, List.getElem?_cons_succ]; rfl)
          case hqra1 => exact fun _ _ _ h => h
          case hyra1 => (refine Or.inl ⟨by rfl, ?_⟩; intro w' hSw; (try dsimp only at hSw); go_simp; try with_reducible rfl)
          (try simp only [Act.put, List.setIfInBounds_toArray, List.set_cons_zero, List.set_cons_succ])
          refine' wpAnyT_take (i := 2) (oi := ?oira2) (v := ?vra2) ?hira2 (by kernel_rfl) (by kernel_rfl) ?hqra2 ?hyra2 hHeld ?restra2
          case hira2 => (simp only [List.getElem?_toArray, List.getElem?_cons_zero, List.getElem?_cons_succ]; rfl)
          case hqra2 => exact fun _ _ _ h => h
          case hyra2 => (refine Or.inl ⟨by rfl, ?_⟩; intro w' hSw; (try dsimp only at hSw); go_simp; try with_reducible rfl)
          (try simp only [Act.put, List.setIfInBounds_toArray, List.set_cons_zero, List.set_cons_succ])
          refine' wpAnyT_take (i := 3) (oi := ?oira3) (v := ?vra3) ?hira3 (by kernel_rfl) (by kernel_rfl) ?hqra3 ?hyra3 hHeld ?restra3
          case hira3 => (simp only [List.getElem?_toArray, List.getElem?_cons_zero, List.getElem?_cons_succ]; rfl)
          case hqra3 => exact fun _ _ _ h => h
          case hyra3 => (refine Or.inl ⟨by rfl, ?_⟩; intro w' hSw; (try dsimp only at hSw); go_simp; try with_reducible rfl)
          (try simp only [Act.put, List.setIfInBounds_toArray, List.set_cons_zero, List.set_cons_succ])
          refine' wpAnyT_take (i := 4) (oi := ?oira4) (v := ?vra4) ?hira4 (by kernel_rfl) (by kernel_rfl) ?hqra4 ?hyra4 hHeld ?restra4
          case hira4 => (simp only [List.getElem?_toArray, List.getElem?_cons_zero, List.getElem?_cons_succ]; rfl)
          case hqra4 => exact fun _ _ _ h => h
          case hyra4 => (refine Or.inl ⟨by rfl, ?_⟩; intro w' hSw; (try dsimp only at hSw); go_simp; try with_reducible rfl)
          (try simp only [Act.put, List.setIfInBounds_toArray, List.set_cons_zero, List.set_cons_succ])
          refine' wpAnyT_take (i := 5) (oi := ?oira5) (v := ?vra5) ?hira5 (by kernel_rfl) (by kernel_rfl) ?hqra5 ?hyra5 hHeld ?restra5
          case hira5 => (simp only [List.getElem?_toArray, List.getElem?_cons_zero, List.getElem?_cons_succ]; rfl)
          case hqra5 => exact fun _ _ _ h => h
          case hyra5 => (refine Or.inl ⟨by rfl, ?_⟩; intro w' hSw; (try dsimp only at hSw); go_simp; try with_reducible rfl)
          (try simp only [Act.put, List.setIfInBounds_toArray, List.set_cons_zero, List.set_cons_succ])
          refine' wpAnyT_take (i := 6) (oi := ?oira6) (v := ?vra6) ?hira6 (by kernel_rfl) (by kernel_rfl) ?hqra6 ?hyra6 hHeld ?restra6
          case hira6 => (simp only [List.getElem?_toArray, List.getElem?_cons_zero, List.getElem?_cons_succ]; rfl)
          case hqra6 => exact fun _ _ _ h => h
          case hyra6 => (refine Or.inl ⟨by rfl, ?_⟩; intro w' hSw; (try dsimp only at hSw); go_simp; try with_reducible rfl)
          (try simp only [Act.put, List.setIfInBounds_toArray, List.set_cons_zero, List.set_cons_succ])
          refine' wpAnyT_one (i := 7) (o := ?oira7) (by kernel_rfl) ?hira7 (fun K hK => ?stra7)
          case hira7 => (simp only [List.getElem?_toArray, List.getElem?_cons_zero, List.getElem?_cons_succ]; rfl)
          go_simp
          go_at_call 36
          refine (HCE.out X0 (HB7.out.trans (hB0.mono HB7.out.size))).mono ?_
          rintro e w3 ⟨dA', dc', rfl, ho3, hb3⟩
          have hbw3 := hB0.trans (hb3.mono hB0.size)
          have hHeld2 := HKra.out w3 hbw3
          go_simp
          refine hK.out _ _ (fun _ => hHeld2) ?_
          clear hK K
          (try simp only [Act.put, List.setIfInBounds_toArray, List.set_cons_zero, List.set_cons_succ])
          refine' wpAnyT_one (i := 8) (o := ?oira8) (by kernel_rfl) ?hira8 (fun K hK => ?stra8)
          case hira8 => (simp only [List.getElem?_toArray, List.getElem?_cons_zero, List.getElem?_cons_succ]; rfl)
          go_simp
          obtain ⟨W4, hW4⟩ : ∃ W4, w3.alloc (.cells #[.int .i64 xt, .int .i64 xn, .int .i64 xk, .int .i64 xo, .slice dA' xp.length dc'] 32) = W4 := ⟨_, rfl⟩
          rw [hW4]
          have hb4 : Below w3.heap.size w3 W4 := by rw [← hW4]; exact al1 _ _
          have hbw4 := hbw3.trans (hb4.mono hbw3.size)
          have hHeld3 := HKra.out W4 hbw4
          have hc4 := heap_alloc_new w3 (.cells #[.int .i64 xt, .int .i64 xn, .int .i64 xk, .int .i64 xo, .slice dA' xp.length dc'] 32)
          rw [hW4] at hc4
          refine hK.out _ _ (fun _ => hHeld3) ?_
          clear hK K
          (try simp only [Act.put, List.setIfInBounds_toArray, List.set_cons_zero, List.set_cons_succ])
          refine' wpAnyT_one (i := 9) (o := ?oira9) (by kernel_rfl) ?hira9 (fun K hK => ?stra9)
          case hira9 => (simp only [List.getElem?_toArray, List.getElem?_cons_zero, List.getElem?_cons_succ]; rfl)
          refine step_append_ev rfl (.tmp 90) (.tmp 97) rfl (h + 2) (.slice a6 (m + 1) c6) (m + 1) _ (by simp [Act.eval]) (own_keep HO7.out (keep_below hbw4)) [.int .i64 xt, .int .i64 xn, .int .i64 xk, .int .i64 xo, .slice dA' xp.length dc'] rfl (ev_one _ _ _ _ _ _ _) ⟨w3.heap.size, 0, none⟩ 1 (by simp [Act.eval]) (fun j u hu => by rw [add_at, cell_of_row _ _ _ _ _ _ hc4]; simpa using hu) (by omega) (Nat.le_trans HHW7.out hbw4.size) ?_
          intro v5 w5 ho5 hg5
          have how := own_keep HO7.out (keep_below hbw4)
          have hbT := (HB7.out.trans (hbw4.mono HB7.out.size))
          have HB5 := hid (hbT.grown hg5 hbT.size (fun k e => by have := (how.lt k e).1; have := HG.out; omega))
          have HP5 := hid (fun x hx => ((HP7.out x hx).keep (keep_below hbw4)).keep (keep_grown (T := 5) how (by decide) hg5))
          have HQ5 := hid (own_keep (own_keep ho3 (keep_below hb4)) (keep_grown (T := 5) how (by decide) hg5))
          have hY5 := keep_grown (T := 24) how (by decide) hg5 _ _ ((hbw4.block _ (box_lt HY7.out)).trans HY7.out)
          have HZ5 := hid ((hg5.block h (Nat.lt_of_lt_of_le (box_lt HZ7.out) hbw4.size) (fun e => by have := (how.lt h e.symm).1; omega)).trans ((hbw4.block _ (box_lt HZ7.out)).trans HZ7.out))
          have HPX5 := hid ((HPX7.out.keep (keep_below hbw4)).keep (keep_grown (T := 5) how (by decide) hg5))
          have HK24 := hid (show Keep 24 wq w5 from (keep_below hbw4).trans (keep_grown (T := 24) how (by decide) hg5))
          have HS5 := hid (Nat.le_trans hbw4.size hg5.size)
          obtain ⟨a5, c5, rfl⟩ := own_form32 ho5
          have HY5 := hid hY5
          have HO5 := hid ho5
          clear ho5 hg5 how hY5 hbT hc4 hHeld3 hHeld2 hHeld
          refine hK.out _ _ (fun h => absurd h (by decide)) ?_
          clear hK K
          (try simp only [Act.put, List.setIfInBounds_toArray, List.set_cons_zero, List.set_cons_succ])
          refine' wpAnyT_one (i := 10) (o := ?oira10) (by kernel_rfl) ?hira10 (fun K hK => ?stra10)
          case hira10 => (simp only [List.getElem?_toArray, List.getElem?_cons_zero, List.getElem?_cons_succ]; rfl)
          go_simp
          refine hK.out _ _ (fun h => absurd h (by decide)) ?_
          clear hK K
          (try simp only [Act.put, List.setIfInBounds_toArray, List.set_cons_zero, List.set_cons_succ])
          have y0 := cell_of_row _ _ 0 _ _ _ HY5.out
          have fy0 := box_fr HY5.out 0
          refine' wpAnyT_one (i := 11) (o := ?oira11) (by kernel_rfl) ?hira11 (fun K hK => ?stra11)
          case hira11 => (simp only [List.getElem?_toArray, List.getElem?_cons_zero, List.getElem?_cons_succ]; rfl)
          go_simp
          refine hK.out _ _ (fun h => absurd h (by decide)) ?_
          clear hK K
          (try simp only [Act.put, List.setIfInBounds_toArray, List.set_cons_zero, List.set_cons_succ])
          refine wpAnyT_done (by kernel_rfl) ?_ _
          have hX5 := HK24.out _ _ HX7.out
          have hR5 := HK24.out _ _ HRR7.out
          have hy6 := box_set (cs := [.slice a6 (m + 1) c6, .int .i64 (next + 1)]) HY5.out 0 (.slice a5 ((m + 1) + 1) c5)
          have hne := own_ne HO5.out HY5.out (by decide)
          have HX6 := hid ((Below.heap_setCell w5 ⟨h + 1, 0, none⟩ (.slice a5 ((m + 1) + 1) c5) g (show g ≠ h + 1 by omega)).trans hX5)
          have HR6 := hid ((Below.heap_setCell w5 ⟨h + 1, 0, none⟩ (.slice a5 ((m + 1) + 1) c5) (g + 1) (show g + 1 ≠ h + 1 by omega)).trans hR5)
          have HZ6 := hid ((Below.heap_setCell w5 ⟨h + 1, 0, none⟩ (.slice a5 ((m + 1) + 1) c5) h (show h ≠ h + 1 by omega)).trans HZ5.out)
          have HY6 := hid hy6
          have HO6 := hid (own_off HO5.out hne 0 (.slice a5 ((m + 1) + 1) c5))
          have hks : Keep 5 w5 (w5.setCell ⟨h + 1, 0, none⟩ (.slice a5 ((m + 1) + 1) c5)) := fun k cs hk => (Below.heap_setCell _ _ _ _ (fun e => by rw [show k = h + 1 from e, HY5.out] at hk; cases hk)).trans hk
          have HP6 := hid (fun x hx => (HP5.out x hx).keep hks)
          have HPX6 := hid (HPX5.out.keep hks)
          have HQ6 := hid (own_keep HQ5.out hks)
          have HB6 := hid (HB5.out.setCell (p := ⟨h + 1, 0, none⟩) (by rw [HG.out]; show g ≤ h + 1; omega) (.slice a5 ((m + 1) + 1) c5))
          have HHW6 : Hid (h + 2 ≤ (w5.setCell ⟨h + 1, 0, none⟩ (.slice a5 ((m + 1) + 1) c5)).heap.size) := hid (by have h := Nat.le_trans HHW7.out HS5.out; simpa [World.setCell] using h)
          clear hX5 hR5 hy6 hne hks y0 fy0
          go_wp2_with fail
          go_roundw
          case rel => exact ⟨k + 1, (m + 1) + 1, a5, c5, (vs ++ [(⟨t, next, kd, o, .slice xA p.length xc, p⟩ : Ev)]) ++ [⟨xt, xn, xk, xo, .slice dA' xp.length dc', xp⟩], by omega, by go_num, by simp, hid (by rw [List.length_append, HL7.out]; rfl), hid (by omega), hid (by rw [List.map_append, List.map_append, HVS.out, HTK.out]; rfl), HX6, HR6, HZ6, HY6, HPX6, HHW6, hid (by rw [List.map_append, List.flatten_append]; simpa [cEv] using HO6.out), hid (fun x hx => (List.mem_append.1 hx).elim (HP6.out x) (fun hx => by rw [List.mem_singleton] at hx; subst hx; exact ⟨⟨_, HQ6.out⟩, H8.out⟩)), HB6⟩
          case measure => simp [Lib.intOf]; omega
        · skip
          have hbl := Nat.lt_of_lt_of_le hblw HB.out.size
          have q0 := (HB.out.cell (p := ⟨b, off + k * 5, none⟩) hblw).trans p0
          have q1 := (HB.out.cell (p := ⟨b, off + k * 5 + 1, none⟩) hblw).trans p1
          have q2 := (HB.out.cell (p := ⟨b, off + k * 5 + 2, none⟩) hblw).trans p2
          have q3 := (HB.out.cell (p := ⟨b, off + k * 5 + 3, none⟩) hblw).trans p3
          have q4 := (HB.out.cell (p := ⟨b, off + k * 5 + 4, none⟩) hblw).trans p4
          have HTK := hid (show vs.map core ++ [core ⟨xt, xn, xk, xo, xd, xp⟩] = outE (l.map core) u (t, next, kd, o, p) (k + 1) from by rw [HVS.out]; rcases Nat.lt_or_gt_of_ne huk with h | h; exact (outE_lt h HXC.out).symm; exact (outE_gt h HXC.out).symm)
          by_cases hlt : u < k
          · clear huk
            have hp0 : decide (u < k) = true := decide_eq_true hlt
            have hp1 : decide (u < k + 1) = true := decide_eq_true (by omega)
            rw [hp0]
            clear hp0 HXC
            go_wp2_with fail
            have HKrc := hid (fun (X : World) (hX : Below wr.heap.size wr X) => And.intro ((hX.cell (p := ⟨h + 1, 0, none⟩) (box_lt HY.out)).trans y0) (And.intro ((hX.cell (p := ⟨g, 0, none⟩) (box_lt HX.out)).trans x0) (And.intro ((hX.cell (p := ⟨b, off + k * 5, none⟩) hbl).trans q0) (And.intro ((hX.cell (p := ⟨b, off + k * 5 + 1, none⟩) hbl).trans q1) (And.intro ((hX.cell (p := ⟨b, off + k * 5 + 2, none⟩) hbl).trans q2) (And.intro ((hX.cell (p := ⟨b, off + k * 5 + 3, none⟩) hbl).trans q3) ((hX.cell (p := ⟨b, off + k * 5 + 4, none⟩) hbl).trans q4)))))))
            refine region_tail 9 (fun X => X.cell? ⟨h + 1, 0, none⟩ = some (.slice uA m uc) ∧ X.cell? ⟨g, 0, none⟩ = some (.slice (some ⟨b, off, none⟩) N c) ∧ X.cell? ⟨b, off + k * 5, none⟩ = some (.int .i64 xt) ∧ X.cell? ⟨b, off + k * 5 + 1, none⟩ = some (.int .i64 xn) ∧ X.cell? ⟨b, off + k * 5 + 2, none⟩ = some (.int .i64 xk) ∧ X.cell? ⟨b, off + k * 5 + 3, none⟩ = some (.int .i64 xo) ∧ X.cell? ⟨b, off + k * 5 + 4, none⟩ = some xd) (by kernel_rfl) ?_
            obtain ⟨X0, hX0⟩ : ∃ X, wr.drew = X := ⟨_, rfl⟩
            have hB0 : Below wr.heap.size wr X0 := by rw [← hX0]; exact (Below.refl wr.heap.size wr).drew
            have hHeld := HKrc.out X0 hB0
            rw [hX0]
            clear hX0
            refine' wpAnyT_take (i := 0) (oi := ?oirc0) (v := ?vrc0) ?hirc0 (by kernel_rfl) (by kernel_rfl) ?hqrc0 ?hyrc0 hHeld ?restrc0
            case hirc0 => (simp only [List.getElem?_toArray, List.getElem?_cons_zero]; rfl)
            case hqrc0 => exact fun _ _ _ h => h
            case hyrc0 => (refine Or.inl ⟨by rfl, ?_⟩; intro w' hSw; (try dsimp only at hSw); go_simp; try with_reducible rfl)
            (try simp only [Act.put, List.setIfInBounds_toArray, List.set_cons_zero, List.set_cons_succ])
            refine' wpAnyT_take (i := 1) (oi := ?oirc1) (v := ?vrc1) ?hirc1 (by kernel_rfl) (by kernel_rfl) ?hqrc1 ?hyrc1 hHeld ?restrc1
            case hirc1 => (simp only [List.getElem?_toArray, List.getElem?_cons_zero, List.getElem?_cons_succ]; rfl)
            case hqrc1 => exact fun _ _ _ h => h
            case hyrc1 => (refine Or.inl ⟨by rfl, ?_⟩; intro w' hSw; (try dsimp only at hSw); go_simp; try with_reducible rfl)
            (try simp only [Act.put, List.setIfInBounds_toArray, List.set_cons_zero, List.set_cons_succ])
            refine' wpAnyT_take (i := 2) (oi := ?oirc2) (v := ?vrc2) ?hirc2 (by kernel_rfl) (by kernel_rfl) ?hqrc2 ?hyrc2 hHeld ?restrc2
            case hirc2 => (simp only [List.getElem?_toArray, List.getElem?_cons_zero, List.getElem?_cons_succ]; rfl)
            case hqrc2 => exact fun _ _ _ h => h
            case hyrc2 => (refine Or.inl ⟨by rfl, ?_⟩; intro w' hSw; (try dsimp only at hSw); go_simp; try with_reducible rfl)
            (try simp only [Act.put, List.setIfInBounds_toArray, List.set_cons_zero, List.set_cons_succ])
            refine' wpAnyT_take (i := 3) (oi := ?oirc3) (v := ?vrc3) ?hirc3 (by kernel_rfl) (by kernel_rfl) ?hqrc3 ?hyrc3 hHeld ?restrc3
            case hirc3 => (simp only [List.getElem?_toArray, List.getElem?_cons_zero, List.getElem?_cons_succ]; rfl)
            case hqrc3 => exact fun _ _ _ h => h
            case hyrc3 => (refine Or.inl ⟨by rfl, ?_⟩; intro w' hSw; (try dsimp only at hSw); go_simp; try with_reducible rfl)
            (try simp only [Act.put, List.setIfInBounds_toArray, List.set_cons_zero, List.set_cons_succ])
            refine' wpAnyT_take (i := 4) (oi := ?oirc4) (v := ?vrc4) ?hirc4 (by kernel_rfl) (by kernel_rfl) ?hqrc4 ?hyrc4 hHeld ?restrc4
            case hirc4 => (simp only [List.getElem?_toArray, List.getElem?_cons_zero, List.getElem?_cons_succ]; rfl)
            case hqrc4 => exact fun _ _ _ h => h
            case hyrc4 => (refine Or.inl ⟨by rfl, ?_⟩; intro w' hSw; (try dsimp only at hSw); go_simp; try with_reducible rfl)
            (try simp only [Act.put, List.setIfInBounds_toArray, List.set_cons_zero, List.set_cons_succ])
            refine' wpAnyT_take (i := 5) (oi := ?oirc5) (v := ?vrc5) ?hirc5 (by kernel_rfl) (by kernel_rfl) ?hqrc5 ?hyrc5 hHeld ?restrc5
            case hirc5 => (simp only [List.getElem?_toArray, List.getElem?_cons_zero, List.getElem?_cons_succ]; rfl)
            case hqrc5 => exact fun _ _ _ h => h
            case hyrc5 => (refine Or.inl ⟨by rfl, ?_⟩; intro w' hSw; (try dsimp only at hSw); go_simp; try with_reducible rfl)
            (try simp only [Act.put, List.setIfInBounds_toArray, List.set_cons_zero, List.set_cons_succ])
            refine' wpAnyT_take (i := 6) (oi := ?oirc6) (v := ?vrc6) ?hirc6 (by kernel_rfl) (by kernel_rfl) ?hqrc6 ?hyrc6 hHeld ?restrc6
            case hirc6 => (simp only [List.getElem?_toArray, List.getElem?_cons_zero, List.getElem?_cons_succ]; rfl)
            case hqrc6 => exact fun _ _ _ h => h
            case hyrc6 => (refine Or.inl ⟨by rfl, ?_⟩; intro w' hSw; (try dsimp only at hSw); go_simp; try with_reducible rfl)
            (try simp only [Act.put, List.setIfInBounds_toArray, List.set_cons_zero, List.set_cons_succ])
            refine' wpAnyT_one (i := 7) (o := ?oirc7) (by kernel_rfl) ?hirc7 (fun K hK => ?strc7)
            case hirc7 => (simp only [List.getElem?_toArray, List.getElem?_cons_zero, List.getElem?_cons_succ]; rfl)
            go_simp
            go_at_call 36
            refine (HCE.out X0 (HB.out.trans (hB0.mono HB.out.size))).mono ?_
            rintro e w3 ⟨dA', dc', rfl, ho3, hb3⟩
            have hbw3 := hB0.trans (hb3.mono hB0.size)
            have hHeld2 := HKrc.out w3 hbw3
            go_simp
            refine hK.out _ _ (fun _ => hHeld2) ?_
            clear hK K
            (try simp only [Act.put, List.setIfInBounds_toArray, List.set_cons_zero, List.set_cons_succ])
            refine' wpAnyT_one (i := 8) (o := ?oirc8) (by kernel_rfl) ?hirc8 (fun K hK => ?strc8)
            case hirc8 => (simp only [List.getElem?_toArray, List.getElem?_cons_zero, List.getElem?_cons_succ]; rfl)
            go_simp
            obtain ⟨W4, hW4⟩ : ∃ W4, w3.alloc (.cells #[.int .i64 xt, .int .i64 xn, .int .i64 xk, .int .i64 xo, .slice dA' xp.length dc'] 32) = W4 := ⟨_, rfl⟩
            rw [hW4]
            have hb4 : Below w3.heap.size w3 W4 := by rw [← hW4]; exact al1 _ _
            have hbw4 := hbw3.trans (hb4.mono hbw3.size)
            have hHeld3 := HKrc.out W4 hbw4
            have hc4 := heap_alloc_new w3 (.cells #[.int .i64 xt, .int .i64 xn, .int .i64 xk, .int .i64 xo, .slice dA' xp.length dc'] 32)
            rw [hW4] at hc4
            refine hK.out _ _ (fun _ => hHeld3) ?_
            clear hK K
            (try simp only [Act.put, List.setIfInBounds_toArray, List.set_cons_zero, List.set_cons_succ])
            refine' wpAnyT_one (i := 9) (o := ?oirc9) (by kernel_rfl) ?hirc9 (fun K hK => ?strc9)
            case hirc9 => (simp only [List.getElem?_toArray, List.getElem?_cons_zero, List.getElem?_cons_succ]; rfl)
            refine step_append_ev rfl (.tmp 90) (.tmp 97) rfl (h + 2) (.slice uA m uc) m _ (by simp [Act.eval]) (own_keep HO.out (keep_below hbw4)) [.int .i64 xt, .int .i64 xn, .int .i64 xk, .int .i64 xo, .slice dA' xp.length dc'] rfl (ev_one _ _ _ _ _ _ _) ⟨w3.heap.size, 0, none⟩ 1 (by simp [Act.eval]) (fun j u hu => by rw [add_at, cell_of_row _ _ _ _ _ _ hc4]; simpa using hu) (by omega) (Nat.le_trans HHW.out hbw4.size) ?_
            intro v5 w5 ho5 hg5
            have how := own_keep HO.out (keep_below hbw4)
            have hbT := (HB.out.trans (hbw4.mono HB.out.size))
            have HB5 := hid (hbT.grown hg5 hbT.size (fun k e => by have := (how.lt k e).1; have := HG.out; omega))
            have HP5 := hid (fun x hx => ((HP.out x hx).keep (keep_below hbw4)).keep (keep_grown (T := 5) how (by decide) hg5))
            have HQ5 := hid (own_keep (own_keep ho3 (keep_below hb4)) (keep_grown (T := 5) how (by decide) hg5))
            have hY5 := keep_grown (T := 24) how (by decide) hg5 _ _ ((hbw4.block _ (box_lt HY.out)).trans HY.out)
            have HZ5 := hid ((hg5.block h (Nat.lt_of_lt_of_le (box_lt HZ.out) hbw4.size) (fun e => by have := (how.lt h e.symm).1; omega)).trans ((hbw4.block _ (box_lt HZ.out)).trans HZ.out))
            have HPX5 := hid ((HPX.out.keep (keep_below hbw4)).keep (keep_grown (T := 5) how (by decide) hg5))
            have HK24 := hid (show Keep 24 wr w5 from (keep_below hbw4).trans (keep_grown (T := 24) how (by decide) hg5))
            have HS5 := hid (Nat.le_trans hbw4.size hg5.size)
            obtain ⟨a5, c5, rfl⟩ := own_form32 ho5
            have HY5 := hid hY5
            have HO5 := hid ho5
            clear ho5 hg5 how hY5 hbT hc4 hHeld3 hHeld2 hHeld
            refine hK.out _ _ (fun h => absurd h (by decide)) ?_
            clear hK K
            (try simp only [Act.put, List.setIfInBounds_toArray, List.set_cons_zero, List.set_cons_succ])
            refine' wpAnyT_one (i := 10) (o := ?oirc10) (by kernel_rfl) ?hirc10 (fun K hK => ?strc10)
            case hirc10 => (simp only [List.getElem?_toArray, List.getElem?_cons_zero, List.getElem?_cons_succ]; rfl)
            go_simp
            refine hK.out _ _ (fun h => absurd h (by decide)) ?_
            clear hK K
            (try simp only [Act.put, List.setIfInBounds_toArray, List.set_cons_zero, List.set_cons_succ])
            have y0 := cell_of_row _ _ 0 _ _ _ HY5.out
            have fy0 := box_fr HY5.out 0
            refine' wpAnyT_one (i := 11) (o := ?oirc11) (by kernel_rfl) ?hirc11 (fun K hK => ?strc11)
            case hirc11 => (simp only [List.getElem?_toArray, List.getElem?_cons_zero, List.getElem?_cons_succ]; rfl)
            go_simp
            refine hK.out _ _ (fun h => absurd h (by decide)) ?_
            clear hK K
            (try simp only [Act.put, List.setIfInBounds_toArray, List.set_cons_zero, List.set_cons_succ])
            refine wpAnyT_done (by kernel_rfl) ?_ _
            have hX5 := HK24.out _ _ HX.out
            have hR5 := HK24.out _ _ HRR.out
            have hy6 := box_set (cs := [.slice uA m uc, .int .i64 (next + 1)]) HY5.out 0 (.slice a5 (m + 1) c5)
            have hne := own_ne HO5.out HY5.out (by decide)
            have HX6 := hid ((Below.heap_setCell w5 ⟨h + 1, 0, none⟩ (.slice a5 (m + 1) c5) g (show g ≠ h + 1 by omega)).trans hX5)
            have HR6 := hid ((Below.heap_setCell w5 ⟨h + 1, 0, none⟩ (.slice a5 (m + 1) c5) (g + 1) (show g + 1 ≠ h + 1 by omega)).trans hR5)
            have HZ6 := hid ((Below.heap_setCell w5 ⟨h + 1, 0, none⟩ (.slice a5 (m + 1) c5) h (show h ≠ h + 1 by omega)).trans HZ5.out)
            have HY6 := hid hy6
            have HO6 := hid (own_off HO5.out hne 0 (.slice a5 (m + 1) c5))
            have hks : Keep 5 w5 (w5.setCell ⟨h + 1, 0, none⟩ (.slice a5 (m + 1) c5)) := fun k cs hk => (Below.heap_setCell _ _ _ _ (fun e => by rw [show k = h + 1 from e, HY5.out] at hk; cases hk)).trans hk
            have HP6 := hid (fun x hx => (HP5.out x hx).keep hks)
            have HPX6 := hid (HPX5.out.keep hks)
            have HQ6 := hid (own_keep HQ5.out hks)
            have HB6 := hid (HB5.out.setCell (p := ⟨h + 1, 0, none⟩) (by rw [HG.out]; show g ≤ h + 1; omega) (.slice a5 (m + 1) c5))
            have HHW6 : Hid (h + 2 ≤ (w5.setCell ⟨h + 1, 0, none⟩ (.slice a5 (m + 1) c5)).heap.size) := hid (by have h := Nat.le_trans HHW.out HS5.out; simpa [World.setCell] using h)
            clear hX5 hR5 hy6 hne hks y0 fy0
            go_wp2_with fail
            go_roundw
            case rel => exact ⟨k + 1, m + 1, a5, c5, vs ++ [⟨xt, xn, xk, xo, .slice dA' xp.length dc', xp⟩], by omega, by go_num, by rw [hp1], hid (by rw [List.length_append, HL.out]; rfl), hid (by omega), hid (by rw [List.map_append, ← HTK.out]; rfl), HX6, HR6, HZ6, HY6, HPX6, HHW6, hid (by rw [List.map_append, List.flatten_append]; simpa [cEv] using HO6.out), hid (fun x hx => (List.mem_append.1 hx).elim (HP6.out x) (fun hx => by rw [List.mem_singleton] at hx; subst hx; exact ⟨⟨_, HQ6.out⟩, H8.out⟩)), HB6⟩
            case measure => simp [Lib.intOf]; omega
          · have hlt2 : k < u := by omega
            clear huk hlt
            have hp0 : decide (u < k) = false := decide_eq_false (by omega)
            have hp1 : decide (u < k + 1) = false := decide_eq_false (by omega)
            have hgt : decide (t < xt) = false := decide_eq_false (by have := unt_lt (l := l.map core) (t := t) (k := k) (by rw [HU.out]; omega) HXC.out; dsimp only [core] at this; omega)
            rw [hp0]
            clear hp0 HXC
            go_wp2_with fail
            have HKrb := hid (fun (X : World) (hX : Below wr.heap.size wr X) => And.intro ((hX.cell (p := ⟨h + 1, 0, none⟩) (box_lt HY.out)).trans y0) (And.intro ((hX.cell (p := ⟨g, 0, none⟩) (box_lt HX.out)).trans x0) (And.intro ((hX.cell (p := ⟨b, off + k * 5, none⟩) hbl).trans q0) (And.intro ((hX.cell (p := ⟨b, off + k * 5 + 1, none⟩) hbl).trans q1) (And.intro ((hX.cell (p := ⟨b, off + k * 5 + 2, none⟩) hbl).trans q2) (And.intro ((hX.cell (p := ⟨b, off + k * 5 + 3, none⟩) hbl).trans q3) ((hX.cell (p := ⟨b, off + k * 5 + 4, none⟩) hbl).trans q4)))))))
            refine region_tail 9 (fun X => X.cell? ⟨h + 1, 0, none⟩ = some (.slice uA m uc) ∧ X.cell? ⟨g, 0, none⟩ = some (.slice (some ⟨b, off, none⟩) N c) ∧ X.cell? ⟨b, off + k * 5, none⟩ = some (.int .i64 xt) ∧ X.cell? ⟨b, off + k * 5 + 1, none⟩ = some (.int .i64 xn) ∧ X.cell? ⟨b, off + k * 5 + 2, none⟩ = some (.int .i64 xk) ∧ X.cell? ⟨b, off + k * 5 + 3, none⟩ = some (.int .i64 xo) ∧ X.cell? ⟨b, off + k * 5 + 4, none⟩ = some xd) (by kernel_rfl) ?_
            obtain ⟨X0, hX0⟩ : ∃ X, wr.drew = X := ⟨_, rfl⟩
            have hB0 : Below wr.heap.size wr X0 := by rw [← hX0]; exact (Below.refl wr.heap.size wr).drew
            have hHeld := HKrb.out X0 hB0
            rw [hX0]
            clear hX0
            refine' wpAnyT_take (i := 0) (oi := ?oirb0) (v := ?vrb0) ?hirb0 (by kernel_rfl) (by kernel_rfl) ?hqrb0 ?hyrb0 hHeld ?restrb0
            case hirb0 => (simp only [List.getElem?_toArray, List.getElem?_cons_zero]; rfl)
            case hqrb0 => exact fun _ _ _ h => h
            case hyrb0 => (refine Or.inl ⟨by rfl, ?_⟩; intro w' hSw; (try dsimp only at hSw); go_simp; try with_reducible rfl)
            (try simp only [Act.put, List.setIfInBounds_toArray, List.set_cons_zero, List.set_cons_succ])
            refine' wpAnyT_take (i := 1) (oi := ?oirb1) (v := ?vrb1) ?hirb1 (by kernel_rfl) (by kernel_rfl) ?hqrb1 ?hyrb1 hHeld ?restrb1
            case hirb1 => (simp only [List.getElem?_toArray, List.getElem?_cons_zero, List.getElem?_cons_succ]; rfl)
            case hqrb1 => exact fun _ _ _ h => h
            case hyrb1 => (refine Or.inl ⟨by rfl, ?_⟩; intro w' hSw; (try dsimp only at hSw); go_simp; try with_reducible rfl)
            (try simp only [Act.put, List.setIfInBounds_toArray, List.set_cons_zero, List.set_cons_succ])
            refine' wpAnyT_take (i := 2) (oi := ?oirb2) (v := ?vrb2) ?hirb2 (by kernel_rfl) (by kernel_rfl) ?hqrb2 ?hyrb2 hHeld ?restrb2
            case hirb2 => (simp only [List.getElem?_toArray, List.getElem?_cons_zero, List.getElem?_cons_succ]; rfl)
            case hqrb2 => exact fun _ _ _ h => h
            case hyrb2 => (refine Or.inl ⟨by rfl, ?_⟩; intro w' hSw; (try dsimp only at hSw); go_simp; try with_reducible rfl)
            (try simp only [Act.put, List.setIfInBounds_toArray, List.set_cons_zero, List.set_cons_succ])
            refine' wpAnyT_take (i := 3) (oi := ?oirb3) (v := ?vrb3) ?hirb3 (by kernel_rfl) (by kernel_rfl) ?hqrb3 ?hyrb3 hHeld ?restrb3
            case hirb3 => (simp only [List.getElem?_toArray, List.getElem?_cons_zero, List.getElem?_cons_succ]; rfl)
            case hqrb3 => exact fun _ _ _ h => h
            case hyrb3 => (refine Or.inl ⟨by rfl, ?_⟩; intro w' hSw; (try dsimp only at hSw); go_simp; try with_reducible rfl)
            (try simp only [Act.put, List.setIfInBounds_toArray, List.set_cons_zero, List.set_cons_succ])
            refine' wpAnyT_take (i := 4) (oi := ?oirb4) (v := ?vrb4) ?hirb4 (by kernel_rfl) (by kernel_rfl) ?hqrb4 ?hyrb4 hHeld ?restrb4
            case hirb4 => (simp only [List.getElem?_toArray, List.getElem?_cons_zero, List.getElem?_cons_succ]; rfl)
            case hqrb4 => exact fun _ _ _ h => h
            case hyrb4 => (refine Or.inl ⟨by rfl, ?_⟩; intro w' hSw; (try dsimp only at hSw); go_simp; try with_reducible rfl)
            (try simp only [Act.put, List.setIfInBounds_toArray, List.set_cons_zero, List.set_cons_succ])
            refine' wpAnyT_take (i := 5) (oi := ?oirb5) (v := ?vrb5) ?hirb5 (by kernel_rfl) (by kernel_rfl) ?hqrb5 ?hyrb5 hHeld ?restrb5
            case hirb5 => (simp only [List.getElem?_toArray, List.getElem?_cons_zero, List.getElem?_cons_succ]; rfl)
            case hqrb5 => exact fun _ _ _ h => h
            case hyrb5 => (refine Or.inl ⟨by rfl, ?_⟩; intro w' hSw; (try dsimp only at hSw); go_simp; try with_reducible rfl)
            (try simp only [Act.put, List.setIfInBounds_toArray, List.set_cons_zero, List.set_cons_succ])
            refine' wpAnyT_take (i := 6) (oi := ?oirb6) (v := ?vrb6) ?hirb6 (by kernel_rfl) (by kernel_rfl) ?hqrb6 ?hyrb6 hHeld ?restrb6
            case hirb6 => (simp only [List.getElem?_toArray, List.getElem?_cons_zero, List.getElem?_cons_succ]; rfl)
            case hqrb6 => exact fun _ _ _ h => h
            case hyrb6 => (refine Or.inl ⟨by rfl, ?_⟩; intro w' hSw; (try dsimp only at hSw); go_simp; try with_reducible rfl)
            (try simp only [Act.put, List.setIfInBounds_toArray, List.set_cons_zero, List.set_cons_succ])
            refine' wpAnyT_one (i := 7) (o := ?oirb7) (by kernel_rfl) ?hirb7 (fun K hK => ?strb7)
            case hirb7 => (simp only [List.getElem?_toArray, List.getElem?_cons_zero, List.getElem?_cons_succ]; rfl)
            go_simp
            go_at_call 36
            refine (HCE.out X0 (HB.out.trans (hB0.mono HB.out.size))).mono ?_
            rintro e w3 ⟨dA', dc', rfl, ho3, hb3⟩
            have hbw3 := hB0.trans (hb3.mono hB0.size)
            have hHeld2 := HKrb.out w3 hbw3
            go_simp
            refine hK.out _ _ (fun _ => hHeld2) ?_
            clear hK K
            (try simp only [Act.put, List.setIfInBounds_toArray, List.set_cons_zero, List.set_cons_succ])
            refine' wpAnyT_one (i := 8) (o := ?oirb8) (by kernel_rfl) ?hirb8 (fun K hK => ?strb8)
            case hirb8 => (simp only [List.getElem?_toArray, List.getElem?_cons_zero, List.getElem?_cons_succ]; rfl)
            go_simp
            obtain ⟨W4, hW4⟩ : ∃ W4, w3.alloc (.cells #[.int .i64 xt, .int .i64 xn, .int .i64 xk, .int .i64 xo, .slice dA' xp.length dc'] 32) = W4 := ⟨_, rfl⟩
            rw [hW4]
            have hb4 : Below w3.heap.size w3 W4 := by rw [← hW4]; exact al1 _ _
            have hbw4 := hbw3.trans (hb4.mono hbw3.size)
            have hHeld3 := HKrb.out W4 hbw4
            have hc4 := heap_alloc_new w3 (.cells #[.int .i64 xt, .int .i64 xn, .int .i64 xk, .int .i64 xo, .slice dA' xp.length dc'] 32)
            rw [hW4] at hc4
            refine hK.out _ _ (fun _ => hHeld3) ?_
            clear hK K
            (try simp only [Act.put, List.setIfInBounds_toArray, List.set_cons_zero, List.set_cons_succ])
            refine' wpAnyT_one (i := 9) (o := ?oirb9) (by kernel_rfl) ?hirb9 (fun K hK => ?strb9)
            case hirb9 => (simp only [List.getElem?_toArray, List.getElem?_cons_zero, List.getElem?_cons_succ]; rfl)
            refine step_append_ev rfl (.tmp 90) (.tmp 97) rfl (h + 2) (.slice uA m uc) m _ (by simp [Act.eval]) (own_keep HO.out (keep_below hbw4)) [.int .i64 xt, .int .i64 xn, .int .i64 xk, .int .i64 xo, .slice dA' xp.length dc'] rfl (ev_one _ _ _ _ _ _ _) ⟨w3.heap.size, 0, none⟩ 1 (by simp [Act.eval]) (fun j u hu => by rw [add_at, cell_of_row _ _ _ _ _ _ hc4]; simpa using hu) (by omega) (Nat.le_trans HHW.out hbw4.size) ?_
            intro v5 w5 ho5 hg5
            have how := own_keep HO.out (keep_below hbw4)
            have hbT := (HB.out.trans (hbw4.mono HB.out.size))
            have HB5 := hid (hbT.grown hg5 hbT.size (fun k e => by have := (how.lt k e).1; have := HG.out; omega))
            have HP5 := hid (fun x hx => ((HP.out x hx).keep (keep_below hbw4)).keep (keep_grown (T := 5) how (by decide) hg5))
            have HQ5 := hid (own_keep (own_keep ho3 (keep_below hb4)) (keep_grown (T := 5) how (by decide) hg5))
            have hY5 := keep_grown (T := 24) how (by decide) hg5 _ _ ((hbw4.block _ (box_lt HY.out)).trans HY.out)
            have HZ5 := hid ((hg5.block h (Nat.lt_of_lt_of_le (box_lt HZ.out) hbw4.size) (fun e => by have := (how.lt h e.symm).1; omega)).trans ((hbw4.block _ (box_lt HZ.out)).trans HZ.out))
            have HPX5 := hid ((HPX.out.keep (keep_below hbw4)).keep (keep_grown (T := 5) how (by decide) hg5))
            have HK24 := hid (show Keep 24 wr w5 from (keep_below hbw4).trans (keep_grown (T := 24) how (by decide) hg5))
            have HS5 := hid (Nat.le_trans hbw4.size hg5.size)
            obtain ⟨a5, c5, rfl⟩ := own_form32 ho5
            have HY5 := hid hY5
            have HO5 := hid ho5
            clear ho5 hg5 how hY5 hbT hc4 hHeld3 hHeld2 hHeld
            refine hK.out _ _ (fun h => absurd h (by decide)) ?_
            clear hK K
            (try simp only [Act.put, List.setIfInBounds_toArray, List.set_cons_zero, List.set_cons_succ])
            refine' wpAnyT_one (i := 10) (o := ?oirb10) (by kernel_rfl) ?hirb10 (fun K hK => ?strb10)
            case hirb10 => (simp only [List.getElem?_toArray, List.getElem?_cons_zero, List.getElem?_cons_succ]; rfl)
            go_simp
            refine hK.out _ _ (fun h => absurd h (by decide)) ?_
            clear hK K
            (try simp only [Act.put, List.setIfInBounds_toArray, List.set_cons_zero, List.set_cons_succ])
            have y0 := cell_of_row _ _ 0 _ _ _ HY5.out
            have fy0 := box_fr HY5.out 0
            refine' wpAnyT_one (i := 11) (o := ?oirb11) (by kernel_rfl) ?hirb11 (fun K hK => ?strb11)
            case hirb11 => (simp only [List.getElem?_toArray, List.getElem?_cons_zero, List.getElem?_cons_succ]; rfl)
            go_simp
            refine hK.out _ _ (fun h => absurd h (by decide)) ?_
            clear hK K
            (try simp only [Act.put, List.setIfInBounds_toArray, List.set_cons_zero, List.set_cons_succ])
            refine wpAnyT_done (by kernel_rfl) ?_ _
            have hX5 := HK24.out _ _ HX.out
            have hR5 := HK24.out _ _ HRR.out
            have hy6 := box_set (cs := [.slice uA m uc, .int .i64 (next + 1)]) HY5.out 0 (.slice a5 (m + 1) c5)
            have hne := own_ne HO5.out HY5.out (by decide)
            have HX6 := hid ((Below.heap_setCell w5 ⟨h + 1, 0, none⟩ (.slice a5 (m + 1) c5) g (show g ≠ h + 1 by omega)).trans hX5)
            have HR6 := hid ((Below.heap_setCell w5 ⟨h + 1, 0, none⟩ (.slice a5 (m + 1) c5) (g + 1) (show g + 1 ≠ h + 1 by omega)).trans hR5)
            have HZ6 := hid ((Below.heap_setCell w5 ⟨h + 1, 0, none⟩ (.slice a5 (m + 1) c5) h (show h ≠ h + 1 by omega)).trans HZ5.out)
            have HY6 := hid hy6
            have HO6 := hid (own_off HO5.out hne 0 (.slice a5 (m + 1) c5))
            have hks : Keep 5 w5 (w5.setCell ⟨h + 1, 0, none⟩ (.slice a5 (m + 1) c5)) := fun k cs hk => (Below.heap_setCell _ _ _ _ (fun e => by rw [show k = h + 1 from e, HY5.out] at hk; cases hk)).trans hk
            have HP6 := hid (fun x hx => (HP5.out x hx).keep hks)
            have HPX6 := hid (HPX5.out.keep hks)
            have HQ6 := hid (own_keep HQ5.out hks)
            have HB6 := hid (HB5.out.setCell (p := ⟨h + 1, 0, none⟩) (by rw [HG.out]; show g ≤ h + 1; omega) (.slice a5 (m + 1) c5))
            have HHW6 : Hid (h + 2 ≤ (w5.setCell ⟨h + 1, 0, none⟩ (.slice a5 (m + 1) c5)).heap.size) := hid (by have h := Nat.le_trans HHW.out HS5.out; simpa [World.setCell] using h)
            clear hX5 hR5 hy6 hne hks y0 fy0
            go_wp2_with fail
            go_roundw
            case rel => exact ⟨k + 1, m + 1, a5, c5, vs ++ [⟨xt, xn, xk, xo, .slice dA' xp.length dc', xp⟩], by omega, by go_num, by rw [hp1], hid (by rw [List.length_append, HL.out]; rfl), hid (by omega), hid (by rw [List.map_append, ← HTK.out]; rfl), HX6, HR6, HZ6, HY6, HPX6, HHW6, hid (by rw [List.map_append, List.flatten_append]; simpa [cEv] using HO6.out), hid (fun x hx => (List.mem_append.1 hx).elim (HP6.out x) (fun hx => by rw [List.mem_singleton] at hx; subst hx; exact ⟨⟨_, HQ6.out⟩, H8.out⟩)), HB6⟩
            case measure => simp [Lib.intOf]; omega
      · obtain rfl : k = N := by omega
        have x1 := cell_of_row _ _ 1 _ _ _ HX.out
        have hll : (l.map core).length = k := by rw [List.length_map, HN.out]
        have HLL := hid hll
        have hgl := box_lt HRR.out
        clear hll
        by_cases hlt : u < k
        · have hp0 : decide (u < k) = true := decide_eq_true hlt
          rw [hp0]
          have r0 := cell_of_row _ _ 0 _ _ _ HRR.out
          have r1 := cell_of_row _ _ 1 _ _ _ HRR.out
          have fr0 := box_fr HRR.out 0
          have fr1 := box_fr HRR.out 1
          have HFA : Hid (vs.map core = insE (l.map core) t (t, next, kd, o, p)) := hid (by
            rw [HVS.out, ← outE_all (by rw [HU.out, HLL.out]; exact hlt), HU.out, HLL.out])
          clear hp0 hlt
          go_wp2_with fail
          go_region
          go_wp2_with fail
          refine bodyPost_ret (results_v_tmp2 rfl _ _ (g + 1) _ rfl (lv24 (show ((set2 wr (g + 1) (.slice uA m uc) (.int .i64 (next + 1))).drew).heap[g + 1]? = _ from set2h _ _ HRR.out)) _ rfl _ rfl) rfl ?_
          refine .inr ⟨_, _, HR.out, rfl, .slice uA m uc, vs, rfl, ?_, ?_, fun x hx => ?_, ?_⟩
          · rw [HL.out]
            exact set2r _ _ (own_base HO.out (by rw [HG.out]; omega)) (own_ne HO.out HRR.out (by decide))
          · exact HFA.out
          · exact Pay.keep (w := wr) (HP.out x hx) (fun j cs hj => (set2o _ _ (fun e => by rw [e, HRR.out] at hj; cases hj)).trans hj)
          · exact (set2b _ _ HB.out (by rw [HG.out]; omega)).drew
        · have huk : u = k := by omega
          have hp0 : decide (u < k) = false := decide_eq_false hlt
          rw [hp0]
          have HFA : Hid (vs.map core ++ [(t, next, kd, o, p)] = insE (l.map core) t (t, next, kd, o, p)) := hid (by
            rw [HVS.out, ← outE_end (by rw [HU.out, HLL.out]; exact huk), HU.out, HLL.out])
          have z0 := cell_of_row _ _ 0 _ _ _ HZ.out
          have z1 := cell_of_row _ _ 1 _ _ _ HZ.out
          have z2 := cell_of_row _ _ 2 _ _ _ HZ.out
          have z3 := cell_of_row _ _ 3 _ _ _ HZ.out
          have z4 := cell_of_row _ _ 4 _ _ _ HZ.out
          have hmk := HMK.out
          clear hp0 hlt huk
          go_wp2_with (at_builtin; go_loud (refine append_ev rfl (.tmp 103) (.tmp 105) rfl (h + 2) (.slice uA m uc) m _ rfl (own_keep HO.out (keep_below (al1 _ _))) [.int .i64 t, .int .i64 next, .int .i64 kd, .int .i64 o, .slice xA p.length xc] rfl (ev_one _ _ _ _ _ _ _) ⟨wr.heap.size, 0, none⟩ 1 rfl (fun j u hu => by rw [add_at, cell_of_row _ _ _ _ _ _ (heap_alloc_new _ _)]; simpa using hu) (by omega) (Nat.le_trans HHW.out (al1 _ _).size) ?_); intro v6 w6 ho6 hg6; have hbw := (al1 wr (.cells #[.int .i64 t, .int .i64 next, .int .i64 kd, .int .i64 o, .slice xA p.length xc] 32)); have how := own_keep HO.out (keep_below hbw); have hbT := (HB.out.trans (hbw.mono HB.out.size)); have HB6 := hid (hbT.grown hg6 hbT.size (fun k e => by have := (how.lt k e).1; have := HHW.out; have := HG.out; omega)); have HP6 := hid (fun x hx => ((HP.out x hx).keep (keep_below hbw)).keep (keep_grown (T := 5) how (by decide) hg6)); have HPX6 := hid ((HPX.out.keep (keep_below hbw)).keep (keep_grown (T := 5) how (by decide) hg6)); have HY6 := hid (keep_grown (T := 24) how (by decide) hg6 _ _ ((hbw.block _ (box_lt HY.out)).trans HY.out)); have HX6 := hid (keep_grown (T := 24) how (by decide) hg6 _ _ ((hbw.block _ (box_lt HX.out)).trans HX.out)); have HRR6 := hid (keep_grown (T := 24) how (by decide) hg6 _ _ ((hbw.block _ (box_lt HRR.out)).trans HRR.out)); have HZ6 := hid ((hg6.block h (Nat.lt_of_lt_of_le (box_lt HZ.out) hbw.size) (fun e => by have := (how.lt h e.symm).1; omega)).trans ((hbw.block _ (box_lt HZ.out)).trans HZ.out)); have HHW6 := hid (Nat.le_trans HHW.out (Nat.le_trans hbw.size hg6.size)); obtain ⟨a6, c6, rfl⟩ := own_form32 ho6; have HO6 := hid ho6; clear ho6 hg6 how hbT hbw; have y0 := cell_of_row _ _ 0 _ _ _ HY6.out; have fy0 := box_fr HY6.out 0)
          have hks : ∀ (j : Nat), j ≠ h + 1 → (w6.setCell ⟨h + 1, 0, none⟩ (.slice a6 (m + 1) c6)).heap[j]? = w6.heap[j]? := fun j hj => Below.heap_setCell _ _ _ _ hj
          have hy7 := box_set (cs := [.slice uA m uc, .int .i64 (next + 1)]) HY6.out 0 (.slice a6 (m + 1) c6)
          have ho7 := own_off HO6.out (own_ne HO6.out HY6.out (by decide)) 0 (.slice a6 (m + 1) c6)
          have hb7 : Below w.heap.size w (w6.setCell ⟨h + 1, 0, none⟩ (.slice a6 (m + 1) c6)) := HB6.out.setCell (p := ⟨h + 1, 0, none⟩) (by rw [HG.out]; show g ≤ h + 1; omega) _
          obtain ⟨wq, hwq⟩ : ∃ X, w6.setCell ⟨h + 1, 0, none⟩ (.slice a6 (m + 1) c6) = X := ⟨_, rfl⟩
          rw [hwq] at hks hy7 ho7 hb7 ⊢
          have hk5 : Keep 5 w6 wq := fun j cs hj => (hks j (fun e => by rw [e, HY6.out] at hj; cases hj)).trans hj
          have HX7 := hid ((hks g (by omega)).trans HX6.out)
          have HRR7 := hid ((hks (g + 1) (by omega)).trans HRR6.out)
          have HY7 := hid hy7
          have HPX7 := hid (HPX6.out.keep hk5)
          have HO7 : Hid (wq.ownsRow (h + 2) 32 5 (.slice a6 (m + 1) c6) (m + 1) ((vs ++ [(⟨t, next, kd, o, .slice xA p.length xc, p⟩ : Ev)]).map cEv).flatten) := hid (by rw [List.map_append, List.flatten_append]; simpa [cEv] using ho7)
          have HP7 : Hid (∀ x ∈ vs ++ [(⟨t, next, kd, o, .slice xA p.length xc, p⟩ : Ev)], Pay wq x) := hid (fun x hx => (List.mem_append.1 hx).elim (fun hx => (HP6.out x hx).keep hk5) (fun hx => by rw [List.mem_singleton] at hx; subst hx; exact HPX7.out))
          have HB7 := hid hb7
          have HL7 : Hid ((vs ++ [(⟨t, next, kd, o, .slice xA p.length xc, p⟩ : Ev)]).length = m + 1) := hid (by rw [List.length_append, HL.out]; rfl)
          clear hks hy7 ho7 hb7 hk5 x0 y0 y1 fy0 z0 z1 z2 z3 z4 hgl x1
          have y0 := cell_of_row _ _ 0 _ _ _ HY7.out
          have y1 := cell_of_row _ _ 1 _ _ _ HY7.out
          have x1 := cell_of_row _ _ 1 _ _ _ HX7.out
          have r0 := cell_of_row _ _ 0 _ _ _ HRR7.out
          have r1 := cell_of_row _ _ 1 _ _ _ HRR7.out
          have fr0 := box_fr HRR7.out 0
          have fr1 := box_fr HRR7.out 1
          go_wp2_with fail
          go_region
          go_wp2_with fail
          refine bodyPost_ret (results_v_tmp2 rfl _ _ (g + 1) _ rfl (lv24 (show ((set2 wq (g + 1) (.slice a6 (m + 1) c6) (.int .i64 (next + 1))).drew).heap[g + 1]? = _ from set2h _ _ HRR7.out)) _ rfl _ rfl) rfl ?_
          refine .inr ⟨_, _, HR.out, rfl, .slice a6 (m + 1) c6, (vs ++ [(⟨t, next, kd, o, .slice xA p.length xc, p⟩ : Ev)]), rfl, ?_, ?_, fun x hx => ?_, ?_⟩
          · rw [HL7.out]
            exact set2r _ _ (own_base HO7.out (by rw [HG.out]; omega)) (own_ne HO7.out HRR7.out (by decide))
          · rw [List.map_append]; exact HFA.out
          · exact Pay.keep (w := wq) (HP7.out x hx) (fun j cs hj => (set2o _ _ (fun e => by rw [e, HRR7.out] at hj; cases hj)).trans hj)
          · exact (set2b _ _ HB7.out (by rw [HG.out]; omega)).drew
  · have d1 : (ck != 0) = true := by rw [bne_iff_ne]; exact hc0
    have HR : Hid (addS (l.map core) next t kd o p = .error ck) := hid (by unfold addS; rw [HCE.out, if_pos hc0])
    clear hc0
    go_wp2_with fail
    refine bodyPost_ret (results_v_tmp2 rfl _ _ (g + 1) _ rfl (lv24 (set2h _ _ HY2.out)) _ rfl _ rfl) rfl ?_
    exact .inl ⟨ck, HR.out, rfl, set2b _ _ HB2.out (by rw [HG.out]; omega)⟩
end Go.Proofs.Ytjpfogdfgcfkcaa
