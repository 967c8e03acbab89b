/- SameEvents, Same of the reference, on lists and queues that are equal; First, of queues in order. -/
import Derived.Test.YtjpfogdfgcfkcaaSe
namespace Go.Proofs.Ytjpfogdfgcfkcaa
open Go.RowKit Go.Lib

set_option maxHeartbeats 4000000 in
set_option maxRecDepth 100000 in
theorem sameEvs_any (l r : List Ev) (v u : Value) (w : World) (hv : EL w v l) (hu : EL w u r) (hl : l.length ≤ 100000) (he : l.map core = r.map core) :
    Calls Try.prog 26 #[v, u] w fun e w' => e = .returned (.bool true) ∧ Below w.heap.size w w' := by
  obtain ⟨A, c, rfl⟩ := el_form hv
  obtain ⟨B, d, rfl⟩ := el_form hu
  have hlr : r.length = l.length := by have := congrArg List.length he; rw [List.length_map, List.length_map] at this; exact this.symm
  obtain ⟨N, hN⟩ : ∃ N, l.length = N := ⟨_, rfl⟩
  rw [hN] at hv hl hlr ⊢
  rw [hlr] at hu ⊢
  have HV := hid hv
  have HU := hid hu
  have HN := hid hN
  have HM := hid hlr
  have HE := hid he
  have d1 : ((N : Int) != (N : Int)) = false := by simp
  clear hv hu hN hlr he
  go_enter Try.func26, Try.ntmps26
  go_wp2
  go_loopw [5] (fun i wr => ∃ k : Nat, k ≤ N ∧ i = .int .i64 (k : Int) ∧ Hid (Below w.heap.size w wr)) (fun i _ => N - (Go.RowKit.intOf i).toNat)
  case atStart => exact ⟨0, by omega, rfl, hid (Below.refl _ _)⟩
  case round =>
    obtain ⟨k, hk, rfl, HB⟩ := hrel
    by_cases hkl : k < N
    · have hkl' : (k : Int) < (N : Int) := by omega
      obtain ⟨b, off, rfl, hbl, hc⟩ := el_cells HV.out (by rw [HN.out]; omega)
      obtain ⟨b2, off2, rfl, hbl2, hc2⟩ := el_cells HU.out (by rw [HM.out]; omega)
      obtain ⟨x, hx⟩ : ∃ x, l[k]? = some x := ⟨l[k]'(by rw [HN.out]; exact hkl), List.getElem?_eq_getElem _⟩
      obtain ⟨z, hz⟩ : ∃ z, r[k]? = some z := ⟨r[k]'(by rw [HM.out]; exact hkl), List.getElem?_eq_getElem _⟩
      have hzc : core z = core x := by
        have h := congrArg (fun l => l[k]?) HE.out
        simp only [List.getElem?_map, hx, hz, Option.map_some] at h
        injection h with h
        exact h.symm
      obtain ⟨p0, p1, p2, p3, p4⟩ := hc k x hx
      obtain ⟨q0, q1, q2, q3, q4⟩ := hc2 k z hz
      have hxb := (HV.out.1 x (List.mem_of_getElem? hx)).1
      have hzb := (HU.out.1 z (List.mem_of_getElem? hz)).1
      obtain ⟨xt, xn, xk, xo, xd, xp⟩ := x
      obtain ⟨zt, zn, zk, zo, zd, zp⟩ := z
      dsimp only at p0 p1 p2 p3 p4 q0 q1 q2 q3 q4 hxb hzb
      obtain ⟨rfl, rfl, rfl, rfl, rfl⟩ : zt = xt ∧ zn = xn ∧ zk = xk ∧ zo = xo ∧ zp = xp := by
        have h := hzc
        unfold core at h
        simp only [Prod.mk.injEq] at h
        exact h
      obtain ⟨xA, xc, rfl⟩ := byt_form hxb
      obtain ⟨zA, zc, rfl⟩ := byt_form hzb
      obtain ⟨xm, hxm⟩ : ∃ xm, zp.length = xm := ⟨_, rfl⟩
      rw [hxm] at p4 q4 hxb hzb
      have HK := hid (fun (X : World) (hX : Below w.heap.size w X) => And.intro ((hX.cell (p := ⟨b, off + k * 5, none⟩) hbl).trans p0) (And.intro ((hX.cell (p := ⟨b, off + k * 5 + 1, none⟩) hbl).trans p1) (And.intro ((hX.cell (p := ⟨b, off + k * 5 + 2, none⟩) hbl).trans p2) (And.intro ((hX.cell (p := ⟨b, off + k * 5 + 3, none⟩) hbl).trans p3) ((hX.cell (p := ⟨b, off + k * 5 + 4, none⟩) hbl).trans p4)))))
      have HK2 := hid (fun (X : World) (hX : Below w.heap.size w X) => And.intro ((hX.cell (p := ⟨b2, off2 + k * 5, none⟩) hbl2).trans q0) (And.intro ((hX.cell (p := ⟨b2, off2 + k * 5 + 1, none⟩) hbl2).trans q1) (And.intro ((hX.cell (p := ⟨b2, off2 + k * 5 + 2, none⟩) hbl2).trans q2) (And.intro ((hX.cell (p := ⟨b2, off2 + k * 5 + 3, none⟩) hbl2).trans q3) ((hX.cell (p := ⟨b2, off2 + k * 5 + 4, none⟩) hbl2).trans q4)))))
      have HS := hid (fun (X : World) (hX : Below w.heap.size w X) => sameEv_any zt zn zk zo zp _ _ X (hxb.below hX) (hzb.below hX))
      clear p0 p1 p2 p3 p4 q0 q1 q2 q3 q4 hxb hzb hz hx hzc hc hc2 hxm
      obtain ⟨p0, p1, p2, p3, p4⟩ := HK.out wr HB.out
      obtain ⟨q0, q1, q2, q3, q4⟩ := HK2.out wr HB.out
      go_wp2_with fail
      go_region_held3 (fun X => X.cell? ⟨b, off + k * 5, none⟩ = some (.int .i64 zt) ∧ X.cell? ⟨b, off + k * 5 + 1, none⟩ = some (.int .i64 zn) ∧ X.cell? ⟨b, off + k * 5 + 2, none⟩ = some (.int .i64 zk) ∧ X.cell? ⟨b, off + k * 5 + 3, none⟩ = some (.int .i64 zo) ∧ X.cell? ⟨b, off + k * 5 + 4, none⟩ = some (.slice xA xm xc) ∧ X.cell? ⟨b2, off2 + k * 5, none⟩ = some (.int .i64 zt) ∧ X.cell? ⟨b2, off2 + k * 5 + 1, none⟩ = some (.int .i64 zn) ∧ X.cell? ⟨b2, off2 + k * 5 + 2, none⟩ = some (.int .i64 zk) ∧ X.cell? ⟨b2, off2 + k * 5 + 3, none⟩ = some (.int .i64 zo) ∧ X.cell? ⟨b2, off2 + k * 5 + 4, none⟩ = some (.slice zA xm zc)) (go_keep)
        (first | (go_at_call 19; refine (HS.out wr.drew (below_both_drewN HB.out 1)).mono ?_; rintro e w2 ⟨rfl, hb2'⟩; have hb3 : Below wr.heap.size wr w2 := ⟨hb2'.os, hb2'.tape, hb2'.output, hb2'.size, hb2'.block⟩; have HB2 := hid (HB.out.trans (hb3.mono HB.out.size)); obtain ⟨p0, p1, p2, p3, p4⟩ := HK.out w2 HB2.out; obtain ⟨q0, q1, q2, q3, q4⟩ := HK2.out w2 HB2.out; clear hb2' hb3))
      go_wp2_with fail
      go_roundw
      case rel => exact ⟨k + 1, by omega, by go_num, HB2⟩
      case measure => simp [Go.RowKit.intOf]; omega
    · obtain rfl : k = N := by omega
      go_wp2
      go_ret
      exact ⟨rfl, HB.out⟩

set_option maxHeartbeats 4000000 in
set_option maxRecDepth 100000 in
theorem sameQ_any (l r : List Ev) (v u : Value) (next : Int) (w : World) (hv : EL w v l) (hu : EL w u r) (hl : l.length ≤ 100000) (he : l.map core = r.map core) :
    Calls Try.prog 16 #[.agg #[v, .int .i64 next], .agg #[u, .int .i64 next]] w fun e w' => e = .returned (.bool true) ∧ Below w.heap.size w w' := by
  obtain ⟨A, c, rfl⟩ := el_form hv
  obtain ⟨B, d, rfl⟩ := el_form hu
  have hlr : r.length = l.length := by have := congrArg List.length he; rw [List.length_map, List.length_map] at this; exact this.symm
  obtain ⟨N, hN⟩ : ∃ N, l.length = N := ⟨_, rfl⟩
  rw [hN] at hv hlr ⊢
  rw [hlr] at hu ⊢
  obtain ⟨W1, hW1⟩ : ∃ W1, (w.alloc (.cells #[.slice A N c, .int .i64 next] 24)).alloc (.cells #[.slice B N d, .int .i64 next] 24) = W1 := ⟨_, rfl⟩
  obtain ⟨g, hg⟩ : ∃ g, w.heap.size = g := ⟨_, rfl⟩
  have hb1 : Below w.heap.size w W1 := by rw [← hW1]; exact ((Below.refl _ w).alloc (Nat.le_refl _) _).alloc (by simp) _
  have hx1 : W1.heap[g]? = some (.cells #[.slice A N c, .int .i64 next] 24) := by rw [← hW1, ← hg]; exact (Below.heap_alloc _ _ _ (by simp)).trans (heap_alloc_new w _)
  have hy1 : W1.heap[g + 1]? = some (.cells #[.slice B N d, .int .i64 next] 24) := by
    rw [← hW1, ← hg]
    have h := heap_alloc_new (w.alloc (.cells #[.slice A N c, .int .i64 next] 24)) (.cells #[.slice B N d, .int .i64 next] 24)
    simpa using h
  have HS := hid (sameEvs_any l r _ _ W1 (hv.below hb1) (hu.below hb1) hl he)
  have d0 : (next == next) = true := beq_self_eq_true next
  have HB1 := hid hb1
  have HW1 := hid hW1
  have HG := hid hg
  have x0 := cell_of_row _ _ 0 _ _ _ hx1
  have x1 := cell_of_row _ _ 1 _ _ _ hx1
  have y0 := cell_of_row _ _ 0 _ _ _ hy1
  have y1 := cell_of_row _ _ 1 _ _ _ hy1
  clear hv hu hlr hN he hb1 hx1 hy1 hW1 hg hl
  go_enter Try.func16, Try.ntmps16
  go_wp2_with fail
  rw [HW1.out]
  refine HS.out.mono ?_
  rintro e w2 ⟨rfl, hb2⟩
  have HB2 := hid (HB1.out.trans (hb2.mono HB1.out.size))
  clear hb2
  go_wp2
  go_ret
  exact ⟨rfl, HB2.out⟩

/-- What First answers, of a queue in order. -/
def FstQ (w : World) (l : List Ec) (e : Ending) (w' : World) : Prop :=
  Below w.heap.size w w' ∧ ((l = [] ∧ e = .returned (.tuple #[.agg #[.int .i64 0, .int .i64 0, .int .i64 0, .int .i64 0, .slice none 0 0], .bool false])) ∨
  (∃ (y : Ec) (r : List Ec) (x : Ev), l = y :: r ∧ e = .returned (.tuple #[.agg #[.int .i64 x.t, .int .i64 x.n, .int .i64 x.k, .int .i64 x.o, x.d], .bool true]) ∧ core x = y ∧ Pay w' x))

set_option maxHeartbeats 4000000 in
set_option maxRecDepth 100000 in
theorem first_any (l : List Ev) (v : Value) (next : Int) (w : World) (hv : EL w v l) (hr : ∀ x ∈ l, R64 x.n) (hb : ∀ x ∈ l, x.p.length ≤ 100000) (hok : chk (l.map core) next = 0) :
    Calls Try.prog 17 #[.agg #[v, .int .i64 next]] w (FstQ w (l.map core)) := by
  obtain ⟨A, c, rfl⟩ := el_form hv
  obtain ⟨N, hN⟩ : ∃ N, l.length = N := ⟨_, rfl⟩
  rw [hN] at hv ⊢
  obtain ⟨W1, hW1⟩ : ∃ W1, (w.alloc (.cells #[.slice A N c, .int .i64 next] 24)).alloc (.cells #[.int .i64 0, .int .i64 0, .int .i64 0, .int .i64 0, .slice none 0 0] 32) = W1 := ⟨_, rfl⟩
  obtain ⟨g, hg⟩ : ∃ g, w.heap.size = g := ⟨_, rfl⟩
  have hb1 : Below w.heap.size w W1 := by rw [← hW1]; exact ((Below.refl _ w).alloc (Nat.le_refl _) _).alloc (by simp) _
  have hx1 : W1.heap[g]? = some (.cells #[.slice A N c, .int .i64 next] 24) := by rw [← hW1, ← hg]; exact (Below.heap_alloc _ _ _ (by simp)).trans (heap_alloc_new w _)
  have hu1 : W1.heap[g + 1]? = some (.cells #[.int .i64 0, .int .i64 0, .int .i64 0, .int .i64 0, .slice none 0 0] 32) := by
    rw [← hW1, ← hg]
    have h := heap_alloc_new (w.alloc (.cells #[.slice A N c, .int .i64 next] 24)) (.cells #[.int .i64 0, .int .i64 0, .int .i64 0, .int .i64 0, .slice none 0 0] 32)
    simpa using h
  have hz1 : W1.heap.size = g + 2 := by rw [← hW1, ← hg]; simp
  have x0 : W1.cell? ⟨g, 0, none⟩ = some (.slice A N c) := cell_of_row _ _ 0 _ _ _ hx1
  have x1 : W1.cell? ⟨g, 1, none⟩ = some (.int .i64 next) := cell_of_row _ _ 1 _ _ _ hx1
  have HV := hid hv
  have HCK := hid (fun (X : World) (hX : Below w.heap.size w X) => check_any l _ next X (hv.below hX) hr)
  rw [hok] at HCK
  have HPB := hid hb
  have HN := hid hN
  have HB1 := hid hb1
  have HX1 := hid hx1
  have HU1 := hid hu1
  have HZ1 := hid hz1
  have HW1 := hid hW1
  have HG := hid hg
  clear hv hN hr hb hb1 hx1 hu1 hz1 hW1 hg hok
  go_enter Try.func17, Try.ntmps17
  go_wp2_with fail
  rw [HW1.out, HG.out]
  refine (HCK.out W1 HB1.out).mono ?_
  rintro e w2 ⟨rfl, hb2⟩
  have HX2 := hid ((hb2.block _ (box_lt HX1.out)).trans HX1.out)
  have HU2 := hid ((hb2.block _ (box_lt HU1.out)).trans HU1.out)
  have HB2 := hid (HB1.out.trans (hb2.mono HB1.out.size))
  have hz2 : g + 2 ≤ w2.heap.size := by rw [← HZ1.out]; exact hb2.size
  clear hb2 x0 x1 HCK
  have x0 := cell_of_row _ _ 0 _ _ _ HX2.out
  by_cases hn0 : N = 0
  · have d0 : ((N : Int) == 0) = true := by rw [beq_iff_eq]; omega
    have HE : Hid (l.map core = []) := hid (by rw [List.eq_nil_of_length_eq_zero (HN.out.trans hn0)]; rfl)
    have z0 := cell_of_row _ _ 0 _ _ _ HU2.out
    have z1 := cell_of_row _ _ 1 _ _ _ HU2.out
    have z2 := cell_of_row _ _ 2 _ _ _ HU2.out
    have z3 := cell_of_row _ _ 3 _ _ _ HU2.out
    have z4 := cell_of_row _ _ 4 _ _ _ HU2.out
    have fz0 := box_fr HU2.out 0
    have fz1 := box_fr HU2.out 1
    have fz2 := box_fr HU2.out 2
    have fz3 := box_fr HU2.out 3
    have fz4 := box_fr HU2.out 4
    clear hn0
    go_wp2_with fail
    refine bodyPost_ret (results_v_tmp rfl _ _ (g + 1) _ rfl (lv32 (set5h _ _ _ _ _ HU2.out)) _ rfl) rfl ?_
    exact ⟨set5b _ _ _ _ _ HB2.out (by rw [HG.out]; omega), .inl ⟨HE.out, rfl⟩⟩
  have d0 : ((N : Int) == 0) = false := by rw [beq_eq_false_iff_ne]; omega
  have hN0 : (0 : Int) < (N : Int) := by omega
  have hN1 : 0 < N := by omega
  obtain ⟨b, off, rfl, hbl, hc⟩ := el_cells HV.out (by rw [HN.out]; omega)
  obtain ⟨x, r, hxr⟩ : ∃ x r, l = x :: r := by
    rcases l with _ | ⟨x, r⟩
    · have := HN.out; simp at this; omega
    · exact ⟨x, r, rfl⟩
  obtain ⟨p0, p1, p2, p3, p4⟩ := hc 0 x (by rw [hxr]; rfl)
  rw [Nat.zero_mul, Nat.add_zero] at p0 p1 p2 p3 p4
  have hxb := HV.out.1 x (by rw [hxr]; exact List.mem_cons_self ..)
  have hxl := HPB.out x (by rw [hxr]; exact List.mem_cons_self ..)
  have HMAP : Hid (l.map core = core x :: r.map core) := hid (by rw [hxr]; rfl)
  clear hxr hc hn0
  obtain ⟨xt, xn, xk, xo, xd, xp⟩ := x
  dsimp only at p0 p1 p2 p3 p4 hxb hxl
  obtain ⟨xA, xc, rfl⟩ := byt_form hxb.1
  obtain ⟨xm, hxm⟩ : ∃ xm, xp.length = xm := ⟨_, rfl⟩
  rw [hxm] at p4 hxb hxl
  have HXM := hid hxm
  have HCE := hid (copiedEvent_any xt xn xk xo xA xm xc xp w2 (hxb.1.below HB2.out) hxb.2 (by omega))
  have HP8 : Hid (B8 xp) := hid hxb.1.1
  have q0 := (HB2.out.cell (p := ⟨b, off, none⟩) hbl).trans p0
  have q1 := (HB2.out.cell (p := ⟨b, off + 1, none⟩) hbl).trans p1
  have q2 := (HB2.out.cell (p := ⟨b, off + 2, none⟩) hbl).trans p2
  have q3 := (HB2.out.cell (p := ⟨b, off + 3, none⟩) hbl).trans p3
  have q4 := (HB2.out.cell (p := ⟨b, off + 4, none⟩) hbl).trans p4
  clear p0 p1 p2 p3 p4 hxb hxm
  go_wp2_with fail
  refine HCE.out.mono ?_
  rintro e w3 ⟨eA, ec, rfl, ho3, hb3⟩
  have hu3 := (hb3.block _ (box_lt HU2.out)).trans HU2.out
  have hbw := HB2.out.trans (hb3.mono HB2.out.size)
  have z0 := cell_of_row _ _ 0 _ _ _ hu3
  have z1 := cell_of_row _ _ 1 _ _ _ hu3
  have z2 := cell_of_row _ _ 2 _ _ _ hu3
  have z3 := cell_of_row _ _ 3 _ _ _ hu3
  have z4 := cell_of_row _ _ 4 _ _ _ hu3
  have fz0 := box_fr hu3 0
  have fz1 := box_fr hu3 1
  have fz2 := box_fr hu3 2
  have fz3 := box_fr hu3 3
  have fz4 := box_fr hu3 4
  go_wp2_with fail
  have hkeep : Keep 5 w3 (set5 w3 (g + 1) (.int .i64 xt) (.int .i64 xn) (.int .i64 xk) (.int .i64 xo) (.slice eA xm ec)) := fun k cs hk => (set5o _ _ _ _ _ (fun e => by rw [e, hu3] at hk; cases hk)).trans hk
  refine bodyPost_ret (results_v_tmp rfl _ _ (g + 1) _ rfl (lv32 (set5h _ _ _ _ _ hu3)) _ rfl) rfl ?_
  exact ⟨set5b _ _ _ _ _ hbw (by rw [HG.out]; omega), .inr ⟨_, _, ⟨xt, xn, xk, xo, .slice eA xm ec, xp⟩, HMAP.out, rfl, rfl, Pay.keep (x := ⟨xt, xn, xk, xo, .slice eA xm ec, xp⟩) ⟨⟨_, ho3⟩, HP8.out⟩ hkeep⟩⟩
end Go.Proofs.Ytjpfogdfgcfkcaa
