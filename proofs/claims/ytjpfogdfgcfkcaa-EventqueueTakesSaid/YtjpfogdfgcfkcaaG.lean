/- The place of an event: the closure, Search, place, until. -/
import Derived.Test.YtjpfogdfgcfkcaaF
namespace Go.Proofs.Ytjpfogdfgcfkcaa
open Go.RowKit Go.Lib

/-- The boxes of place: the list, the event, how to compare. -/
def Bx (w : World) (b3 b4 b5 : Nat) (A : Option Addr) (n c : Nat) (t next : Int) : Prop :=
  w.heap[b3]? = some (.cells #[.slice A n c] 22) ∧ w.heap[b4]? = some (.cells #[.int .i64 t, .int .i64 next, .int .i64 0, .int .i64 0, .slice none 0 0] 61) ∧ w.heap[b5]? = some (.cells #[.func (.func 31) #[] #[]] 77)
theorem Bx.below {w w' : World} {b3 b4 b5 : Nat} {A : Option Addr} {n c : Nat} {t next : Int} (h : Bx w b3 b4 b5 A n c t next) (hb : Below w.heap.size w w') : Bx w' b3 b4 b5 A n c t next :=
  ⟨(hb.block _ (box_lt h.1)).trans h.1, (hb.block _ (box_lt h.2.1)).trans h.2.1, (hb.block _ (box_lt h.2.2)).trans h.2.2⟩
set_option maxHeartbeats 4000000 in
set_option maxRecDepth 100000 in
theorem geq_any (l : List Ev) (A : Option Addr) (n c i : Nat) (t next : Int) (b3 b4 b5 : Nat) (w : World) (hv : EL w (.slice A n c) l) (x : Ev) (hx : l[i]? = some x) (hbx : Bx w b3 b4 b5 A n c t next) :
    Calls Try.prog 51 #[.int .i64 (i : Int), .pointer (some ⟨b5, 0, none⟩), .pointer (some ⟨b3, 0, none⟩), .pointer (some ⟨b4, 0, none⟩)] w fun e w' => e = .returned (.bool (decide (0 ≤ cmpE x.t x.n t next))) ∧ Below w.heap.size w w' := by
  have hcap := el_cap hv
  have hi := (List.getElem?_eq_some_iff.1 hx).1
  obtain ⟨b, off, rfl, hbl, hc⟩ := el_cells hv (by omega)
  obtain ⟨q0, q1, q2, q3, q4⟩ := hc i x hx
  have hxb := (hv.1 x (List.mem_of_getElem? hx)).1
  obtain ⟨xt, xn, xk, xo, xd, xp⟩ := x
  dsimp only at q0 q1 q2 q3 q4 hxb ⊢
  obtain ⟨xA, xc, rfl⟩ := byt_form hxb
  obtain ⟨xm, hxm⟩ : ∃ xm, xp.length = xm := ⟨_, rfl⟩
  rw [hxm] at q4
  have HCM := hid (fun W => compare_any xt xn xk xo t next 0 0 xA none xm xc 0 0 W)
  obtain ⟨cm, hcm⟩ : ∃ cm, cmpE xt xn t next = cm := ⟨_, rfl⟩
  rw [hcm] at HCM ⊢
  have hin : (i : Int) < (n : Int) := by omega
  have hbx1 := hbx.1
  have hbx2 := hbx.2.1
  have hbx3 := hbx.2.2
  have y3 := cell_of_row _ _ 0 _ _ _ hbx1
  have y5 := cell_of_row _ _ 0 _ _ _ hbx3
  have z0 := cell_of_row _ _ 0 _ _ _ hbx2
  have z1 := cell_of_row _ _ 1 _ _ _ hbx2
  have z2 := cell_of_row _ _ 2 _ _ _ hbx2
  have z3 := cell_of_row _ _ 3 _ _ _ hbx2
  have z4 := cell_of_row _ _ 4 _ _ _ hbx2
  have hl3 := box_lt hbx1
  have hl4 := box_lt hbx2
  have hl5 := box_lt hbx3
  clear hc hx hv hxb hxm hcm hbx hbx1 hbx2 hbx3 hcap
  go_enter Try.func51, Try.ntmps51
  go_wp2_with fail
  go_region_held3 (fun X => X.cell? ⟨b3, 0, none⟩ = some (.slice (some ⟨b, off, none⟩) n c) ∧ X.cell? ⟨b5, 0, none⟩ = some (.func (.func 31) #[] #[]) ∧ X.cell? ⟨b4, 0, none⟩ = some (.int .i64 t) ∧ X.cell? ⟨b4, 1, none⟩ = some (.int .i64 next) ∧ X.cell? ⟨b4, 2, none⟩ = some (.int .i64 0) ∧ X.cell? ⟨b4, 3, none⟩ = some (.int .i64 0) ∧ X.cell? ⟨b4, 4, none⟩ = some (.slice none 0 0) ∧ X.cell? ⟨b, off + i * 5, none⟩ = some (.int .i64 xt) ∧ X.cell? ⟨b, off + i * 5 + 1, none⟩ = some (.int .i64 xn) ∧ X.cell? ⟨b, off + i * 5 + 2, none⟩ = some (.int .i64 xk) ∧ X.cell? ⟨b, off + i * 5 + 3, none⟩ = some (.int .i64 xo) ∧ X.cell? ⟨b, off + i * 5 + 4, none⟩ = some (.slice xA xm xc)) (go_keep)
    (first | (go_at_call 31; refine (HCM.out w.drew).mono ?_; rintro e w2 ⟨rfl, hb2⟩; have hb : Below w.heap.size w w2 := ⟨hb2.os, hb2.tape, hb2.output, hb2.size, hb2.block⟩; have HB2 := hid hb; have y3 := (hb.cell (p := ⟨b3, 0, none⟩) hl3).trans y3; have y5 := (hb.cell (p := ⟨b5, 0, none⟩) hl5).trans y5; have z0 := (hb.cell (p := ⟨b4, 0, none⟩) hl4).trans z0; have z1 := (hb.cell (p := ⟨b4, 1, none⟩) hl4).trans z1; have z2 := (hb.cell (p := ⟨b4, 2, none⟩) hl4).trans z2; have z3 := (hb.cell (p := ⟨b4, 3, none⟩) hl4).trans z3; have z4 := (hb.cell (p := ⟨b4, 4, none⟩) hl4).trans z4; have q0 := (hb.cell (p := ⟨b, off + i * 5, none⟩) hbl).trans q0; have q1 := (hb.cell (p := ⟨b, off + i * 5 + 1, none⟩) hbl).trans q1; have q2 := (hb.cell (p := ⟨b, off + i * 5 + 2, none⟩) hbl).trans q2; have q3 := (hb.cell (p := ⟨b, off + i * 5 + 3, none⟩) hbl).trans q3; have q4 := (hb.cell (p := ⟨b, off + i * 5 + 4, none⟩) hbl).trans q4; clear hb hb2))
  go_wp2
  go_ret
  exact ⟨rfl, HB2.out⟩

set_option maxHeartbeats 4000000 in
set_option maxRecDepth 100000 in
theorem search_any (l : List Ev) (A : Option Addr) (n c : Nat) (t next : Int) (b3 b4 b5 : Nat) (P : Nat → Bool) (w : World) (hv : EL w (.slice A n c) l) (hn : l.length = n) (hn2 : n ≤ 100000) (hbx : Bx w b3 b4 b5 A n c t next)
    (hP : ∀ i x, l[i]? = some x → P i = decide (0 ≤ cmpE x.t x.n t next)) (hmono : ∀ i j, i ≤ j → j < n → P i = true → P j = true) :
    Calls Try.prog 50 #[.int .i64 (n : Int), .func (.func 51) #[] #[.pointer (some ⟨b5, 0, none⟩), .pointer (some ⟨b3, 0, none⟩), .pointer (some ⟨b4, 0, none⟩)]] w fun e w' => (∃ r : Nat, e = .returned (.int .i64 (r : Int)) ∧ r ≤ n ∧ (∀ i, i < r → P i = false) ∧ (∀ i, r ≤ i → i < n → P i = true)) ∧ Below w.heap.size w w' := by
  have HV := hid hv
  have HBX := hid hbx
  have HP := hid hP
  have HMO := hid hmono
  have HN := hid hn
  clear hv hbx hP hmono hn
  go_enter Try.func50, Try.ntmps50
  go_wp2_with fail
  go_loopw [5, 6] (fun lv hv wr => ∃ lo hi : Nat, lo ≤ hi ∧ hi ≤ n ∧ lv = .int .i64 (lo : Int) ∧ hv = .int .i64 (hi : Int) ∧ Hid (∀ i, i < lo → P i = false) ∧ Hid (∀ i, hi ≤ i → i < n → P i = true) ∧ Hid (Below w.heap.size w wr)) (fun lv hv _ => (Lib.intOf hv).toNat - (Lib.intOf lv).toNat)
  case atStart => exact ⟨0, n, Nat.zero_le _, Nat.le_refl _, rfl, rfl, hid (by omega), hid (by omega), hid (Below.refl _ _)⟩
  case round =>
    obtain ⟨lo, hi, hlh, hhn, rfl, rfl, HLO, HHI, HB⟩ := hrel
    by_cases hlt : lo < hi
    · have dlt : decide ((lo : Int) < (hi : Int)) = true := decide_eq_true (by omega)
      obtain ⟨m, hm⟩ : ∃ m, (lo + hi) / 2 = m := ⟨_, rfl⟩
      obtain ⟨s, hs⟩ : ∃ s, lo + hi = s := ⟨_, rfl⟩
      have hw1 : IntKind.i64.wrap ((lo : Int) + (hi : Int)) = (s : Int) := by rw [IntKind.wrap_i64]; omega
      have hw2 : IntKind.u64.wrap (s : Int) = (s : Int) := by rw [IntKind.wrap_u64]; omega
      have hw3 : IntKind.i64.wrap (m : Int) = (m : Int) := by rw [IntKind.wrap_i64]; omega
      have hw4 : IntKind.u64.wrap (m : Int) = (m : Int) := by rw [IntKind.wrap_u64]; omega
      have hmb : lo ≤ m ∧ m < hi := by omega
      obtain ⟨x, hx⟩ : ∃ x, l[m]? = some x := ⟨l[m]'(by rw [HN.out]; omega), List.getElem?_eq_getElem _⟩
      have HGE := hid (geq_any l A n c m t next b3 b4 b5 wr (HV.out.below HB.out) x hx (HBX.out.below HB.out))
      rw [← HP.out m x hx] at HGE
      have HSM : Hid (wrap64 ((s : Int) / 2) = (m : Int)) := hid (by rw [show (s : Int) / 2 = (m : Int) by omega]; first | exact hw3 | (unfold wrap64; omega))
      obtain ⟨pm, hpm⟩ : ∃ b, P m = b := ⟨_, rfl⟩
      rw [hpm] at HGE
      have HPM := hid hpm
      have hwm : IntKind.i64.wrap ((m : Int) + 1) = ((m + 1 : Nat) : Int) := by rw [IntKind.wrap_i64]; omega
      clear hm hs hx hpm
      go_wp2_with fail
      rw [HSM.out]
      refine HGE.out.mono ?_
      rintro e w2 ⟨rfl, hb2⟩
      have HB2 := hid (HB.out.trans (hb2.mono HB.out.size))
      clear hb2 HGE
      rcases pm with _ | _
      · go_wp2_with fail
        go_roundw
        case rel => exact ⟨m + 1, hi, by omega, hhn, by go_num, rfl, hid (fun i h => by
          rcases hpi : P i with _ | _
          · rfl
          · have := HMO.out i m (by omega) (by omega) hpi
            rw [HPM.out] at this; cases this), HHI, HB2⟩
        case measure => simp [Lib.intOf]; omega
      · go_wp2_with fail
        go_roundw
        case rel => exact ⟨lo, m, by omega, by omega, rfl, by first | rfl | go_num, HLO, hid (fun i h1 h2 => HMO.out m i h1 h2 HPM.out), HB2⟩
        case measure => simp [Lib.intOf]; omega
    · obtain rfl : lo = hi := by omega
      have dlt : decide ((lo : Int) < (lo : Int)) = false := decide_eq_false (by omega)
      go_wp2_with fail
      go_ret
      exact ⟨⟨lo, rfl, hhn, HLO.out, HHI.out⟩, HB.out⟩

set_option maxHeartbeats 4000000 in
set_option maxRecDepth 100000 in
theorem place_any (l : List Ev) (A : Option Addr) (n c : Nat) (t next : Int) (P : Nat → Bool) (w : World) (hv : EL w (.slice A n c) l) (hn : l.length = n) (hn2 : n ≤ 100000)
    (hP : ∀ i x, l[i]? = some x → P i = decide (0 ≤ cmpE x.t x.n t next)) (hmono : ∀ i j, i ≤ j → j < n → P i = true → P j = true) :
    Calls Try.prog 46 #[.slice A n c, .agg #[.int .i64 t, .int .i64 next, .int .i64 0, .int .i64 0, .slice none 0 0], .func (.func 31) #[] #[]] w fun e w' => (∃ r : Nat, e = .returned (.int .i64 (r : Int)) ∧ r ≤ n ∧ (∀ i, i < r → P i = false) ∧ (∀ i, r ≤ i → i < n → P i = true)) ∧ Below w.heap.size w w' := by
  have hmf : ∀ (fn : Fn) (first cap : Array Value) (w : World), (Instr.makeFunc fn first cap).run Try.prog w = .ok (.func fn first cap) w := fun _ _ _ _ => rfl
  obtain ⟨W1, hW1⟩ : ∃ W1, ((w.alloc (.cells #[.slice A n c] 22)).alloc (.cells #[.int .i64 t, .int .i64 next, .int .i64 0, .int .i64 0, .slice none 0 0] 61)).alloc (.cells #[.func (.func 31) #[] #[]] 77) = W1 := ⟨_, rfl⟩
  have hz1 : W1.heap.size = w.heap.size + 3 := by rw [← hW1]; simp
  have hb1 : Below w.heap.size w W1 := by rw [← hW1]; exact (((Below.refl _ w).alloc (Nat.le_refl _) _).alloc (by simp) _).alloc (by simp; omega) _
  have hx3 : W1.heap[w.heap.size]? = some (.cells #[.slice A n c] 22) := by rw [← hW1]; exact (Below.heap_alloc _ _ _ (by simp; omega)).trans ((Below.heap_alloc _ _ _ (by simp)).trans (heap_alloc_new w _))
  have hx4 : W1.heap[w.heap.size + 1]? = some (.cells #[.int .i64 t, .int .i64 next, .int .i64 0, .int .i64 0, .slice none 0 0] 61) := by
    rw [← hW1]
    refine (Below.heap_alloc _ _ _ (by simp)).trans ?_
    have h := heap_alloc_new (w.alloc (.cells #[.slice A n c] 22)) (.cells #[.int .i64 t, .int .i64 next, .int .i64 0, .int .i64 0, .slice none 0 0] 61)
    simpa using h
  have hx5 : W1.heap[w.heap.size + 2]? = some (.cells #[.func (.func 31) #[] #[]] 77) := by
    rw [← hW1]
    have h := heap_alloc_new ((w.alloc (.cells #[.slice A n c] 22)).alloc (.cells #[.int .i64 t, .int .i64 next, .int .i64 0, .int .i64 0, .slice none 0 0] 61)) (.cells #[.func (.func 31) #[] #[]] 77)
    simpa using h
  have HS := hid (search_any l A n c t next w.heap.size (w.heap.size + 1) (w.heap.size + 2) P W1 (hv.below hb1) hn hn2 ⟨hx3, hx4, hx5⟩ hP hmono)
  have y3 : W1.cell? ⟨w.heap.size, 0, none⟩ = some (.slice A n c) := cell_of_row _ _ 0 _ _ _ hx3
  have HB1 := hid hb1
  have HW1 := hid hW1
  clear hv hn hP hmono hb1 hW1 hx3 hx4 hx5 hz1
  go_enter Try.func46, Try.ntmps46
  go_wp2_with fail
  rw [HW1.out]
  refine HS.out.mono ?_
  rintro e w2 ⟨⟨r, rfl, h1, h2, h3⟩, hb2⟩
  have HB2 := hid (HB1.out.trans (hb2.mono HB1.out.size))
  have H2 := hid h2
  have H3 := hid h3
  clear hb2 h2 h3
  go_wp2
  go_ret
  exact ⟨⟨r, rfl, h1, H2.out, H3.out⟩, HB2.out⟩
set_option maxHeartbeats 4000000 in
set_option maxRecDepth 100000 in
theorem untilP_any (l : List Ev) (A : Option Addr) (n c : Nat) (t next : Int) (P : Nat → Bool) (w : World) (hv : EL w (.slice A n c) l) (hn : l.length = n) (hn2 : n ≤ 100000)
    (hP : ∀ i x, l[i]? = some x → P i = decide (0 ≤ cmpE x.t x.n t next)) (hmono : ∀ i j, i ≤ j → j < n → P i = true → P j = true) :
    Calls Try.prog 34 #[.agg #[.slice A n c, .int .i64 next], .int .i64 t] w fun e w' => (∃ r : Nat, e = .returned (.int .i64 (r : Int)) ∧ r ≤ n ∧ (∀ i, i < r → P i = false) ∧ (∀ i, r ≤ i → i < n → P i = true)) ∧ Below w.heap.size w w' := by
  obtain ⟨W1, hW1⟩ : ∃ W1, w.alloc (.cells #[.slice A n c, .int .i64 next] 24) = W1 := ⟨_, rfl⟩
  have hb1 : Below w.heap.size w W1 := by rw [← hW1]; exact al1 _ _
  have hx1 : W1.heap[w.heap.size]? = some (.cells #[.slice A n c, .int .i64 next] 24) := by rw [← hW1]; exact heap_alloc_new _ _
  have y0 : W1.cell? ⟨w.heap.size, 0, none⟩ = some (.slice A n c) := cell_of_row _ _ 0 _ _ _ hx1
  have y1 : W1.cell? ⟨w.heap.size, 1, none⟩ = some (.int .i64 next) := cell_of_row _ _ 1 _ _ _ hx1
  have HS := hid (place_any l A n c t next P W1 (hv.below hb1) hn hn2 hP hmono)
  have HB1 := hid hb1
  have HW1 := hid hW1
  clear hv hn hP hmono hb1 hW1 hx1
  go_enter Try.func34, Try.ntmps34
  go_wp2_with fail
  rw [HW1.out]
  refine HS.out.mono ?_
  rintro e w2 ⟨⟨r, rfl, h1, h2, h3⟩, hb2⟩
  have HB2 := hid (HB1.out.trans (hb2.mono HB1.out.size))
  have H2 := hid h2
  have H3 := hid h3
  clear hb2 h2 h3
  go_wp2
  go_ret
  exact ⟨⟨r, rfl, h1, H2.out, H3.out⟩, HB2.out⟩
end Go.Proofs.Ytjpfogdfgcfkcaa
