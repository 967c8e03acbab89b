/- The law ExtentMembers is proved: for all lists of extents and every sector, a union, an intersection, a difference and a complement contain it as the words say. No condition. -/
import Derived.Test.YtkchenhkolpinaaU
import Derived.Test.YtkchenhkolpinaaX
namespace Go.Proofs.Ytkchenhkolpinaa
open Go.ChangeShapes Go.WideShapes Go.ChangeAt Go.RowKit Go.Deep

set_option maxHeartbeats 4000000 in
theorem members_00lo (a b : List (Int × Int)) (A B : Option Addr) (ca cb : Nat) (sector : Int) (w : World) (ha : Ext w (.slice A a.length ca) a) (hb : Ext w (.slice B b.length cb) b) (la : a.length ≤ 10000) (lb : b.length ≤ 10000)
    (HFew : Hid (Calls Try.prog 12 #[.slice A a.length ca, .slice B b.length cb] w fun e w' => e = .returned (.bool true) ∧ w = w')) (hx : mem a sector = false) (hy : mem b sector = false) (hz : sector < 0) :
    Calls Try.prog 8 #[.slice A a.length ca, .slice B b.length cb, .int .i64 sector] w fun e w' => e = .returned (.bool true) ∧ Below w.heap.size w w' := by
  have hin : inE (0, 4096) sector = false := by simp [inE]; omega
  go_enter Try.func8, Try.ntmps8
  go_wp2_with fail
  refine HFew.out.mono ?_
  rintro e w1 ⟨rfl, rfl⟩
  go_wp2_with fail
  refine (aw_contains a _ sector false _ ha la hx).mono ?_
  rintro e w2 ⟨rfl, hBw⟩
  have hT1 : Below w.heap.size w w2 := hBw
  have ha := ha.below hBw
  have hb := hb.below hBw
  clear hBw
  go_wp2_with fail
  refine (aw_contains b _ sector false _ hb lb hy).mono ?_
  rintro e w3 ⟨rfl, hBw⟩
  have hT2 : Below w.heap.size w w3 := below_both hT1 hBw
  clear hT1
  have ha := ha.below hBw
  have hb := hb.below hBw
  clear hBw
  go_wp2_with fail
  refine (made_len (union_any a b _ _ _ ha hb la lb)).mono ?_
  rintro e w4 ⟨v1, l1, rfl, h1, hc1, hm1, hl1, hBw⟩
  have hT3 : Below w.heap.size w w4 := below_both hT2 hBw
  clear hT2
  have ha := ha.below hBw
  have hb := hb.below hBw
  clear hBw
  go_wp2_with fail
  refine (aw_contains l1 _ sector false _ h1 (by omega) (by rw [hm1, hx, hy]; rfl)).mono ?_
  rintro e w5 ⟨rfl, hBw⟩
  have hT4 : Below w.heap.size w w5 := below_both hT3 hBw
  clear hT3
  have ha := ha.below hBw
  have hb := hb.below hBw
  have h1 := h1.below hBw
  clear hBw
  clear h1
  go_wp2_with fail
  refine (made_len (intersect_any a b _ _ _ ha hb la lb)).mono ?_
  rintro e w6 ⟨v2, l2, rfl, h2, hc2, hm2, hl2, hBw⟩
  have hT5 : Below w.heap.size w w6 := below_both hT4 hBw
  clear hT4
  have ha := ha.below hBw
  have hb := hb.below hBw
  clear hBw
  go_wp2_with fail
  refine (aw_contains l2 _ sector false _ h2 (by omega) (by rw [hm2, hx, hy]; rfl)).mono ?_
  rintro e w7 ⟨rfl, hBw⟩
  have hT6 : Below w.heap.size w w7 := below_both hT5 hBw
  clear hT5
  have ha := ha.below hBw
  have hb := hb.below hBw
  have h2 := h2.below hBw
  clear hBw
  clear h2
  go_wp2_with fail
  refine (made_len (subtract_any a b _ _ _ ha hb la lb)).mono ?_
  rintro e w8 ⟨v3, l3, rfl, h3, hc3, hm3, hl3, hBw⟩
  have hT7 : Below w.heap.size w w8 := below_both hT6 hBw
  clear hT6
  have ha := ha.below hBw
  have hb := hb.below hBw
  clear hBw
  go_wp2_with fail
  refine (aw_contains l3 _ sector false _ h3 (by omega) (by rw [hm3, hx, hy]; rfl)).mono ?_
  rintro e w9 ⟨rfl, hBw⟩
  have hT8 : Below w.heap.size w w9 := below_both hT7 hBw
  clear hT7
  have ha := ha.below hBw
  have hb := hb.below hBw
  have h3 := h3.below hBw
  clear hBw
  clear h3
  go_wp2_with fail
  refine (made_len (complement_any a _ 4096 _ ha la (by unfold R64; omega))).mono ?_
  rintro e w10 ⟨v4, l4, rfl, h4, hc4, hm4, hl4, hBw⟩
  have hT9 : Below w.heap.size w w10 := below_both hT8 hBw
  clear hT8
  have ha := ha.below hBw
  have hb := hb.below hBw
  clear hBw
  go_wp2_with fail
  refine (aw_contains l4 _ sector false _ h4 (by omega) (by rw [hm4, hx, hin]; rfl)).mono ?_
  rintro e w11 ⟨rfl, hBw⟩
  have hT10 : Below w.heap.size w w11 := below_both hT9 hBw
  clear hT9
  have ha := ha.below hBw
  have hb := hb.below hBw
  have h4 := h4.below hBw
  clear hBw
  clear h4
  go_wp2_with fail
  refine (awake_any _).mono ?_
  rintro e w12 ⟨rfl, hBw⟩
  have hT11 : Below w.heap.size w w12 := below_both hT10 hBw
  clear hT10
  have ha := ha.below hBw
  have hb := hb.below hBw
  clear hBw
  go_wp2_with fail
  go_ret
  exact ⟨rfl, hT11⟩

set_option maxHeartbeats 4000000 in
theorem members_00in (a b : List (Int × Int)) (A B : Option Addr) (ca cb : Nat) (sector : Int) (w : World) (ha : Ext w (.slice A a.length ca) a) (hb : Ext w (.slice B b.length cb) b) (la : a.length ≤ 10000) (lb : b.length ≤ 10000)
    (HFew : Hid (Calls Try.prog 12 #[.slice A a.length ca, .slice B b.length cb] w fun e w' => e = .returned (.bool true) ∧ w = w')) (hx : mem a sector = false) (hy : mem b sector = false) (hz0 : 0 ≤ sector) (hz1 : sector < 4096) :
    Calls Try.prog 8 #[.slice A a.length ca, .slice B b.length cb, .int .i64 sector] w fun e w' => e = .returned (.bool true) ∧ Below w.heap.size w w' := by
  have hin : inE (0, 4096) sector = true := by simp [inE]; omega
  go_enter Try.func8, Try.ntmps8
  go_wp2_with fail
  refine HFew.out.mono ?_
  rintro e w1 ⟨rfl, rfl⟩
  go_wp2_with fail
  refine (aw_contains a _ sector false _ ha la hx).mono ?_
  rintro e w2 ⟨rfl, hBw⟩
  have hT1 : Below w.heap.size w w2 := hBw
  have ha := ha.below hBw
  have hb := hb.below hBw
  clear hBw
  go_wp2_with fail
  refine (aw_contains b _ sector false _ hb lb hy).mono ?_
  rintro e w3 ⟨rfl, hBw⟩
  have hT2 : Below w.heap.size w w3 := below_both hT1 hBw
  clear hT1
  have ha := ha.below hBw
  have hb := hb.below hBw
  clear hBw
  go_wp2_with fail
  refine (made_len (union_any a b _ _ _ ha hb la lb)).mono ?_
  rintro e w4 ⟨v1, l1, rfl, h1, hc1, hm1, hl1, hBw⟩
  have hT3 : Below w.heap.size w w4 := below_both hT2 hBw
  clear hT2
  have ha := ha.below hBw
  have hb := hb.below hBw
  clear hBw
  go_wp2_with fail
  refine (aw_contains l1 _ sector false _ h1 (by omega) (by rw [hm1, hx, hy]; rfl)).mono ?_
  rintro e w5 ⟨rfl, hBw⟩
  have hT4 : Below w.heap.size w w5 := below_both hT3 hBw
  clear hT3
  have ha := ha.below hBw
  have hb := hb.below hBw
  have h1 := h1.below hBw
  clear hBw
  clear h1
  go_wp2_with fail
  refine (made_len (intersect_any a b _ _ _ ha hb la lb)).mono ?_
  rintro e w6 ⟨v2, l2, rfl, h2, hc2, hm2, hl2, hBw⟩
  have hT5 : Below w.heap.size w w6 := below_both hT4 hBw
  clear hT4
  have ha := ha.below hBw
  have hb := hb.below hBw
  clear hBw
  go_wp2_with fail
  refine (aw_contains l2 _ sector false _ h2 (by omega) (by rw [hm2, hx, hy]; rfl)).mono ?_
  rintro e w7 ⟨rfl, hBw⟩
  have hT6 : Below w.heap.size w w7 := below_both hT5 hBw
  clear hT5
  have ha := ha.below hBw
  have hb := hb.below hBw
  have h2 := h2.below hBw
  clear hBw
  clear h2
  go_wp2_with fail
  refine (made_len (subtract_any a b _ _ _ ha hb la lb)).mono ?_
  rintro e w8 ⟨v3, l3, rfl, h3, hc3, hm3, hl3, hBw⟩
  have hT7 : Below w.heap.size w w8 := below_both hT6 hBw
  clear hT6
  have ha := ha.below hBw
  have hb := hb.below hBw
  clear hBw
  go_wp2_with fail
  refine (aw_contains l3 _ sector false _ h3 (by omega) (by rw [hm3, hx, hy]; rfl)).mono ?_
  rintro e w9 ⟨rfl, hBw⟩
  have hT8 : Below w.heap.size w w9 := below_both hT7 hBw
  clear hT7
  have ha := ha.below hBw
  have hb := hb.below hBw
  have h3 := h3.below hBw
  clear hBw
  clear h3
  go_wp2_with fail
  refine (made_len (complement_any a _ 4096 _ ha la (by unfold R64; omega))).mono ?_
  rintro e w10 ⟨v4, l4, rfl, h4, hc4, hm4, hl4, hBw⟩
  have hT9 : Below w.heap.size w w10 := below_both hT8 hBw
  clear hT8
  have ha := ha.below hBw
  have hb := hb.below hBw
  clear hBw
  go_wp2_with fail
  refine (aw_contains l4 _ sector true _ h4 (by omega) (by rw [hm4, hx, hin]; rfl)).mono ?_
  rintro e w11 ⟨rfl, hBw⟩
  have hT10 : Below w.heap.size w w11 := below_both hT9 hBw
  clear hT9
  have ha := ha.below hBw
  have hb := hb.below hBw
  have h4 := h4.below hBw
  clear hBw
  clear h4
  go_wp2_with fail
  refine (awake_any _).mono ?_
  rintro e w12 ⟨rfl, hBw⟩
  have hT11 : Below w.heap.size w w12 := below_both hT10 hBw
  clear hT10
  have ha := ha.below hBw
  have hb := hb.below hBw
  clear hBw
  go_wp2_with fail
  go_ret
  exact ⟨rfl, hT11⟩

set_option maxHeartbeats 4000000 in
theorem members_00hi (a b : List (Int × Int)) (A B : Option Addr) (ca cb : Nat) (sector : Int) (w : World) (ha : Ext w (.slice A a.length ca) a) (hb : Ext w (.slice B b.length cb) b) (la : a.length ≤ 10000) (lb : b.length ≤ 10000)
    (HFew : Hid (Calls Try.prog 12 #[.slice A a.length ca, .slice B b.length cb] w fun e w' => e = .returned (.bool true) ∧ w = w')) (hx : mem a sector = false) (hy : mem b sector = false) (hz : 4096 ≤ sector) :
    Calls Try.prog 8 #[.slice A a.length ca, .slice B b.length cb, .int .i64 sector] w fun e w' => e = .returned (.bool true) ∧ Below w.heap.size w w' := by
  have hin : inE (0, 4096) sector = false := by simp [inE]; omega
  go_enter Try.func8, Try.ntmps8
  go_wp2_with fail
  refine HFew.out.mono ?_
  rintro e w1 ⟨rfl, rfl⟩
  go_wp2_with fail
  refine (aw_contains a _ sector false _ ha la hx).mono ?_
  rintro e w2 ⟨rfl, hBw⟩
  have hT1 : Below w.heap.size w w2 := hBw
  have ha := ha.below hBw
  have hb := hb.below hBw
  clear hBw
  go_wp2_with fail
  refine (aw_contains b _ sector false _ hb lb hy).mono ?_
  rintro e w3 ⟨rfl, hBw⟩
  have hT2 : Below w.heap.size w w3 := below_both hT1 hBw
  clear hT1
  have ha := ha.below hBw
  have hb := hb.below hBw
  clear hBw
  go_wp2_with fail
  refine (made_len (union_any a b _ _ _ ha hb la lb)).mono ?_
  rintro e w4 ⟨v1, l1, rfl, h1, hc1, hm1, hl1, hBw⟩
  have hT3 : Below w.heap.size w w4 := below_both hT2 hBw
  clear hT2
  have ha := ha.below hBw
  have hb := hb.below hBw
  clear hBw
  go_wp2_with fail
  refine (aw_contains l1 _ sector false _ h1 (by omega) (by rw [hm1, hx, hy]; rfl)).mono ?_
  rintro e w5 ⟨rfl, hBw⟩
  have hT4 : Below w.heap.size w w5 := below_both hT3 hBw
  clear hT3
  have ha := ha.below hBw
  have hb := hb.below hBw
  have h1 := h1.below hBw
  clear hBw
  clear h1
  go_wp2_with fail
  refine (made_len (intersect_any a b _ _ _ ha hb la lb)).mono ?_
  rintro e w6 ⟨v2, l2, rfl, h2, hc2, hm2, hl2, hBw⟩
  have hT5 : Below w.heap.size w w6 := below_both hT4 hBw
  clear hT4
  have ha := ha.below hBw
  have hb := hb.below hBw
  clear hBw
  go_wp2_with fail
  refine (aw_contains l2 _ sector false _ h2 (by omega) (by rw [hm2, hx, hy]; rfl)).mono ?_
  rintro e w7 ⟨rfl, hBw⟩
  have hT6 : Below w.heap.size w w7 := below_both hT5 hBw
  clear hT5
  have ha := ha.below hBw
  have hb := hb.below hBw
  have h2 := h2.below hBw
  clear hBw
  clear h2
  go_wp2_with fail
  refine (made_len (subtract_any a b _ _ _ ha hb la lb)).mono ?_
  rintro e w8 ⟨v3, l3, rfl, h3, hc3, hm3, hl3, hBw⟩
  have hT7 : Below w.heap.size w w8 := below_both hT6 hBw
  clear hT6
  have ha := ha.below hBw
  have hb := hb.below hBw
  clear hBw
  go_wp2_with fail
  refine (aw_contains l3 _ sector false _ h3 (by omega) (by rw [hm3, hx, hy]; rfl)).mono ?_
  rintro e w9 ⟨rfl, hBw⟩
  have hT8 : Below w.heap.size w w9 := below_both hT7 hBw
  clear hT7
  have ha := ha.below hBw
  have hb := hb.below hBw
  have h3 := h3.below hBw
  clear hBw
  clear h3
  go_wp2_with fail
  refine (made_len (complement_any a _ 4096 _ ha la (by unfold R64; omega))).mono ?_
  rintro e w10 ⟨v4, l4, rfl, h4, hc4, hm4, hl4, hBw⟩
  have hT9 : Below w.heap.size w w10 := below_both hT8 hBw
  clear hT8
  have ha := ha.below hBw
  have hb := hb.below hBw
  clear hBw
  go_wp2_with fail
  refine (aw_contains l4 _ sector false _ h4 (by omega) (by rw [hm4, hx, hin]; rfl)).mono ?_
  rintro e w11 ⟨rfl, hBw⟩
  have hT10 : Below w.heap.size w w11 := below_both hT9 hBw
  clear hT9
  have ha := ha.below hBw
  have hb := hb.below hBw
  have h4 := h4.below hBw
  clear hBw
  clear h4
  go_wp2_with fail
  refine (awake_any _).mono ?_
  rintro e w12 ⟨rfl, hBw⟩
  have hT11 : Below w.heap.size w w12 := below_both hT10 hBw
  clear hT10
  have ha := ha.below hBw
  have hb := hb.below hBw
  clear hBw
  go_wp2_with fail
  go_ret
  exact ⟨rfl, hT11⟩

set_option maxHeartbeats 4000000 in
theorem members_01in (a b : List (Int × Int)) (A B : Option Addr) (ca cb : Nat) (sector : Int) (w : World) (ha : Ext w (.slice A a.length ca) a) (hb : Ext w (.slice B b.length cb) b) (la : a.length ≤ 10000) (lb : b.length ≤ 10000)
    (HFew : Hid (Calls Try.prog 12 #[.slice A a.length ca, .slice B b.length cb] w fun e w' => e = .returned (.bool true) ∧ w = w')) (hx : mem a sector = false) (hy : mem b sector = true) (hz0 : 0 ≤ sector) (hz1 : sector < 4096) :
    Calls Try.prog 8 #[.slice A a.length ca, .slice B b.length cb, .int .i64 sector] w fun e w' => e = .returned (.bool true) ∧ Below w.heap.size w w' := by
  have hin : inE (0, 4096) sector = true := by simp [inE]; omega
  go_enter Try.func8, Try.ntmps8
  go_wp2_with fail
  refine HFew.out.mono ?_
  rintro e w1 ⟨rfl, rfl⟩
  go_wp2_with fail
  refine (aw_contains a _ sector false _ ha la hx).mono ?_
  rintro e w2 ⟨rfl, hBw⟩
  have hT1 : Below w.heap.size w w2 := hBw
  have ha := ha.below hBw
  have hb := hb.below hBw
  clear hBw
  go_wp2_with fail
  refine (aw_contains b _ sector true _ hb lb hy).mono ?_
  rintro e w3 ⟨rfl, hBw⟩
  have hT2 : Below w.heap.size w w3 := below_both hT1 hBw
  clear hT1
  have ha := ha.below hBw
  have hb := hb.below hBw
  clear hBw
  go_wp2_with fail
  refine (made_len (union_any a b _ _ _ ha hb la lb)).mono ?_
  rintro e w4 ⟨v1, l1, rfl, h1, hc1, hm1, hl1, hBw⟩
  have hT3 : Below w.heap.size w w4 := below_both hT2 hBw
  clear hT2
  have ha := ha.below hBw
  have hb := hb.below hBw
  clear hBw
  go_wp2_with fail
  refine (aw_contains l1 _ sector true _ h1 (by omega) (by rw [hm1, hx, hy]; rfl)).mono ?_
  rintro e w5 ⟨rfl, hBw⟩
  have hT4 : Below w.heap.size w w5 := below_both hT3 hBw
  clear hT3
  have ha := ha.below hBw
  have hb := hb.below hBw
  have h1 := h1.below hBw
  clear hBw
  clear h1
  go_wp2_with fail
  refine (made_len (intersect_any a b _ _ _ ha hb la lb)).mono ?_
  rintro e w6 ⟨v2, l2, rfl, h2, hc2, hm2, hl2, hBw⟩
  have hT5 : Below w.heap.size w w6 := below_both hT4 hBw
  clear hT4
  have ha := ha.below hBw
  have hb := hb.below hBw
  clear hBw
  go_wp2_with fail
  refine (aw_contains l2 _ sector false _ h2 (by omega) (by rw [hm2, hx, hy]; rfl)).mono ?_
  rintro e w7 ⟨rfl, hBw⟩
  have hT6 : Below w.heap.size w w7 := below_both hT5 hBw
  clear hT5
  have ha := ha.below hBw
  have hb := hb.below hBw
  have h2 := h2.below hBw
  clear hBw
  clear h2
  go_wp2_with fail
  refine (made_len (subtract_any a b _ _ _ ha hb la lb)).mono ?_
  rintro e w8 ⟨v3, l3, rfl, h3, hc3, hm3, hl3, hBw⟩
  have hT7 : Below w.heap.size w w8 := below_both hT6 hBw
  clear hT6
  have ha := ha.below hBw
  have hb := hb.below hBw
  clear hBw
  go_wp2_with fail
  refine (aw_contains l3 _ sector false _ h3 (by omega) (by rw [hm3, hx, hy]; rfl)).mono ?_
  rintro e w9 ⟨rfl, hBw⟩
  have hT8 : Below w.heap.size w w9 := below_both hT7 hBw
  clear hT7
  have ha := ha.below hBw
  have hb := hb.below hBw
  have h3 := h3.below hBw
  clear hBw
  clear h3
  go_wp2_with fail
  refine (made_len (complement_any a _ 4096 _ ha la (by unfold R64; omega))).mono ?_
  rintro e w10 ⟨v4, l4, rfl, h4, hc4, hm4, hl4, hBw⟩
  have hT9 : Below w.heap.size w w10 := below_both hT8 hBw
  clear hT8
  have ha := ha.below hBw
  have hb := hb.below hBw
  clear hBw
  go_wp2_with fail
  refine (aw_contains l4 _ sector true _ h4 (by omega) (by rw [hm4, hx, hin]; rfl)).mono ?_
  rintro e w11 ⟨rfl, hBw⟩
  have hT10 : Below w.heap.size w w11 := below_both hT9 hBw
  clear hT9
  have ha := ha.below hBw
  have hb := hb.below hBw
  have h4 := h4.below hBw
  clear hBw
  clear h4
  go_wp2_with fail
  refine (awake_any _).mono ?_
  rintro e w12 ⟨rfl, hBw⟩
  have hT11 : Below w.heap.size w w12 := below_both hT10 hBw
  clear hT10
  have ha := ha.below hBw
  have hb := hb.below hBw
  clear hBw
  go_wp2_with fail
  go_ret
  exact ⟨rfl, hT11⟩

set_option maxHeartbeats 4000000 in
theorem members_10in (a b : List (Int × Int)) (A B : Option Addr) (ca cb : Nat) (sector : Int) (w : World) (ha : Ext w (.slice A a.length ca) a) (hb : Ext w (.slice B b.length cb) b) (la : a.length ≤ 10000) (lb : b.length ≤ 10000)
    (HFew : Hid (Calls Try.prog 12 #[.slice A a.length ca, .slice B b.length cb] w fun e w' => e = .returned (.bool true) ∧ w = w')) (hx : mem a sector = true) (hy : mem b sector = false) (hz0 : 0 ≤ sector) (hz1 : sector < 4096) :
    Calls Try.prog 8 #[.slice A a.length ca, .slice B b.length cb, .int .i64 sector] w fun e w' => e = .returned (.bool true) ∧ Below w.heap.size w w' := by
  have hin : inE (0, 4096) sector = true := by simp [inE]; omega
  go_enter Try.func8, Try.ntmps8
  go_wp2_with fail
  refine HFew.out.mono ?_
  rintro e w1 ⟨rfl, rfl⟩
  go_wp2_with fail
  refine (aw_contains a _ sector true _ ha la hx).mono ?_
  rintro e w2 ⟨rfl, hBw⟩
  have hT1 : Below w.heap.size w w2 := hBw
  have ha := ha.below hBw
  have hb := hb.below hBw
  clear hBw
  go_wp2_with fail
  refine (aw_contains b _ sector false _ hb lb hy).mono ?_
  rintro e w3 ⟨rfl, hBw⟩
  have hT2 : Below w.heap.size w w3 := below_both hT1 hBw
  clear hT1
  have ha := ha.below hBw
  have hb := hb.below hBw
  clear hBw
  go_wp2_with fail
  refine (made_len (union_any a b _ _ _ ha hb la lb)).mono ?_
  rintro e w4 ⟨v1, l1, rfl, h1, hc1, hm1, hl1, hBw⟩
  have hT3 : Below w.heap.size w w4 := below_both hT2 hBw
  clear hT2
  have ha := ha.below hBw
  have hb := hb.below hBw
  clear hBw
  go_wp2_with fail
  refine (aw_contains l1 _ sector true _ h1 (by omega) (by rw [hm1, hx, hy]; rfl)).mono ?_
  rintro e w5 ⟨rfl, hBw⟩
  have hT4 : Below w.heap.size w w5 := below_both hT3 hBw
  clear hT3
  have ha := ha.below hBw
  have hb := hb.below hBw
  have h1 := h1.below hBw
  clear hBw
  clear h1
  go_wp2_with fail
  refine (made_len (intersect_any a b _ _ _ ha hb la lb)).mono ?_
  rintro e w6 ⟨v2, l2, rfl, h2, hc2, hm2, hl2, hBw⟩
  have hT5 : Below w.heap.size w w6 := below_both hT4 hBw
  clear hT4
  have ha := ha.below hBw
  have hb := hb.below hBw
  clear hBw
  go_wp2_with fail
  refine (aw_contains l2 _ sector false _ h2 (by omega) (by rw [hm2, hx, hy]; rfl)).mono ?_
  rintro e w7 ⟨rfl, hBw⟩
  have hT6 : Below w.heap.size w w7 := below_both hT5 hBw
  clear hT5
  have ha := ha.below hBw
  have hb := hb.below hBw
  have h2 := h2.below hBw
  clear hBw
  clear h2
  go_wp2_with fail
  refine (made_len (subtract_any a b _ _ _ ha hb la lb)).mono ?_
  rintro e w8 ⟨v3, l3, rfl, h3, hc3, hm3, hl3, hBw⟩
  have hT7 : Below w.heap.size w w8 := below_both hT6 hBw
  clear hT6
  have ha := ha.below hBw
  have hb := hb.below hBw
  clear hBw
  go_wp2_with fail
  refine (aw_contains l3 _ sector true _ h3 (by omega) (by rw [hm3, hx, hy]; rfl)).mono ?_
  rintro e w9 ⟨rfl, hBw⟩
  have hT8 : Below w.heap.size w w9 := below_both hT7 hBw
  clear hT7
  have ha := ha.below hBw
  have hb := hb.below hBw
  have h3 := h3.below hBw
  clear hBw
  clear h3
  go_wp2_with fail
  refine (made_len (complement_any a _ 4096 _ ha la (by unfold R64; omega))).mono ?_
  rintro e w10 ⟨v4, l4, rfl, h4, hc4, hm4, hl4, hBw⟩
  have hT9 : Below w.heap.size w w10 := below_both hT8 hBw
  clear hT8
  have ha := ha.below hBw
  have hb := hb.below hBw
  clear hBw
  go_wp2_with fail
  refine (aw_contains l4 _ sector false _ h4 (by omega) (by rw [hm4, hx, hin]; rfl)).mono ?_
  rintro e w11 ⟨rfl, hBw⟩
  have hT10 : Below w.heap.size w w11 := below_both hT9 hBw
  clear hT9
  have ha := ha.below hBw
  have hb := hb.below hBw
  have h4 := h4.below hBw
  clear hBw
  clear h4
  go_wp2_with fail
  refine (awake_any _).mono ?_
  rintro e w12 ⟨rfl, hBw⟩
  have hT11 : Below w.heap.size w w12 := below_both hT10 hBw
  clear hT10
  have ha := ha.below hBw
  have hb := hb.below hBw
  clear hBw
  go_wp2_with fail
  go_ret
  exact ⟨rfl, hT11⟩

set_option maxHeartbeats 4000000 in
theorem members_11in (a b : List (Int × Int)) (A B : Option Addr) (ca cb : Nat) (sector : Int) (w : World) (ha : Ext w (.slice A a.length ca) a) (hb : Ext w (.slice B b.length cb) b) (la : a.length ≤ 10000) (lb : b.length ≤ 10000)
    (HFew : Hid (Calls Try.prog 12 #[.slice A a.length ca, .slice B b.length cb] w fun e w' => e = .returned (.bool true) ∧ w = w')) (hx : mem a sector = true) (hy : mem b sector = true) (hz0 : 0 ≤ sector) (hz1 : sector < 4096) :
    Calls Try.prog 8 #[.slice A a.length ca, .slice B b.length cb, .int .i64 sector] w fun e w' => e = .returned (.bool true) ∧ Below w.heap.size w w' := by
  have hin : inE (0, 4096) sector = true := by simp [inE]; omega
  go_enter Try.func8, Try.ntmps8
  go_wp2_with fail
  refine HFew.out.mono ?_
  rintro e w1 ⟨rfl, rfl⟩
  go_wp2_with fail
  refine (aw_contains a _ sector true _ ha la hx).mono ?_
  rintro e w2 ⟨rfl, hBw⟩
  have hT1 : Below w.heap.size w w2 := hBw
  have ha := ha.below hBw
  have hb := hb.below hBw
  clear hBw
  go_wp2_with fail
  refine (aw_contains b _ sector true _ hb lb hy).mono ?_
  rintro e w3 ⟨rfl, hBw⟩
  have hT2 : Below w.heap.size w w3 := below_both hT1 hBw
  clear hT1
  have ha := ha.below hBw
  have hb := hb.below hBw
  clear hBw
  go_wp2_with fail
  refine (made_len (union_any a b _ _ _ ha hb la lb)).mono ?_
  rintro e w4 ⟨v1, l1, rfl, h1, hc1, hm1, hl1, hBw⟩
  have hT3 : Below w.heap.size w w4 := below_both hT2 hBw
  clear hT2
  have ha := ha.below hBw
  have hb := hb.below hBw
  clear hBw
  go_wp2_with fail
  refine (aw_contains l1 _ sector true _ h1 (by omega) (by rw [hm1, hx, hy]; rfl)).mono ?_
  rintro e w5 ⟨rfl, hBw⟩
  have hT4 : Below w.heap.size w w5 := below_both hT3 hBw
  clear hT3
  have ha := ha.below hBw
  have hb := hb.below hBw
  have h1 := h1.below hBw
  clear hBw
  clear h1
  go_wp2_with fail
  refine (made_len (intersect_any a b _ _ _ ha hb la lb)).mono ?_
  rintro e w6 ⟨v2, l2, rfl, h2, hc2, hm2, hl2, hBw⟩
  have hT5 : Below w.heap.size w w6 := below_both hT4 hBw
  clear hT4
  have ha := ha.below hBw
  have hb := hb.below hBw
  clear hBw
  go_wp2_with fail
  refine (aw_contains l2 _ sector true _ h2 (by omega) (by rw [hm2, hx, hy]; rfl)).mono ?_
  rintro e w7 ⟨rfl, hBw⟩
  have hT6 : Below w.heap.size w w7 := below_both hT5 hBw
  clear hT5
  have ha := ha.below hBw
  have hb := hb.below hBw
  have h2 := h2.below hBw
  clear hBw
  clear h2
  go_wp2_with fail
  refine (made_len (subtract_any a b _ _ _ ha hb la lb)).mono ?_
  rintro e w8 ⟨v3, l3, rfl, h3, hc3, hm3, hl3, hBw⟩
  have hT7 : Below w.heap.size w w8 := below_both hT6 hBw
  clear hT6
  have ha := ha.below hBw
  have hb := hb.below hBw
  clear hBw
  go_wp2_with fail
  refine (aw_contains l3 _ sector false _ h3 (by omega) (by rw [hm3, hx, hy]; rfl)).mono ?_
  rintro e w9 ⟨rfl, hBw⟩
  have hT8 : Below w.heap.size w w9 := below_both hT7 hBw
  clear hT7
  have ha := ha.below hBw
  have hb := hb.below hBw
  have h3 := h3.below hBw
  clear hBw
  clear h3
  go_wp2_with fail
  refine (made_len (complement_any a _ 4096 _ ha la (by unfold R64; omega))).mono ?_
  rintro e w10 ⟨v4, l4, rfl, h4, hc4, hm4, hl4, hBw⟩
  have hT9 : Below w.heap.size w w10 := below_both hT8 hBw
  clear hT8
  have ha := ha.below hBw
  have hb := hb.below hBw
  clear hBw
  go_wp2_with fail
  refine (aw_contains l4 _ sector false _ h4 (by omega) (by rw [hm4, hx, hin]; rfl)).mono ?_
  rintro e w11 ⟨rfl, hBw⟩
  have hT10 : Below w.heap.size w w11 := below_both hT9 hBw
  clear hT9
  have ha := ha.below hBw
  have hb := hb.below hBw
  have h4 := h4.below hBw
  clear hBw
  clear h4
  go_wp2_with fail
  refine (awake_any _).mono ?_
  rintro e w12 ⟨rfl, hBw⟩
  have hT11 : Below w.heap.size w w12 := below_both hT10 hBw
  clear hT10
  have ha := ha.below hBw
  have hb := hb.below hBw
  clear hBw
  go_wp2_with fail
  go_ret
  exact ⟨rfl, hT11⟩

theorem members_walk (a b : List (Int × Int)) (va vb : Value) (sector : Int) (w : World) (ha : Ext w va a) (hb : Ext w vb b) (_hs : R64 sector) :
    Calls Try.prog 8 #[va, vb, .int .i64 sector] w fun e w' => e = .returned (.bool true) ∧ Below w.heap.size w w' := by
  by_cases hl : a.length ≤ 20 ∧ b.length ≤ 20
  · have HFew := hid (few_yes ha hb hl)
    obtain ⟨la', lb'⟩ := hl
    have la : a.length ≤ 10000 := by omega
    have lb : b.length ≤ 10000 := by omega
    obtain ⟨A, ca, rfl⟩ := ext_form ha
    obtain ⟨B, cb, rfl⟩ := ext_form hb
    cases hx : mem a sector with
    | true =>
      have := mem_range hx
      cases hy : mem b sector with
      | true => exact members_11in a b A B ca cb sector w ha hb la lb HFew hx hy this.1 this.2
      | false => exact members_10in a b A B ca cb sector w ha hb la lb HFew hx hy this.1 this.2
    | false =>
      cases hy : mem b sector with
      | true =>
        have := mem_range hy
        exact members_01in a b A B ca cb sector w ha hb la lb HFew hx hy this.1 this.2
      | false =>
        by_cases h0 : sector < 0
        · exact members_00lo a b A B ca cb sector w ha hb la lb HFew hx hy h0
        · by_cases h1 : sector < 4096
          · exact members_00in a b A B ca cb sector w ha hb la lb HFew hx hy (by omega) h1
          · exact members_00hi a b A B ca cb sector w ha hb la lb HFew hx hy (by omega)
  · have HFew := hid (few_no ha hb hl)
    obtain ⟨A, ca, rfl⟩ := ext_form ha
    obtain ⟨B, cb, rfl⟩ := ext_form hb
    clear ha hb hl
    go_enter Try.func8, Try.ntmps8
    go_wp2_with (first | (go_at_call 12; refine HFew.out.mono ?_; rintro e w1 ⟨rfl, rfl⟩) | (go_at_call 13; refine (awake_any _).mono ?_; rintro e w3 ⟨rfl, hb3⟩))
    go_ret
    exact ⟨rfl, hb3⟩

set_option maxRecDepth 100000 in
theorem extentMembers_lifted (os : Os) (started : os.Started) (H : Type) (enc : TypeId × Value → H) :
    ReturnsInHanded {} Try.checked os 8 .any (Rows.extentMembersSpec.pre6 enc Try.prog Try.f8 Rows.extentMembersRow.domain false) (Rows.extentMembersSpec.post enc Try.prog Try.f8 false true false false) := by
  refine returnsInHanded_of_change (C := Try.checked) Try.own started (by kernel_rfl) Try.func8
    (ChangeSpec.witness6 (enc := enc) (C := Try.checked) false ⟨#[], #[.slice none 0 0, .slice none 0 0, .int .i64 0], []⟩ 8 (by kernel_rfl) (by kernel_rfl) (by kernel_rfl) (by kernel_rfl)) ?_
  intro W base args ds gs before hval0 hW hcnd _
  have hval : ∀ (j : Nat) t v, Try.f8.params[j]? = some t → args[j]? = some v → Value.okWide Try.prog W .any base t v := hval0
  have hW' := hW
  obtain ⟨p, q, hA0, hV, rfl, hfz, hnd⟩ := hW
  have hA : DataW.TrodAll enc Try.prog W 0 (fun _ => true) true Try.f8.params.toList args.toList ds p := hA0
  rw [Try.params8] at hA hval
  obtain ⟨v0, v1, v2, d0, d1, d2, p0, p1, p2, rfl, rfl, rfl, h0, h1, h2⟩ := trodAll_three hA
  obtain ⟨rfl, rfl⟩ := trodVars_none hV
  obtain ⟨a2, rfl, rfl, rfl, wa2⟩ := open_int Try.underlying3 (hval 2 3 v2 rfl rfl) h2
  obtain ⟨l0, hl0⟩ := ext_of_trod (hval 0 22 v0 rfl rfl) h0
  obtain ⟨l1, hl1⟩ := ext_of_trod (hval 1 22 v1 rfl rfl) h1
  clear hA0 hval0
  simp only [List.append_nil] at hW'
  have hlt0 : ∀ x ∈ p0, x.block < W.heap.size := fun x hx => hW'.lt x (by simp [hx])
  have hlt1 : ∀ x ∈ p1, x.block < W.heap.size := fun x hx => hW'.lt x (by simp [hx])
  refine (members_walk l0 l1 v0 v1 a2 W hl0 hl1 (r64_wf wa2)).mono fun e W' ⟨he, hb⟩ => ?_
  subst he
  exact ⟨_, rfl, _, _, _, [], _, [], hW', trodAll_mk1 (shut_bool Try.underlying4 _), trodAll_mk3 (Below.trod Try.laidOut read22 row22 h0 hb hlt0) (Below.trod Try.laidOut read22 row22 h1 hb hlt1) (shut_int Try.underlying3 wa2), rfl, hb.frame _, fun h => by cases h⟩

theorem extentMembers_holds : Rows.ExtentMembersSaid :=
  OpenClaim.holds_of_wide 8 Try.f8 rfl rfl rfl rfl rfl rfl rfl ⟨rfl, rfl, rfl, rfl, rfl⟩ rfl rfl rfl rfl rfl (by kernel_rfl) Try.func8 (by kernel_rfl)
    (of_decide_eq_true (by kernel_rfl)) (by unfold Func.isWrapper; rw [if_neg (of_decide_eq_false (by kernel_rfl))]; exact ⟨rfl, rfl⟩)
    (fun os started H enc _ => extentMembers_lifted os started H enc)
end Go.Proofs.Ytkchenhkolpinaa
