/- The walk of the law WireTears. -/
import Derived.Test.YtchpoddfjbopbaaVc
import Derived.Deep.RegionHeld3
namespace Go.Proofs.Ytchpoddfjbopbaa
open Go.RowKit Go.Lib

theorem add_zero' (A : Option Addr) : A.map (fun a => a.add 0) = A := by
  cases A with
  | none => rfl
  | some a => simp [Addr.add]
theorem run_slice_to (A : Option Addr) (n c k : Nat) (hk : k ≤ c) (W : World) : (Instr.slice 22 (.slice A n c) none (some (.int .i64 (k : Int))) none).run Try.prog W = .ok (.slice A k c) W := by
  simp [Instr.slice, run_underlying Try.underlying22, Instr.sliceBounds, Instr.sliceBound, asIntOf, add_zero', hk]
/-- A proper beginning of the bytes b is torn. -/
def Torn {α : Type} (D : Reads α) (b : List Nat) : Prop := 0 < b.length ∧ ∀ j, j < b.length → D (b.take j) = .error 10
theorem torn_num (n : Int) : Torn dNum (Ytchpoddfjbopbaa.enc (cl n)) := ⟨enc_pos _, fun j hj => num_code.torn (cl n) j (cl_le n) hj⟩
theorem torn_of {α : Type} {ok : α → Prop} {E : α → List Nat} {D : Reads α} (C : Code ok E D) {xs : List α} (hl : xs.length ≤ 65536) (ho : ∀ x ∈ xs, ok x) : Torn (dList D) (eList E xs) :=
  ⟨by rw [list_len]; have := enc_pos xs.length; omega, fun j hj => (list_code C).torn xs j ⟨hl, rfl, ho⟩ hj⟩
theorem torn_ints (l : List Int) (hl : l.length ≤ 40) : Torn (dList dNum) (eList eNum l) := by
  have e : eList eNum l = eList Ytchpoddfjbopbaa.enc (l.map cl) := (eList_congr (f := cl) (fun x _ => rfl)).symm
  rw [e]
  refine torn_of num_code (by rw [List.length_map]; omega) (fun x hx => ?_)
  obtain ⟨y, _, rfl⟩ := List.mem_map.1 hx
  exact cl_le y
theorem torn_secs (l : List (List Nat)) (hl : l.length ≤ 40) (h : Secs l) : Torn (dList dSec) (eList eSec l) := torn_of (E := fun l : List Nat => l) sec_code (by omega) h
def natW (x : Wri) : (Nat × Nat) × List (List Nat) := ((cl x.v, cl x.s), x.l)
theorem torn_wris (l : List Wri) (hl : l.length ≤ 20) (h : ∀ x ∈ l, x.l.length ≤ 20 ∧ Secs x.l) : Torn (dList dWr) (eList eWri l) := by
  have e : eList eWri l = eList eWr (l.map natW) := (eList_congr (E := eWri) (F := eWr) (f := natW) (fun x _ => rfl)).symm
  rw [e]
  refine torn_of wr_code (by rw [List.length_map]; omega) (fun x hx => ?_)
  obtain ⟨y, hy, rfl⟩ := List.mem_map.1 hx
  exact ⟨⟨cl_le _, cl_le _⟩, by have := (h y hy).1; show y.l.length ≤ 65536; omega, rfl, (h y hy).2⟩
theorem nil_pos {w : World} {A : Option Addr} {n c m : Nat} {l : List Nat} (h : Byt w (.slice A n c) l) (hp : 0 < l.length) : NilOk (.slice A m c) := by
  obtain ⟨a, rfl⟩ := byt_some h hp
  exact nilOk_some _ _ _
theorem red_torn {α : Type} {D : Reads α} {V : World → Value → α → Prop} {n : Value} {w w' : World} {b : List Nat} {j : Nat} {e : Ending} (ht : Torn D b) (hj : j < b.length) (h : Red D V n w (b.take j) e w') : e = .returned (.tuple #[n, .slice none 0 0, .int .i64 10]) ∧ Below w.heap.size w w' := by
  obtain ⟨h1, h2, _⟩ := red_err h (ht.2 j hj)
  exact ⟨h1, h2⟩

set_option maxHeartbeats 8000000 in
set_option maxRecDepth 100000 in
theorem tears_walk (x : Vals) (n : Int) (q : Nat) (w : World) (hx : Val w x) (hq : q < 65536) :
    Calls Try.prog 9 #[valV x, .int .i64 n, .int .u16 (q : Int)] w (GoodB w) := by
  have HA := hid awake_any
  have HF := hid (fun (W : World) (h : Val W x) => few_any x W h)
  obtain ⟨A0, k0, A1, k1, A2, k2, A3, k3, e0, e1, e2, e3⟩ := val_form hx
  obtain ⟨vi, vs, ve, vw, li, ls, le, lw⟩ := x
  dsimp only at e0 e1 e2 e3
  subst e0 e1 e2 e3
  have HX0 := hid hx
  show Calls Try.prog 9 #[.agg #[.slice A0 li.length k0, .slice A1 ls.length k1, .slice A2 le.length k2, .slice A3 lw.length k3], .int .i64 n, .int .u16 (q : Int)] w _
  have HB0 : Hid (Below w.heap.size w (w.alloc (.cells #[.slice A0 li.length k0, .slice A1 ls.length k1, .slice A2 le.length k2, .slice A3 lw.length k3] 34))) := hid (al1 _ _)
  have HBX := hid (heap_alloc_new w (.cells #[.slice A0 li.length k0, .slice A1 ls.length k1, .slice A2 le.length k2, .slice A3 lw.length k3] 34))
  have HX := hid (HX0.out.below HB0.out)
  have HFx := hid (HF.out _ HX.out)
  obtain ⟨W, hW⟩ : ∃ W, w.alloc (.cells #[.slice A0 li.length k0, .slice A1 ls.length k1, .slice A2 le.length k2, .slice A3 lw.length k3] 34) = W := ⟨_, rfl⟩
  rw [hW] at HB0 HBX HX HFx
  clear hx HF HX0
  have y0 : W.cell? ⟨w.heap.size, 0, none⟩ = some (.slice A0 li.length k0) := cell_of_row _ _ 0 _ _ _ HBX.out
  have y1 : W.cell? ⟨w.heap.size, 1, none⟩ = some (.slice A1 ls.length k1) := cell_of_row _ _ 1 _ _ _ HBX.out
  have y2 : W.cell? ⟨w.heap.size, 2, none⟩ = some (.slice A2 le.length k2) := cell_of_row _ _ 2 _ _ _ HBX.out
  have y3 : W.cell? ⟨w.heap.size, 3, none⟩ = some (.slice A3 lw.length k3) := cell_of_row _ _ 3 _ _ _ HBX.out
  rcases hf : fewB ⟨.slice A0 li.length k0, .slice A1 ls.length k1, .slice A2 le.length k2, .slice A3 lw.length k3, li, ls, le, lw⟩ with _ | _
  · rw [hf] at HFx
    clear hf
    go_enter Try.func9, Try.ntmps9
    go_wp2_with fail
    refine HFx.out.mono ?_
    rintro e w1 ⟨rfl, hb1⟩
    have HB1 := hid (below_both HB0.out hb1)
    clear hb1 y0 y1 y2 y3
    go_wp2_with fail
    refine (HA.out _).mono ?_
    rintro e w2 ⟨rfl, hb2⟩
    have HB2 := hid (below_both HB1.out hb2)
    clear hb2
    go_wp2
    go_ret
    exact ⟨rfl, HB2.out⟩
  · rw [hf] at HFx
    have hft := few_true hf
    dsimp only at hft
    have HT0 := hid (torn_num n)
    have HT1 := hid (torn_wris lw hft.2.2.2.1 (fun y hy => ⟨hft.2.2.2.2 y hy, (HX.out.2.2.2.1 y hy).1⟩))
    have HT2 := hid (torn_secs ls hft.2.1 HX.out.2.1.1)
    have HT3 := hid (torn_ints li hft.1)
    have HFF := hid hf
    have HLEN := hid (lens HX.out hf)
    dsimp only at HLEN
    have HP0 := hid (fun (X : World) => puts_int n X [] _ (byt_nil X) nilOk_nil (by simp))
    have HP1 := hid (fun (X : World) (h : Val X _) => puts_wris h HFF.out [] _ (byt_nil X) nilOk_nil (by simp))
    have HP2 := hid (fun (X : World) (h : Val X _) => puts_secs h HFF.out [] _ (byt_nil X) nilOk_nil (by simp))
    have HP3 := hid (fun (X : World) (h : Val X _) => puts_ints h HFF.out [] _ (byt_nil X) nilOk_nil (by simp))
    dsimp only [List.nil_append] at HP0 HP1 HP2 HP3
    have hm0 : (enc (cl n)).length ≤ 8 := enc_le8 (cl_le n)
    obtain ⟨b0, hb0⟩ : ∃ b, enc (cl n) = b := ⟨_, rfl⟩
    obtain ⟨b1, hb1⟩ : ∃ b, eList eWri lw = b := ⟨_, rfl⟩
    obtain ⟨b2, hb2⟩ : ∃ b, eList eSec ls = b := ⟨_, rfl⟩
    obtain ⟨b3, hb3⟩ : ∃ b, eList eNum li = b := ⟨_, rfl⟩
    rw [hb0] at HT0 HP0 hm0
    rw [hb1] at HT1 HP1 HLEN
    rw [hb2] at HT2 HP2 HLEN
    rw [hb3] at HT3 HP3 HLEN
    have hp0 := HT0.out.1
    have hp1 := HT1.out.1
    have hp2 := HT2.out.1
    have hp3 := HT3.out.1
    have hl1 := HLEN.out.2.2.2
    have hl2 := HLEN.out.2.1
    have hl3 := HLEN.out.1
    have z0 : ((b0.length : Int) == 0) = false := by rw [beq_eq_false_iff_ne]; omega
    have z1 : ((b1.length : Int) == 0) = false := by rw [beq_eq_false_iff_ne]; omega
    have z2 : ((b2.length : Int) == 0) = false := by rw [beq_eq_false_iff_ne]; omega
    have z3 : ((b3.length : Int) == 0) = false := by rw [beq_eq_false_iff_ne]; omega
    clear hf hft hb0 hb1 hb2 hb3
    go_enter Try.func9, Try.ntmps9
    go_wp2_with fail
    refine HFx.out.mono ?_
    rintro e w1 ⟨rfl, hb1⟩
    have HB1 := hid (below_both HB0.out hb1)
    have HX1 := hid ((HX.out.below hb1).below (show Below w1.heap.size w1 w1.drew from ⟨rfl, rfl, rfl, Nat.le_refl _, fun _ _ => rfl⟩))
    have HBX1 := hid ((hb1.block _ (box_lt HBX.out)).trans HBX.out)
    have HBd1 : Hid (Below w.heap.size w w1.drew) := hid (below_drew HB1.out)
    have y0 : w1.cell? ⟨w.heap.size, 0, none⟩ = some (.slice A0 li.length k0) := cell_of_row _ _ 0 _ _ _ HBX1.out
    have y1 : w1.cell? ⟨w.heap.size, 1, none⟩ = some (.slice A1 ls.length k1) := cell_of_row _ _ 1 _ _ _ HBX1.out
    have y2 : w1.cell? ⟨w.heap.size, 2, none⟩ = some (.slice A2 le.length k2) := cell_of_row _ _ 2 _ _ _ HBX1.out
    have y3 : w1.cell? ⟨w.heap.size, 3, none⟩ = some (.slice A3 lw.length k3) := cell_of_row _ _ 3 _ _ _ HBX1.out
    clear hb1 HB0 HBX HX HFx hW
    go_wp2_with fail
    go_region_held3 (fun X => X.cell? ⟨w.heap.size, 3, none⟩ = some (.slice A3 lw.length k3)) (go_keep)
      (first
        | (go_at_call 13; refine (HP0.out _).mono ?_; rintro e w2 ⟨v2, rfl, hv2, hn2, hb2⟩; obtain ⟨a2, c2, rfl⟩ := byt_form hv2; have HV2 := hid hv2; have HX2 := hid (HX1.out.below hb2); have HB2 := hid (below_both HBd1.out hb2); have HBX2 := hid ((hb2.block _ (box_lt (show w1.drew.heap[w.heap.size]? = _ from HBX1.out))).trans HBX1.out); have y3 : w2.cell? ⟨w.heap.size, 3, none⟩ = some (.slice A3 lw.length k3) := cell_of_row _ _ 3 _ _ _ HBX2.out; clear hv2 hn2 hb2)
        | (go_at_call 24; refine (HP1.out _ HX2.out).mono ?_; rintro e w3 ⟨v3, rfl, hv3, hn3, hb3⟩; obtain ⟨a3, c3, rfl⟩ := byt_form hv3; have HV3 := hid hv3; have HV23 := hid (HV2.out.below hb3); have HX3 := hid (HX2.out.below hb3); have HB3 := hid (below_both HB2.out hb3); have HBX3 := hid ((hb3.block _ (box_lt HBX2.out)).trans HBX2.out); have y3 : w3.cell? ⟨w.heap.size, 3, none⟩ = some (.slice A3 lw.length k3) := cell_of_row _ _ 3 _ _ _ HBX3.out; clear hv3 hn3 hb3))
    have HX3d := hid (HX3.out.below (show Below w3.heap.size w3 w3.drew from ⟨rfl, rfl, rfl, Nat.le_refl _, fun _ _ => rfl⟩))
    have HBd3 : Hid (Below w.heap.size w w3.drew) := hid (below_drew HB3.out)
    have HVd2 : Hid (Byt w3.drew (.slice a2 b0.length c2) b0) := hid HV23.out
    have HVd3 : Hid (Byt w3.drew (.slice a3 b1.length c3) b1) := hid HV3.out
    have y0 : w3.cell? ⟨w.heap.size, 0, none⟩ = some (.slice A0 li.length k0) := cell_of_row _ _ 0 _ _ _ HBX3.out
    have y1 : w3.cell? ⟨w.heap.size, 1, none⟩ = some (.slice A1 ls.length k1) := cell_of_row _ _ 1 _ _ _ HBX3.out
    clear HX1 HX2 HX3 HB1 HB2 HBd1 HBX1 HBX2 HV2
    go_wp2_with fail
    go_region_held3 (fun X => X.cell? ⟨w.heap.size, 0, none⟩ = some (.slice A0 li.length k0) ∧ X.cell? ⟨w.heap.size, 1, none⟩ = some (.slice A1 ls.length k1)) (go_keep)
      (first
        | (go_at_call 20; refine (HP2.out _ HX3d.out).mono ?_; rintro e w4 ⟨v4, rfl, hv4, hn4, hb4⟩; obtain ⟨a4, c4, rfl⟩ := byt_form hv4; have HV4 := hid hv4; have HV24 := hid (HVd2.out.below hb4); have HV34 := hid (HVd3.out.below hb4); have HX4 := hid (HX3d.out.below hb4); have HB4 := hid (below_both HBd3.out hb4); have HBX4 := hid ((hb4.block _ (box_lt (show w3.drew.heap[w.heap.size]? = _ from HBX3.out))).trans HBX3.out); have y0 : w4.cell? ⟨w.heap.size, 0, none⟩ = some (.slice A0 li.length k0) := cell_of_row _ _ 0 _ _ _ HBX4.out; have y1 : w4.cell? ⟨w.heap.size, 1, none⟩ = some (.slice A1 ls.length k1) := cell_of_row _ _ 1 _ _ _ HBX4.out; clear hv4 hn4 hb4)
        | (go_at_call 17; refine (HP3.out _ HX4.out).mono ?_; rintro e w5 ⟨v5, rfl, hv5, hn5, hb5⟩; obtain ⟨a5, c5, rfl⟩ := byt_form hv5; have HV5 := hid hv5; have HV25 := hid (HV24.out.below hb5); have HV35 := hid (HV34.out.below hb5); have HV45 := hid (HV4.out.below hb5); have HB5 := hid (below_both HB4.out hb5); have HBX5 := hid ((hb5.block _ (box_lt HBX4.out)).trans HBX4.out); have y0 : w5.cell? ⟨w.heap.size, 0, none⟩ = some (.slice A0 li.length k0) := cell_of_row _ _ 0 _ _ _ HBX5.out; have y1 : w5.cell? ⟨w.heap.size, 1, none⟩ = some (.slice A1 ls.length k1) := cell_of_row _ _ 1 _ _ _ HBX5.out; clear hv5 hn5 hb5))
    clear y0 y1 HX3d HBd3 HVd2 HVd3 HX4 HB4 HBX4 HBX5 HV24 HV34 HV4 HB3 HBX3 HV23 HV3
    have q0 : q % b0.length ≤ c2 := by have h1 := byt_cap HV25.out; have h2 := Nat.mod_lt q hp0; omega
    have HS0 := hid (byt_take HV25.out (n := q % b0.length) (Nat.le_of_lt (Nat.mod_lt q hp0)))
    have HN0 := hid (nil_pos (m := q % b0.length) HV25.out hp0)
    have HJ0 := hid (Nat.mod_lt q hp0)
    have q1 : q % b1.length ≤ c3 := by have h1 := byt_cap HV35.out; have h2 := Nat.mod_lt q hp1; omega
    have HS1 := hid (byt_take HV35.out (n := q % b1.length) (Nat.le_of_lt (Nat.mod_lt q hp1)))
    have HN1 := hid (nil_pos (m := q % b1.length) HV35.out hp1)
    have HJ1 := hid (Nat.mod_lt q hp1)
    have q2 : q % b2.length ≤ c4 := by have h1 := byt_cap HV45.out; have h2 := Nat.mod_lt q hp2; omega
    have HS2 := hid (byt_take HV45.out (n := q % b2.length) (Nat.le_of_lt (Nat.mod_lt q hp2)))
    have HN2 := hid (nil_pos (m := q % b2.length) HV45.out hp2)
    have HJ2 := hid (Nat.mod_lt q hp2)
    have q3 : q % b3.length ≤ c5 := by have h1 := byt_cap HV5.out; have h2 := Nat.mod_lt q hp3; omega
    have HS3 := hid (byt_take HV5.out (n := q % b3.length) (Nat.le_of_lt (Nat.mod_lt q hp3)))
    have HN3 := hid (nil_pos (m := q % b3.length) HV5.out hp3)
    have HJ3 := hid (Nat.mod_lt q hp3)
    go_wp2_with fail
    refine (int_any (b0.take (q % b0.length)) _ w5 HS0.out HN0.out (by rw [List.length_take]; omega)).mono ?_
    intro e w6 h6
    obtain ⟨rfl, hb6⟩ := red_torn HT0.out HJ0.out h6
    have HBr6 := hid (hb6)
    clear h6 hb6
    go_wp2_with fail
    refine (writes_any (b1.take (q % b1.length)) _ w6 (HS1.out.below HBr6.out) HN1.out (by rw [List.length_take]; omega)).mono ?_
    intro e w7 h7
    obtain ⟨rfl, hb7⟩ := red_torn HT1.out HJ1.out h7
    have HBr7 := hid (below_both HBr6.out hb7)
    clear h7 hb7
    go_wp2_with fail
    refine (sectors_any (b2.take (q % b2.length)) _ w7 (HS2.out.below HBr7.out) HN2.out (by rw [List.length_take]; omega)).mono ?_
    intro e w8 h8
    obtain ⟨rfl, hb8⟩ := red_torn HT2.out HJ2.out h8
    have HBr8 := hid (below_both HBr7.out hb8)
    clear h8 hb8
    go_wp2_with fail
    refine (ints_any (b3.take (q % b3.length)) _ w8 (HS3.out.below HBr8.out) HN3.out (by rw [List.length_take]; omega)).mono ?_
    intro e w9 h9
    obtain ⟨rfl, hb9⟩ := red_torn HT3.out HJ3.out h9
    have HBr9 := hid (below_both HBr8.out hb9)
    clear h9 hb9
    go_wp2_with fail
    refine (HA.out _).mono ?_
    rintro e w10 ⟨rfl, hb10⟩
    have HBz := hid (below_both HB5.out (below_both HBr9.out hb10))
    clear hb10
    go_wp2
    go_ret
    exact ⟨rfl, HBz.out⟩
end Go.Proofs.Ytchpoddfjbopbaa
