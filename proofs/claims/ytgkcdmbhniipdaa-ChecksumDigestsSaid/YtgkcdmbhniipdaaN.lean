/- The law ChecksumDiffers is walked. -/
import Derived.Test.YtgkcdmbhniipdaaM
namespace Go.Proofs.Ytgkcdmbhniipdaa
open Go.RowKit Go.Lib

theorem own_pos {w : World} {base n : Nat} {v : Value} {xs : List Value} (h : w.ownsRow base 5 1 v n xs) (hn : 0 < n) : ∃ g cap, v = .slice (some ⟨g, 0, none⟩) n cap ∧ base ≤ g ∧ g < w.heap.size := by
  rcases h.2 with ⟨_, h0⟩ | ⟨g, cap, cur, rfl, hb, hg, _⟩
  · omega
  · exact ⟨g, cap, rfl, hb, (h.lt g rfl).2⟩
theorem map_set (l : List Nat) (j x : Nat) : (l.map byteV).set j (byteV x) = (l.set j x).map byteV := by rw [List.map_set]
theorem B8_set {l : List Nat} {j x : Nat} (h : B8 l) (hx : x < 256) : B8 (l.set j x) := fun y hy => (List.mem_or_eq_of_mem_set hy).elim (h y) (fun e => by omega)
theorem dig_set {l : List Nat} {j x b : Nat} (h8 : B8 l) (hj : l[j]? = some x) (hb : b < 256) (hne : b ≠ 0) : dig l ≠ dig (l.set j (x ^^^ b)) := by
  obtain ⟨hlt, rfl⟩ := List.getElem?_eq_some_iff.1 hj
  have e1 : l = l.take j ++ l[j] :: l.drop (j + 1) := by
    rw [← List.drop_eq_getElem_cons hlt, List.take_append_drop]
  have e2 : l.set j (l[j] ^^^ b) = l.take j ++ (l[j] ^^^ b) :: l.drop (j + 1) := by rw [List.set_eq_take_append_cons_drop, if_pos hlt]
  have hl := h8 _ (List.getElem_mem hlt)
  rw [e2]
  conv => lhs; rw [e1]
  refine dig_differs (fun y hy => h8 y (List.mem_of_mem_drop hy)) hl (Nat.xor_lt_two_pow (n := 8) hl hb) (fun e => ?_)
  have h2 : l[j] ^^^ (l[j] ^^^ b) = l[j] ^^^ l[j] := by rw [← e]
  rw [← Nat.xor_assoc, Nat.xor_self, Nat.zero_xor] at h2
  exact hne h2

theorem cell_own {w : World} {base n g cap j z : Nat} {l : List Nat} (h : w.ownsRow base 5 1 (.slice (some ⟨g, 0, none⟩) n cap) n (l.map byteV)) (hj : l[j]? = some z) : w.cell? ⟨g, j, none⟩ = some (.int .u8 (z : Int)) := by
  have hlt := (List.getElem?_eq_some_iff.1 hj).1
  have hn := h.1
  simp at hn
  rw [h.cellAt j (by omega), List.getElem?_map, hj]
  rfl
set_option maxHeartbeats 2000000 in
theorem differs_walk (x : List Nat) (at' by' : Nat) (vx : Value) (w : World) (hx : Byt w vx x) (hnx : NilOk vx) (ha : at' < 65536) (hb : by' < 256) :
    Calls Try.prog 11 #[vx, .int .u16 (at' : Int), .int .u8 (by' : Int)] w fun e w' => e = .returned (.bool true) ∧ Below w.heap.size w w' := by
  have hlx := byt_len hx
  have HX := hid hx
  have HNX := hid hnx
  obtain ⟨A, ca, rfl⟩ := byt_form hx
  clear hx hnx
  have hout : ∀ w0 : World, Below w.heap.size w w0 → Calls Try.prog 12 #[] w0 fun e w' => e = .returned (.bool true) ∧ Below w.heap.size w w' := fun w0 h => (awake_any w0).mono fun e w' ⟨he, hb⟩ => ⟨he, below_both h hb⟩
  have HA := hid hout
  clear hout
  by_cases h0 : x.length = 0
  · have hd : ((x.length : Int) == 0) = true := by rw [h0]; rfl
    clear h0
    go_enter Try.func11, Try.ntmps11
    go_wp2_with fail
    refine (HA.out _ (Below.refl _ _)).mono ?_
    rintro e w1 ⟨rfl, hb⟩
    have HB := hid hb
    clear hb
    go_wp2
    go_ret
    exact ⟨rfl, HB.out⟩
  · have hd : ((x.length : Int) == 0) = false := by rw [beq_eq_false_iff_ne]; omega
    have hpos : 0 < x.length := by omega
    clear h0
    by_cases h1 : x.length ≤ 2000
    · by_cases h2 : by' = 0
      · subst h2
        go_enter Try.func11, Try.ntmps11
        go_wp2_with fail
        refine (HA.out _ (Below.refl _ _)).mono ?_
        rintro e w1 ⟨rfl, hb⟩
        have HB := hid hb
        clear hb
        go_wp2
        go_ret
        exact ⟨rfl, HB.out⟩
      · have hd2 : ((by' : Int) == 0) = false := by rw [beq_eq_false_iff_ne]; omega
        obtain ⟨j, hj⟩ : ∃ j, at' % x.length = j := ⟨_, rfl⟩
        have hjl : j < x.length := by rw [← hj]; exact Nat.mod_lt _ hpos
        have hje : (at' : Int) % (x.length : Int) = (j : Int) := by rw [← hj]; exact (Int.natCast_emod _ _).symm
        obtain ⟨z, hz⟩ : ∃ z, x[j]? = some z := ⟨x[j], List.getElem?_eq_getElem hjl⟩
        have hzl := HX.out.1 z (List.mem_of_getElem? hz)
        have hxo := u8_xor_nat z by' hzl hb
        have H8 := hid (B8_set (j := j) HX.out.1 (Nat.xor_lt_two_pow (n := 8) hzl hb))
        have hne := dig_set HX.out.1 hz hb h2
        have HD1 := hid (fun (w0 : World) (v : Value) (hv : Byt w0 v x) => digestB_any x v w0 hv)
        have HD2 := hid (fun (w0 : World) (v : Value) (hv : Byt w0 v (x.set j (z ^^^ by'))) => digestB_any (x.set j (z ^^^ by')) v w0 hv)
        obtain ⟨d1, hd1⟩ : ∃ d, dig x = d := ⟨_, rfl⟩
        obtain ⟨d2, hd2'⟩ : ∃ d, dig (x.set j (z ^^^ by')) = d := ⟨_, rfl⟩
        rw [hd1] at hne HD1
        rw [hd2'] at hne HD2
        have hdd : ((d1 : Int) != (d2 : Int)) = true := by rw [bne_iff_ne]; omega
        have HZ := hid hz
        clear hj hne hd1 hd2' h2 hz
        go_enter Try.func11, Try.ntmps11
        go_wp2_with (at_builtin; refine append_byt rfl (.tmp 22) (.tmp 23) rfl w.heap.size _ 0 [] rfl (own_empty w) x _ rfl (HX.out.below (al1 _ _)) HNX.out (by omega) (by simp) ?_; intro v1 w1 hown1 hg1; have HB1 := hid (below_own (al1 w _) (own_empty w) hg1 (by simp) (Nat.le_refl _)); rw [Nat.zero_add, List.nil_append] at hown1; obtain ⟨g, cap, hve, hg0, hgl⟩ := own_pos hown1 hpos; subst hve; have hc1 := cell_own hown1 HZ.out; have hf1 := hown1.frozenAt j; have HO1 := hid hown1; clear hown1 hg1)
        obtain ⟨hst, hg2⟩ := HO1.out.stored j (byteV (z ^^^ by'))
        rw [map_set] at hst
        have HV := hid (byt_of_own hst H8.out)
        have hb2 : Below w.heap.size w (w1.setCell ⟨g, j, none⟩ (byteV (z ^^^ by'))) := HB1.out.setCell (p := ⟨g, j, none⟩) hg0 _
        obtain ⟨W2, hW2⟩ : ∃ W2, w1.setCell ⟨g, j, none⟩ (.int .u8 ((z ^^^ by' : Nat) : Int)) = W2 := ⟨_, rfl⟩
        have HV2 : Hid (Byt W2 (.slice (some ⟨g, 0, none⟩) x.length cap) (x.set j (z ^^^ by'))) := by rw [← hW2]; exact HV
        have HB2 : Hid (Below w.heap.size w W2) := by rw [← hW2]; exact hid hb2
        rw [hW2]
        clear hW2 hb2 HV hst hg2 HO1 HB1 hc1 hf1 HZ hxo hzl
        refine (awake_any _).mono ?_
        rintro e w4 ⟨rfl, hb⟩
        replace HV2 := hid (HV2.out.below hb)
        replace HB2 := hid (below_both HB2.out hb)
        clear hb
        go_wp2_with fail
        refine (HD1.out _ _ (HX.out.below HB2.out)).mono ?_
        rintro e w5 ⟨rfl, hb⟩
        replace HV2 := hid (HV2.out.below hb)
        replace HB2 := hid (below_both HB2.out hb)
        clear hb
        go_wp2_with fail
        refine (HD2.out _ _ HV2.out).mono ?_
        rintro e w6 ⟨rfl, hb⟩
        replace HB2 := hid (below_both HB2.out hb)
        clear hb
        go_wp2
        go_ret
        exact ⟨rfl, HB2.out⟩
    · go_enter Try.func11, Try.ntmps11
      go_wp2_with fail
      refine (HA.out _ (Below.refl _ _)).mono ?_
      rintro e w1 ⟨rfl, hb⟩
      have HB := hid hb
      clear hb
      go_wp2
      go_ret
      exact ⟨rfl, HB.out⟩
end Go.Proofs.Ytgkcdmbhniipdaa
