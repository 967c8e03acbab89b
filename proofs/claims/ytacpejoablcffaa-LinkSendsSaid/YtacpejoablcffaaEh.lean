/- insert of the reference. -/
import Derived.Test.YtacpejoablcffaaEf
namespace Go.Proofs.Ytacpejoablcffaa
open Go.RowKit Go.Lib

theorem fl_upto {w : World} {A : Option Addr} {n c : Nat} {l : List Fl} (h : FL w (.slice A n c) l) {k : Nat} (hk : k ≤ l.length) : FL w (.slice A k c) (l.take k) := by
  refine ⟨fun x hx => h.1 x (List.mem_of_mem_take hx), fun n' c' e => ?_, ?_⟩
  · injection e with e1 _ e3
    subst e1 e3
    exact h.2.1 _ _ rfl
  · obtain ⟨A', cap, e, h1, h2, b, off, h3, h4⟩ := h.2.2
    injection e with e1 e2 e3
    subst e1 e2 e3
    rw [List.length_map] at h1 h3
    refine ⟨A, c, by rw [List.length_map, List.length_take, Nat.min_eq_left hk], by rw [List.length_map, List.length_take]; omega, h2, b, off, fun hp => h3 (by rw [List.length_map, List.length_take] at hp; omega), fun i r hr j u hu => ?_⟩
    rw [List.map_take, List.getElem?_take] at hr
    split at hr
    · exact h4 i r hr j u hu
    · cases hr
/-- The flights with one more. -/
def insL (l : List Fl) (x : Fl) : List Fl := l.take (unt (l.map core) x.t) ++ [x] ++ l.drop (unt (l.map core) x.t)
theorem insL_core (l : List Fl) (x : Fl) : (insL l x).map core = insF (l.map core) (core x) := by
  unfold insL insF
  rw [List.map_append, List.map_append, List.map_take, List.map_drop]
  rfl
set_option maxHeartbeats 8000000 in
set_option maxRecDepth 100000 in
theorem refInsert_any (l : List Fl) (v : Value) (xt xn : Int) (xA : Option Addr) (xm xc : Nat) (xp : List Nat) (w : World) (hv : FL w v l) (hl : l.length ≤ 100000) (ho : (l.map core).Pairwise ltE) :
    Calls Try.prog 47 #[v, .agg #[.int .i64 xt, .int .i64 xn, .slice xA xm xc]] w (MadeF w (insL l ⟨xt, xn, .slice xA xm xc, xp⟩)) := by
  obtain ⟨A, c, rfl⟩ := fl_form hv
  obtain ⟨N, hN⟩ : ∃ N, l.length = N := ⟨_, rfl⟩
  rw [hN] at hv hl ⊢
  obtain ⟨g, hg⟩ : ∃ g, w.heap.size = g := ⟨_, rfl⟩
  obtain ⟨W1, hW1⟩ : ∃ X, w.alloc (.cells #[.int .i64 xt, .int .i64 xn, .slice xA xm xc] 69) = X := ⟨_, rfl⟩
  have hb1 : Below w.heap.size w W1 := by rw [← hW1]; exact al1 _ _
  have hx1 : W1.heap[g]? = some (.cells #[.int .i64 xt, .int .i64 xn, .slice xA xm xc] 69) := by rw [← hW1, ← hg]; exact heap_alloc_new w _
  have HO := hid ho
  have HV := hid (hv.below hb1)
  have HN := hid hN
  have HB1 := hid hb1
  have HX1 := hid hx1
  have HW1 := hid hW1
  have HG := hid hg
  obtain ⟨u, hu⟩ : ∃ u, unt (l.map core) xt = u := ⟨_, rfl⟩
  have huN : u ≤ N := by rw [← hu, ← hN]; have h := unt_le (l.map core) xt; rw [List.length_map] at h; exact h
  have HU := hid hu
  have HRES : Hid (insL l ⟨xt, xn, .slice xA xm xc, xp⟩ = l.take u ++ [⟨xt, xn, .slice xA xm xc, xp⟩] ++ l.drop u) := hid (by unfold insL; rw [hu])
  rw [HRES.out]
  have hgW : g < W1.heap.size := box_lt hx1
  clear hv hN hb1 hx1 hW1 hg ho hu
  go_enter Try.func47, Try.ntmps47
  go_upto_region 1 with fail
  rw [HW1.out, HG.out]
  go_upto_region 2 with fail
  go_loopw [5] (fun jv wr => ∃ k : Nat, u ≤ k ∧ k ≤ N ∧ jv = .int .i64 (k : Int) ∧ ∃ q, wr = W1.drewN q) (fun j _ => (Lib.intOf j).toNat)
  case atStart => exact ⟨N, huN, Nat.le_refl _, rfl, 0, rfl⟩
  case round =>
    obtain ⟨k, hk1, hk2, rfl, q, rfl⟩ := hrel
    have y0 := cell_of_row _ _ 0 _ _ _ HX1.out
    by_cases hku : k = u
    · subst hku
      have HSS : Hid (True) := hid trivial
      obtain ⟨WQ, hWQ⟩ : ∃ X, X = W1.drewN q := ⟨_, rfl⟩
      by_cases hk0 : k = 0
      · have d0 : decide ((0 : Int) < (k : Int)) = false := decide_eq_false (by omega)
        have d0' : decide (0 < k) = false := decide_eq_false (by omega)
        have HK0 := hid hk0
        clear hk0 hk1 hWQ WQ HSS
        go_upto_region 2 with fail
        go_quiet (fail)
        obtain ⟨W2, hW2⟩ : ∃ X, (W1.drewN q).drewN nq = X := ⟨_, rfl⟩
        rw [hW2]
        have HV2 : Hid (FL W2 (.slice A N c) l) := hid (HV.out.below (by rw [← hW2]; exact below_both_drewN (below_both_drewN (Below.refl _ _) q) nq))
        have HB2 : Hid (Below w.heap.size w W2) := hid (by rw [← hW2]; exact below_both_drewN (below_both_drewN HB1.out q) nq)
        have HX2 : Hid (W2.heap[g]? = some (.cells #[.int .i64 xt, .int .i64 xn, .slice xA xm xc] 69)) := hid (by rw [← hW2]; exact HX1.out)
        clear hW2 y0 d0 d0'
        have hB2 : Below W2.heap.size W2 W2 := Below.refl _ _
        obtain ⟨B, hB⟩ : ∃ B, W2.heap.size = B := ⟨_, rfl⟩
        have hgB : g < B := by rw [← hB]; exact box_lt HX2.out
        have hwB : w.heap.size ≤ B := by rw [← hB]; exact HB2.out.size
        have HBB := hid hB
        have hcN : N ≤ c := by have h := (fl_cap HV2.out).2.1; rw [HN.out] at h; exact h
        have hkc : k ≤ c := Nat.le_trans hk2 hcN
        have hsl := run_to24 A N c k hkc
        have hu1 := fl_upto HV2.out (k := k) (by rw [HN.out]; exact hk2)
        have hu1l : (l.take k).length = k := by rw [List.length_take, HN.out]; omega
        have HU1L := hid hu1l
        clear hB hu1l
        have hl12 : k + 1 + (N - k) ≤ 1000000 := by omega
        have ha1 : 0 + (l.take k).length ≤ 1000000 := by rw [HU1L.out]; omega
        have hbW : B ≤ W2.heap.size := by rw [HBB.out]; exact Nat.le_refl _
        go_upto_region 5 with fail
        go_upto_region 6 with (at_builtin; refine append_fls rfl (.tmp 24) (.tmp 27) rfl B (.slice none 0 0) 0 [] rfl (World.ownsRow_nil _ _ _ _) (l.take k) _ rfl hu1 ha1 hbW ?_; intro v3 w3 ho3 hg3; rw [Nat.zero_add, HU1L.out] at ho3; obtain ⟨rA, rc, rfl⟩ := own_form69 ho3; have HO3 := hid ho3; have HG3 := hid hg3; clear ho3 hg3)
        have HB3 : Hid (Below B W2 w3) := hid (below_ownE (base := B) (hB2.mono hbW) (World.ownsRow_nil W2 B 69 3) HG3.out hbW (Nat.le_refl _))
        have HX3 := hid ((HB3.out.block g hgB).trans HX2.out)
        have x0 := cell_of_row _ _ 0 _ _ _ HX3.out
        have x1 := cell_of_row _ _ 1 _ _ _ HX3.out
        have x2 := cell_of_row _ _ 2 _ _ _ HX3.out
        have hb3 : B ≤ w3.heap.size := Nat.le_trans hbW HB3.out.size
        have ha2 : k + 1 ≤ 1000000 := by omega
        clear hu1 hsl ha1
        go_upto_region 7 with (at_builtin; refine append_one rfl (.tmp 29) (.tmp 31) rfl B (.slice rA k rc) k _ rfl (own_keep HO3.out (keep_below (al1 _ _))) [.int .i64 xt, .int .i64 xn, .slice xA xm xc] rfl (fl_one _ _ _ _ _) ⟨w3.heap.size, 0, none⟩ 1 rfl (cell3 w3 _ _ _ 69) ha2 (by simp; omega) ?_; intro v4 w4 ho4 hg4; obtain ⟨sA, sc, rfl⟩ := own_form69 ho4; have HO4 := hid ho4; have HG4 := hid hg4; clear ho4 hg4)
        have how := own_keep HO3.out (keep_below (al1 w3 (.cells #[.int .i64 xt, .int .i64 xn, .slice xA xm xc] 69)))
        have HB4 : Hid (Below B W2 w4) := hid (below_ownE (base := B) (HB3.out.alloc hb3 _) how HG4.out (by simp; omega) (Nat.le_refl _))
        have hmid := fl_mid (HV2.out.below (by rw [HBB.out]; exact HB4.out)) k N hk2 (by rw [HN.out]; exact Nat.le_refl _)
        rw [List.take_of_length_le (by rw [List.length_drop, HN.out]; exact Nat.le_refl _)] at hmid
        have hsl2 := run_from24 A N c k hk2
        obtain ⟨fA, hfA⟩ : ∃ fA, fromN 3 A c k = fA := ⟨_, rfl⟩
        obtain ⟨m, hm⟩ : ∃ m, N - k = m := ⟨_, rfl⟩
        obtain ⟨cm, hcm⟩ : ∃ m, c - k = m := ⟨_, rfl⟩
        rw [hfA, hm, hcm] at hsl2 hmid
        rw [hm] at hl12
        have hdl : (l.drop k).length = m := by rw [List.length_drop, HN.out]; exact hm
        have HDL := hid hdl
        have ha3 : k + 1 + (l.drop k).length ≤ 1000000 := by rw [hdl]; exact hl12
        have hb4 : B ≤ w4.heap.size := Nat.le_trans hbW HB4.out.size
        have HKN := hid (show (k : Int) ≤ (N : Int) by omega)
        have hkN := HKN.out
        clear how hfA hm hcm hdl x0 x1 x2
        go_wp2_with (at_builtin; refine append_fls rfl (.tmp 33) (.tmp 36) rfl B (.slice sA (k + 1) sc) (k + 1) _ rfl HO4.out (l.drop k) _ rfl hmid ha3 hb4 ?_; intro v5 w5 ho5 hg5; have HO5 := hid ho5; have HG5 := hid hg5; clear ho5 hg5)
        go_ret
        refine ⟨_, rfl, ?_, ?_⟩
        · have h := own_base HO5.out hwB
          have e1 : (l.take k ++ [(⟨xt, xn, .slice xA xm xc, xp⟩ : Fl)] ++ l.drop k).length = k + 1 + (l.drop k).length := by rw [List.length_append, List.length_append, HU1L.out]; rfl
          rw [e1, List.map_append, List.map_append, List.flatten_append, List.flatten_append]
          exact h
        · exact HB2.out.trans ((below_ownE (base := B) HB4.out HO4.out HG5.out hb4 (Nat.le_refl _)).mono hwB)
      · obtain ⟨j, hj⟩ : ∃ j, j + 1 = k := ⟨k - 1, by omega⟩
        obtain ⟨b, off, rfl, hbl, hc⟩ := fl_cells HV.out (by rw [HN.out]; omega)
        obtain ⟨z, hz⟩ : ∃ z, l[j]? = some z := ⟨l[j]'(by rw [HN.out]; omega), List.getElem?_eq_getElem _⟩
        obtain ⟨q0, _, _⟩ := hc j z hz
        have hle : z.t ≤ xt := unt_lt (l := l.map core) (t := xt) (i := j) (x := core z) (by rw [HU.out]; omega) (by rw [List.getElem?_map, hz]; rfl)
        obtain ⟨zt, hzt⟩ : ∃ t, z.t = t := ⟨_, rfl⟩
        rw [hzt] at q0 hle
        have d0 : decide ((0 : Int) < (k : Int)) = true := decide_eq_true (by omega)
        have d0' : decide (0 < k) = true := decide_eq_true (by omega)
        have e1 : IntKind.i64.wrap ((k : Int) - 1) = (j : Int) := by rw [IntKind.wrap_i64]; omega
        have hjN : (j : Int) < (N : Int) := by omega
        have hjN' : j < N := by omega
        have d1 : decide (xt < zt) = false := decide_eq_false (by omega)
        have HJ := hid hj
        clear hj hc hz hzt hk0 hk1 hle hWQ WQ HSS
        go_upto_region 2 with fail
        go_quiet (fail)
        obtain ⟨W2, hW2⟩ : ∃ X, (W1.drewN q).drewN nq = X := ⟨_, rfl⟩
        rw [hW2]
        have HV2 : Hid (FL W2 (.slice (some ⟨b, off, none⟩) N c) l) := hid (HV.out.below (by rw [← hW2]; exact below_both_drewN (below_both_drewN (Below.refl _ _) q) nq))
        have HB2 : Hid (Below w.heap.size w W2) := hid (by rw [← hW2]; exact below_both_drewN (below_both_drewN HB1.out q) nq)
        have HX2 : Hid (W2.heap[g]? = some (.cells #[.int .i64 xt, .int .i64 xn, .slice xA xm xc] 69)) := hid (by rw [← hW2]; exact HX1.out)
        clear hW2 y0 q0 d0 d0' d1 e1
        have hB2 : Below W2.heap.size W2 W2 := Below.refl _ _
        obtain ⟨B, hB⟩ : ∃ B, W2.heap.size = B := ⟨_, rfl⟩
        have hgB : g < B := by rw [← hB]; exact box_lt HX2.out
        have hwB : w.heap.size ≤ B := by rw [← hB]; exact HB2.out.size
        have HBB := hid hB
        have hcN : N ≤ c := by have h := (fl_cap HV2.out).2.1; rw [HN.out] at h; exact h
        have hkc : k ≤ c := Nat.le_trans hk2 hcN
        have hsl := run_to24 (some ⟨b, off, none⟩) N c k hkc
        have hu1 := fl_upto HV2.out (k := k) (by rw [HN.out]; exact hk2)
        have hu1l : (l.take k).length = k := by rw [List.length_take, HN.out]; omega
        have HU1L := hid hu1l
        clear hB hu1l
        have hl12 : k + 1 + (N - k) ≤ 1000000 := by omega
        have ha1 : 0 + (l.take k).length ≤ 1000000 := by rw [HU1L.out]; omega
        have hbW : B ≤ W2.heap.size := by rw [HBB.out]; exact Nat.le_refl _
        go_upto_region 5 with fail
        go_upto_region 6 with (at_builtin; refine append_fls rfl (.tmp 24) (.tmp 27) rfl B (.slice none 0 0) 0 [] rfl (World.ownsRow_nil _ _ _ _) (l.take k) _ rfl hu1 ha1 hbW ?_; intro v3 w3 ho3 hg3; rw [Nat.zero_add, HU1L.out] at ho3; obtain ⟨rA, rc, rfl⟩ := own_form69 ho3; have HO3 := hid ho3; have HG3 := hid hg3; clear ho3 hg3)
        have HB3 : Hid (Below B W2 w3) := hid (below_ownE (base := B) (hB2.mono hbW) (World.ownsRow_nil W2 B 69 3) HG3.out hbW (Nat.le_refl _))
        have HX3 := hid ((HB3.out.block g hgB).trans HX2.out)
        have x0 := cell_of_row _ _ 0 _ _ _ HX3.out
        have x1 := cell_of_row _ _ 1 _ _ _ HX3.out
        have x2 := cell_of_row _ _ 2 _ _ _ HX3.out
        have hb3 : B ≤ w3.heap.size := Nat.le_trans hbW HB3.out.size
        have ha2 : k + 1 ≤ 1000000 := by omega
        clear hu1 hsl ha1
        go_upto_region 7 with (at_builtin; refine append_one rfl (.tmp 29) (.tmp 31) rfl B (.slice rA k rc) k _ rfl (own_keep HO3.out (keep_below (al1 _ _))) [.int .i64 xt, .int .i64 xn, .slice xA xm xc] rfl (fl_one _ _ _ _ _) ⟨w3.heap.size, 0, none⟩ 1 rfl (cell3 w3 _ _ _ 69) ha2 (by simp; omega) ?_; intro v4 w4 ho4 hg4; obtain ⟨sA, sc, rfl⟩ := own_form69 ho4; have HO4 := hid ho4; have HG4 := hid hg4; clear ho4 hg4)
        have how := own_keep HO3.out (keep_below (al1 w3 (.cells #[.int .i64 xt, .int .i64 xn, .slice xA xm xc] 69)))
        have HB4 : Hid (Below B W2 w4) := hid (below_ownE (base := B) (HB3.out.alloc hb3 _) how HG4.out (by simp; omega) (Nat.le_refl _))
        have hmid := fl_mid (HV2.out.below (by rw [HBB.out]; exact HB4.out)) k N hk2 (by rw [HN.out]; exact Nat.le_refl _)
        rw [List.take_of_length_le (by rw [List.length_drop, HN.out]; exact Nat.le_refl _)] at hmid
        have hsl2 := run_from24 (some ⟨b, off, none⟩) N c k hk2
        obtain ⟨fA, hfA⟩ : ∃ fA, fromN 3 (some ⟨b, off, none⟩) c k = fA := ⟨_, rfl⟩
        obtain ⟨m, hm⟩ : ∃ m, N - k = m := ⟨_, rfl⟩
        obtain ⟨cm, hcm⟩ : ∃ m, c - k = m := ⟨_, rfl⟩
        rw [hfA, hm, hcm] at hsl2 hmid
        rw [hm] at hl12
        have hdl : (l.drop k).length = m := by rw [List.length_drop, HN.out]; exact hm
        have HDL := hid hdl
        have ha3 : k + 1 + (l.drop k).length ≤ 1000000 := by rw [hdl]; exact hl12
        have hb4 : B ≤ w4.heap.size := Nat.le_trans hbW HB4.out.size
        have HKN := hid (show (k : Int) ≤ (N : Int) by omega)
        have hkN := HKN.out
        clear how hfA hm hcm hdl x0 x1 x2
        go_wp2_with (at_builtin; refine append_fls rfl (.tmp 33) (.tmp 36) rfl B (.slice sA (k + 1) sc) (k + 1) _ rfl HO4.out (l.drop k) _ rfl hmid ha3 hb4 ?_; intro v5 w5 ho5 hg5; have HO5 := hid ho5; have HG5 := hid hg5; clear ho5 hg5)
        go_ret
        refine ⟨_, rfl, ?_, ?_⟩
        · have h := own_base HO5.out hwB
          have e1 : (l.take k ++ [(⟨xt, xn, .slice xA xm xc, xp⟩ : Fl)] ++ l.drop k).length = k + 1 + (l.drop k).length := by rw [List.length_append, List.length_append, HU1L.out]; rfl
          rw [e1, List.map_append, List.map_append, List.flatten_append, List.flatten_append]
          exact h
        · exact HB2.out.trans ((below_ownE (base := B) HB4.out HO4.out HG5.out hb4 (Nat.le_refl _)).mono hwB)
    · obtain ⟨j, hj⟩ : ∃ j, j + 1 = k := ⟨k - 1, by omega⟩
      obtain ⟨b, off, rfl, hbl, hc⟩ := fl_cells HV.out (by rw [HN.out]; omega)
      obtain ⟨z, hz⟩ : ∃ z, l[j]? = some z := ⟨l[j]'(by rw [HN.out]; omega), List.getElem?_eq_getElem _⟩
      obtain ⟨q0, _, _⟩ := hc j z hz
      have hgt : xt < z.t := unt_ge (l := l.map core) (t := xt) HO.out (i := j) (x := core z) (by rw [HU.out]; omega) (by rw [List.getElem?_map, hz]; rfl)
      obtain ⟨zt, hzt⟩ : ∃ t, z.t = t := ⟨_, rfl⟩
      rw [hzt] at q0 hgt
      have d0 : decide ((0 : Int) < (k : Int)) = true := decide_eq_true (by omega)
      have d0' : decide (0 < k) = true := decide_eq_true (by omega)
      have e1 : IntKind.i64.wrap ((k : Int) - 1) = (j : Int) := by rw [IntKind.wrap_i64]; omega
      have hjN : (j : Int) < (N : Int) := by omega
      have hjN' : j < N := by omega
      have d1 : decide (xt < zt) = true := decide_eq_true hgt
      have HJ := hid hj
      have huj : u ≤ j := by omega
      clear hj hc hz hzt hgt
      go_upto_region 2 with fail
      go_quiet (fail)
      go_wp2_with fail
      go_roundw
      case rel => exact ⟨j, huj, Nat.le_of_lt hjN', rfl, _, rfl⟩
      case measure => have := HJ.out; simp [Lib.intOf]; omega
end Go.Proofs.Ytacpejoablcffaa
