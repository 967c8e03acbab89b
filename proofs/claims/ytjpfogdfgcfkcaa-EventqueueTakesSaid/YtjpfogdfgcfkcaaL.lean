/- Add. -/
import Derived.Test.YtjpfogdfgcfkcaaK
namespace Go.Proofs.Ytjpfogdfgcfkcaa
open Go.RowKit Go.Lib

def insE (l : List Ec) (t : Int) (e : Ec) : List Ec := l.take (unt l t) ++ [e] ++ l.drop (unt l t)
def addS (l : List Ec) (next t k o : Int) (p : List Nat) : Except Int (List Ec) :=
  if chk l next ≠ 0 then .error (chk l next) else if fldI t next k o p.length (next + 1) ≠ 0 then .error (fldI t next k o p.length (next + 1))
  else if l.length = 4096 ∨ next = 1073741824 then .error 11 else .ok (insE l t (t, next, k, o, p))
def AddQ (w : World) (r : Except Int (List Ec)) (next : Int) (e : Ending) (w' : World) : Prop :=
  (∃ er, r = .error er ∧ e = .returned (.tuple #[.agg #[.slice none 0 0, .int .i64 0], .int .i64 0, .int .i64 er]) ∧ Below w.heap.size w w') ∨
  (∃ l q, r = .ok l ∧ e = .returned (.tuple #[q, .int .i64 next, .int .i64 0]) ∧ QuQ w l (next + 1) q w')
theorem unt_le (l : List Ec) (t : Int) : unt l t ≤ l.length := by unfold unt; exact (List.takeWhile_sublist _).length_le

set_option maxHeartbeats 4000000 in
set_option maxRecDepth 100000 in
theorem add_any (l : List Ev) (v : Value) (next t k o : Int) (d : Value) (p : List Nat) (w : World) (hv : EL w v l) (hr : ∀ x ∈ l, R64 x.n) (hd : Byt w d p) (hdn : NilOk d) :
    Calls Try.prog 14 #[.agg #[v, .int .i64 next], .int .i64 t, .int .i64 k, .int .i64 o, d] w (AddQ w (addS (l.map core) next t k o p) next) := by
  obtain ⟨A, c, rfl⟩ := el_form hv
  obtain ⟨dA, dc, rfl⟩ := byt_form hd
  obtain ⟨N, hN⟩ : ∃ N, l.length = N := ⟨_, rfl⟩
  obtain ⟨M, hM⟩ : ∃ M, p.length = M := ⟨_, rfl⟩
  rw [hN] at hv ⊢
  rw [hM] at hd hdn ⊢
  obtain ⟨W1, hW1⟩ : ∃ W1, (w.alloc (.cells #[.slice A N c, .int .i64 next] 24)).alloc (.cells #[.slice none 0 0, .int .i64 0] 24) = W1 := ⟨_, rfl⟩
  have hb1 : Below w.heap.size w W1 := by rw [← hW1]; exact ((Below.refl _ w).alloc (Nat.le_refl _) _).alloc (by simp) _
  obtain ⟨g, hg⟩ : ∃ g, w.heap.size = g := ⟨_, rfl⟩
  have hx1 : W1.heap[g]? = some (.cells #[.slice A N c, .int .i64 next] 24) := by rw [← hW1, ← hg]; exact (Below.heap_alloc _ _ _ (by simp)).trans (heap_alloc_new w _)
  have hy1 : W1.heap[g + 1]? = some (.cells #[.slice none 0 0, .int .i64 0] 24) := by rw [← hW1, ← hg]; simpa using heap_alloc_new (w.alloc (.cells #[.slice A N c, .int .i64 next] 24)) (.cells #[.slice none 0 0, .int .i64 0] 24)
  have hz1 : W1.heap.size = g + 2 := by rw [← hW1, ← hg]; simp
  have x0 : W1.cell? ⟨g, 0, none⟩ = some (.slice A N c) := cell_of_row _ _ 0 _ _ _ hx1
  have x1 : W1.cell? ⟨g, 1, none⟩ = some (.int .i64 next) := cell_of_row _ _ 1 _ _ _ hx1
  have HV := hid hv
  have HN := hid hN
  have HM := hid hM
  have HD := hid hd
  have HDN := hid hdn
  have HB1 := hid hb1
  have HX1 := hid hx1
  have HY1 := hid hy1
  have HZ1 := hid hz1
  have HW1 := hid hW1
  have HG := hid hg
  have HCK := hid (check_any l _ next W1 (hv.below hb1) hr)
  obtain ⟨ck, hck⟩ : ∃ ck, chk (l.map core) next = ck := ⟨_, rfl⟩
  rw [hck] at HCK
  have HCE := hid hck
  clear hv hN hM hd hdn hb1 hx1 hy1 hz1 hW1 hg hr hck
  go_enter Try.func14, Try.ntmps14
  go_wp2_with fail
  rw [HW1.out, HG.out]
  refine HCK.out.mono ?_
  rintro e w2 ⟨rfl, hb2⟩
  have HX2 := hid ((hb2.block _ (box_lt HX1.out)).trans HX1.out)
  have HY2 := hid ((hb2.block _ (box_lt HY1.out)).trans HY1.out)
  have HB2 := hid (HB1.out.trans (hb2.mono HB1.out.size))
  have hz2 : g + 2 ≤ w2.heap.size := by rw [← HZ1.out]; exact hb2.size
  have x0 := cell_of_row _ _ 0 _ _ _ HX2.out
  have x1 := cell_of_row _ _ 1 _ _ _ HX2.out
  have y0 := cell_of_row _ _ 0 _ _ _ HY2.out
  have y1 := cell_of_row _ _ 1 _ _ _ HY2.out
  have fy0 := box_fr HY2.out 0
  have fy1 := box_fr HY2.out 1
  clear hb2 HCK
  by_cases hc0 : ck = 0
  · subst hc0
    obtain ⟨hk1, hk2, hk3, hk4, hk5⟩ := chk_ok HCE.out
    rw [List.length_map, HN.out] at hk1
    have HFL := hid hk4
    have hbl : ∀ x ∈ l, x.p.length ≤ 100000 := fun x hx => by
      have := (fldC_ok (hk4 (core x) (List.mem_map_of_mem hx))).2.2.2.2.2.2
      exact Nat.le_trans this (by decide)
    have HBL := hid hbl
    have hwn : IntKind.i64.wrap (next + 1) = next + 1 := by rw [IntKind.wrap_i64]; omega
    clear hk4 hk5 hbl
    obtain ⟨W3, hW3⟩ : ∃ W3, w2.alloc (.cells #[.int .i64 t, .int .i64 next, .int .i64 k, .int .i64 o, .slice dA M dc] 32) = W3 := ⟨_, rfl⟩
    obtain ⟨h, hh⟩ : ∃ h, w2.heap.size = h := ⟨_, rfl⟩
    have hb3 : Below w2.heap.size w2 W3 := by rw [← hW3]; exact al1 _ _
    have hv3 : W3.heap[h]? = some (.cells #[.int .i64 t, .int .i64 next, .int .i64 k, .int .i64 o, .slice dA M dc] 32) := by rw [← hW3, ← hh]; exact heap_alloc_new _ _
    have HV3 := hid hv3
    have HX3 := hid ((hb3.block _ (box_lt HX2.out)).trans HX2.out)
    have HY3 := hid ((hb3.block _ (box_lt HY2.out)).trans HY2.out)
    have HB3 := hid (HB2.out.trans (hb3.mono HB2.out.size))
    have HH := hid hh
    have hf := fields_any t next k o dA M dc (next + 1) W3
    obtain ⟨fe, hfe⟩ : ∃ fe, fldI t next k o M (next + 1) = fe := ⟨_, rfl⟩
    rw [hfe] at hf
    have HFF := hid hf
    have HFE := hid hfe
    have hgh : g + 2 ≤ h := by omega
    clear hb3 hv3 hf hfe hh
    have HW3 := hid hW3
    have x1' : (w2.alloc (.cells #[.int .i64 t, .int .i64 next, .int .i64 k, .int .i64 o, .slice dA M dc] 32)).cell? ⟨g, 1, none⟩ = some (.int .i64 next) := by rw [hW3]; exact cell_of_row _ _ 1 _ _ _ HX3.out
    clear hW3
    go_wp2_with fail
    rw [HW3.out]
    refine HFF.out.mono ?_
    rintro e w4 ⟨rfl, hb4⟩
    have HV4 := hid ((hb4.block _ (box_lt HV3.out)).trans HV3.out)
    have HX4 := hid ((hb4.block _ (box_lt HX3.out)).trans HX3.out)
    have HY4 := hid ((hb4.block _ (box_lt HY3.out)).trans HY3.out)
    have HB4 := hid (HB3.out.trans (hb4.mono HB3.out.size))
    clear hb4 HFF x0 x1 y0 y1 fy0 fy1 x1'
    rw [HH.out]
    have x0 := cell_of_row _ _ 0 _ _ _ HX4.out
    have x1 := cell_of_row _ _ 1 _ _ _ HX4.out
    have y0 := cell_of_row _ _ 0 _ _ _ HY4.out
    have y1 := cell_of_row _ _ 1 _ _ _ HY4.out
    have fy0 := box_fr HY4.out 0
    have fy1 := box_fr HY4.out 1
    by_cases hf0 : fe = 0
    · subst hf0
      by_cases hfull : N = 4096 ∨ next = 1073741824
      · have HR : Hid (addS (l.map core) next t k o p = .error 11) := hid (by unfold addS; rw [HCE.out, if_neg (by simp), HM.out, HFE.out, if_neg (by simp), if_pos (by rw [List.length_map, HN.out]; exact hfull)])
        by_cases h4 : N = 4096
        · have dn : ((N : Int) == 4096) = true := by rw [beq_iff_eq]; omega
          clear hfull h4
          go_wp2_with fail
          refine bodyPost_ret (results_v_tmp2 rfl _ _ (g + 1) _ rfl (lv24 (set2h _ _ HY4.out)) _ rfl _ rfl) rfl ?_
          exact .inl ⟨11, HR.out, rfl, set2b _ _ HB4.out (by rw [HG.out]; omega)⟩
        · have dn : ((N : Int) == 4096) = false := by rw [beq_eq_false_iff_ne]; omega
          have hn2 : next = 1073741824 := by omega
          have dn2 : (next == 1073741824) = true := by rw [beq_iff_eq]; exact hn2
          have HN2 := hid hn2
          clear hfull h4 hn2
          go_wp2_with fail
          refine bodyPost_ret (results_v_tmp2 rfl _ _ (g + 1) _ rfl (lv24 (set2h _ _ HY4.out)) _ rfl _ rfl) rfl ?_
          exact .inl ⟨11, HR.out, rfl, set2b _ _ HB4.out (by rw [HG.out]; omega)⟩
      · have dn : ((N : Int) == 4096) = false := by rw [beq_eq_false_iff_ne]; omega
        have dn2 : (next == 1073741824) = false := by rw [beq_eq_false_iff_ne]; omega
        have HR : Hid (addS (l.map core) next t k o p = .ok (insE (l.map core) t (t, next, k, o, p))) := hid (by unfold addS; rw [HCE.out, if_neg (by simp), HM.out, HFE.out, if_neg (by simp), if_neg (by rw [List.length_map, HN.out]; exact hfull)])
        clear hfull
        go_wp2_with fail
        have HK : Hid (∀ X, Below w4.heap.size w4 X → X.heap[g]? = some (.cells #[.slice A N c, .int .i64 next] 24) ∧ X.heap[h]? = some (.cells #[.int .i64 t, .int .i64 next, .int .i64 k, .int .i64 o, .slice dA M dc] 32)) := hid (fun X hX => ⟨(hX.block _ (box_lt HX4.out)).trans HX4.out, (hX.block _ (box_lt HV4.out)).trans HV4.out⟩)
        have HCP := hid (fun (X : World) (hX : Below w4.heap.size w4 X) => copied_any l (.slice A N c) X (HV.out.below (HB4.out.trans (hX.mono HB4.out.size))) (by rw [HN.out]; omega) HBL.out)
        have HU := hid (fun (X : World) (hX : Below w4.heap.size w4 X) => until_any l A N c t next X (HV.out.below (HB4.out.trans (hX.mono HB4.out.size))) HN.out HCE.out)
        obtain ⟨u, hu⟩ : ∃ u, unt (l.map core) t = u := ⟨_, rfl⟩
        rw [hu] at HU
        have huN : u ≤ N := by rw [← hu]; have := unt_le (l.map core) t; rw [List.length_map, HN.out] at this; exact this
        have HUU := hid hu
        have hM4 : M ≤ 4096 := by
          have h := HFE.out
          unfold fldI at h
          split at h
          · omega
          · split at h
            · omega
            · split at h
              · omega
              · omega
        have HCV := hid (fun (X : World) (hX : Below w4.heap.size w4 X) => copiedEvent_any t next k o dA M dc p X (HD.out.below (HB4.out.trans (hX.mono HB4.out.size))) HDN.out (by omega))
        obtain ⟨q0, q1⟩ := HK.out w4 (Below.refl _ _)
        have z0 := cell_of_row _ _ 0 _ _ _ q1
        have z1 := cell_of_row _ _ 1 _ _ _ q1
        have z2 := cell_of_row _ _ 2 _ _ _ q1
        have z3 := cell_of_row _ _ 3 _ _ _ q1
        have z4 := cell_of_row _ _ 4 _ _ _ q1
        have hgw : g < w4.heap.size := box_lt HX4.out
        have hhw : h < w4.heap.size := box_lt HV4.out
        have HC : Hid (∀ X, Below w4.heap.size w4 X → X.cell? ⟨g, 0, none⟩ = some (.slice A N c) ∧ X.cell? ⟨g, 1, none⟩ = some (.int .i64 next) ∧ X.cell? ⟨h, 0, none⟩ = some (.int .i64 t) ∧ X.cell? ⟨h, 1, none⟩ = some (.int .i64 next) ∧ X.cell? ⟨h, 2, none⟩ = some (.int .i64 k) ∧ X.cell? ⟨h, 3, none⟩ = some (.int .i64 o) ∧ X.cell? ⟨h, 4, none⟩ = some (.slice dA M dc)) := hid (fun X hX => by
          obtain ⟨q0, q1⟩ := HK.out X hX
          exact ⟨cell_of_row _ _ 0 _ _ _ q0, cell_of_row _ _ 1 _ _ _ q0, cell_of_row _ _ 0 _ _ _ q1, cell_of_row _ _ 1 _ _ _ q1, cell_of_row _ _ 2 _ _ _ q1, cell_of_row _ _ 3 _ _ _ q1, cell_of_row _ _ 4 _ _ _ q1⟩)
        clear q0 q1 y0 y1 fy0 fy1 hu
        go_region_held3 (fun X => X.cell? ⟨g, 0, none⟩ = some (.slice A N c) ∧ X.cell? ⟨g, 1, none⟩ = some (.int .i64 next) ∧ X.cell? ⟨h, 0, none⟩ = some (.int .i64 t) ∧ X.cell? ⟨h, 1, none⟩ = some (.int .i64 next) ∧ X.cell? ⟨h, 2, none⟩ = some (.int .i64 k) ∧ X.cell? ⟨h, 3, none⟩ = some (.int .i64 o) ∧ X.cell? ⟨h, 4, none⟩ = some (.slice dA M dc)) (go_keep)
          (first
            | (go_at_call 33; refine (HCP.out w4.drew (Below.refl _ _).drew).mono ?_; rintro e wa ⟨va, vs, rfl, hoa, hca, hpa, hba'⟩; obtain ⟨vA, vc, rfl⟩ := own_form32 hoa; have hvn : vs.length = N := (by have h := congrArg List.length hca; rw [List.length_map, List.length_map, HN.out] at h; exact h); rw [hvn] at hoa ⊢; have hba : Below w4.heap.size w4 wa := ⟨hba'.os, hba'.tape, hba'.output, hba'.size, hba'.block⟩; have HBa := hid hba; have HOa : Hid (wa.ownsRow w4.heap.size 32 5 (.slice vA N vc) N (vs.map cEv).flatten) := hid hoa; have HPa := hid hpa; have HCa := hid hca; have HVN := hid hvn; obtain ⟨x0, x1, z0, z1, z2, z3, z4⟩ := HC.out wa hba; clear hba' hba hoa hpa hca hvn)
            | (go_at_call 34; refine (HU.out wa HBa.out).mono ?_; rintro e wb ⟨rfl, hbb⟩; have HBb := hid (HBa.out.trans (hbb.mono HBa.out.size)); have HOb := hid (own_keep HOa.out (keep_below hbb)); have HPb := hid (fun x hx => (HPa.out x hx).keep (keep_below hbb)); obtain ⟨x0, x1, z0, z1, z2, z3, z4⟩ := HC.out wb HBb.out; clear hbb)
            | (go_at_call 35; refine (HCV.out wb HBb.out).mono ?_; rintro e wc ⟨eA, ec, rfl, hoc, hbc⟩; have HBc := hid (HBb.out.trans (hbc.mono HBb.out.size)); have HOc := hid (own_keep HOb.out (keep_below hbc)); have HPc := hid (fun x hx => (HPb.out x hx).keep (keep_below hbc)); have HEc := hid hoc; obtain ⟨x0, x1, z0, z1, z2, z3, z4⟩ := HC.out wc HBc.out; clear hbc hoc)
            | (go_at_call 32; refine (insert_any w4.heap.size (.slice vA N vc) N u vs [.int .i64 t, .int .i64 next, .int .i64 k, .int .i64 o, .slice eA M ec] wc.heap.size 32 _ (own_keep HOc.out (keep_below (al1 _ _))) HVN.out (fun x hx => (HPc.out x hx).keep (keep_below (al1 _ _))) huN (by omega) rfl (ev_one _ _ _ _ _ _ _) (heap_alloc_new _ _) (fun e => by have := (HOc.out.lt _ e).2; omega) (by have := HBc.out.size; simp; omega)).mono ?_; rintro e wd ⟨v', rfl, hod, hgd⟩; obtain ⟨dA', dc', rfl⟩ := own_form32 hod; have hkw := own_keep HOc.out (keep_below (al1 wc (.cells #[.int .i64 t, .int .i64 next, .int .i64 k, .int .i64 o, .slice eA M ec] 32))); have hkp := keep_grown (T := 5) hkw (by decide) hgd; have HPd := hid (fun x hx => ((HPc.out x hx).keep (keep_below (al1 wc (.cells #[.int .i64 t, .int .i64 next, .int .i64 k, .int .i64 o, .slice eA M ec] 32)))).keep hkp); have HEd := hid (own_keep (own_keep HEc.out (keep_below (al1 wc (.cells #[.int .i64 t, .int .i64 next, .int .i64 k, .int .i64 o, .slice eA M ec] 32)))) hkp); have HBd := hid (below_ownE (HBc.out.alloc HBc.out.size _) hkw hgd (by have := HBc.out.size; simp; omega) (Nat.le_refl _)); have HOd := hid hod; obtain ⟨x0, x1, z0, z1, z2, z3, z4⟩ := HC.out wd HBd.out; clear hod hgd hkp hkw))
        go_wp2_with fail
        have HXd := (HK.out wd HBd.out)
        have hyd := (HBd.out.block _ (box_lt HY4.out)).trans HY4.out
        have y0 := cell_of_row _ _ 0 _ _ _ hyd
        have y1 := cell_of_row _ _ 1 _ _ _ hyd
        have fy0 := box_fr hyd 0
        have fy1 := box_fr hyd 1
        have HYd := hid hyd
        clear hyd HXd
        go_region
        have how : wd.ownsRow w.heap.size 32 5 (.slice dA' (N + 1) dc') (N + 1) _ := own_base HOd.out HB4.out.size
        have hblk : ∀ k, (Value.slice dA' (N + 1) dc').ownBlock = some k → k ≠ g + 1 := fun k e => by have h1 := (HOd.out.lt k e).1; omega
        have hvl : (vs.take u ++ [(⟨t, next, k, o, .slice eA M ec, p⟩ : Ev)] ++ vs.drop u).length = N + 1 := by
          rw [List.length_append, List.length_append, List.length_take, List.length_drop, HVN.out]; simp; omega
        have hkeep : Keep 5 wd (set2 wd (g + 1) (.slice dA' (N + 1) dc') (.int .i64 (next + 1))) := fun k cs hk => (set2o _ _ (fun e => by rw [e, HYd.out] at hk; cases hk)).trans hk
        go_wp2_with fail
        refine bodyPost_ret (results_v_tmp2 rfl _ _ (g + 1) _ rfl (lv24 (show ((set2 wd (g + 1) (.slice dA' (N + 1) dc') (.int .i64 (next + 1))).drew).heap[g + 1]? = _ from set2h _ _ HYd.out)) _ rfl _ rfl) rfl ?_
        refine .inr ⟨_, _, HR.out, rfl, _, vs.take u ++ [⟨t, next, k, o, .slice eA M ec, p⟩] ++ vs.drop u, rfl, ?_, ?_, fun x hx => ?_, ?_⟩
        · rw [hvl]
          have h := set2r (g := g + 1) (.slice dA' (N + 1) dc') (.int .i64 (next + 1)) how hblk
          rw [List.map_append, List.flatten_append, List.map_append, List.flatten_append]
          show (set2 wd (g + 1) (.slice dA' (N + 1) dc') (.int .i64 (next + 1))).ownsRow _ _ _ _ _ _
          simpa [cEv] using h
        · unfold insE
          rw [HUU.out, List.map_append, List.map_append, List.map_take, List.map_drop, HCa.out]
          rfl
        · refine Pay.keep (w := wd) ?_ hkeep
          rcases List.mem_append.1 hx with hx | hx
          · rcases List.mem_append.1 hx with hx | hx
            · exact HPd.out x (List.mem_of_mem_take hx)
            · rw [List.mem_singleton] at hx
              subst hx
              exact ⟨⟨_, by dsimp only; have h := HEd.out; rw [HM.out] at h ⊢; exact h⟩, HD.out.1⟩
          · exact HPd.out x (List.mem_of_mem_drop hx)
        · exact (set2b _ _ (HB4.out.trans (HBd.out.mono HB4.out.size)) (by rw [HG.out]; omega)).drew
    · have d2 : (fe != 0) = true := by rw [bne_iff_ne]; exact hf0
      have HR : Hid (addS (l.map core) next t k o p = .error fe) := hid (by unfold addS; rw [HCE.out, if_neg (by simp), HM.out, HFE.out, if_pos hf0])
      clear hf0
      go_wp2_with fail
      refine bodyPost_ret (results_v_tmp2 rfl _ _ (g + 1) _ rfl (lv24 (set2h _ _ HY4.out)) _ rfl _ rfl) rfl ?_
      exact .inl ⟨fe, HR.out, rfl, set2b _ _ HB4.out (by rw [HG.out]; omega)⟩
  · have d1 : (ck != 0) = true := by rw [bne_iff_ne]; exact hc0
    have HR : Hid (addS (l.map core) next t k o p = .error ck) := hid (by unfold addS; rw [HCE.out, if_pos hc0])
    clear hc0
    go_wp2_with fail
    refine bodyPost_ret (results_v_tmp2 rfl _ _ (g + 1) _ rfl (lv24 (set2h _ _ HY2.out)) _ rfl _ rfl) rfl ?_
    exact .inl ⟨ck, HR.out, rfl, set2b _ _ HB2.out (by rw [HG.out]; omega)⟩
end Go.Proofs.Ytjpfogdfgcfkcaa
