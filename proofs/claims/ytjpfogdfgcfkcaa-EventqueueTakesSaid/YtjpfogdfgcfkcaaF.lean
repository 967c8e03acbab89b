/- Check: the walk. -/
import Derived.Test.YtjpfogdfgcfkcaaE
namespace Go.Proofs.Ytjpfogdfgcfkcaa
open Go.RowKit Go.Lib Go.Maps

def R64 (x : Int) : Prop := -9223372036854775808 ≤ x ∧ x ≤ 9223372036854775807
theorem chk_err {e : Ec} {next : Int} {pre r : List Ec} {x : Int} (h : fldC e next = x) (hx : x ≠ 0) : chkR next pre (e :: r) = x := by
  rw [chkR_cons, h, if_pos hx]
theorem zero4 (w : World) : (zeroValue 4).run Try.prog w = .ok (.bool false) w := by kernel_rfl
theorem look_seen {W : World} {mb k : Nat} {pre : List Ec} {n : Int} (h : W.ownsMap (H := Unit) Try.prog 3 (plainElem Try.prog 4) mb k (seenD pre)) (hn : R64 n) : (Instr.lookup 59 (.map (some mb)) (.int .i64 n) false).run Try.prog W = .ok (.bool (seenE pre n)) W := by
  obtain ⟨v, ps, hlk, hv⟩ := h.lookup law3 Try.underlying59 (zero4 W) (plainElem_bool Try.underlying4 false) (key3 hn)
  obtain ⟨sb, rfl, hz⟩ := plainBool_inv hv
  have h1 := congrArg Prod.fst hz
  rw [seenD_at] at h1
  injection h1 with h1
  injection h1 with h1
  rw [h1]; exact hlk
theorem prevE_nil (e : Ec) : prevE [] e = false := rfl
theorem prevE_snoc (pre : List Ec) (q e : Ec) : prevE (pre ++ [q]) e = badE e q := by unfold prevE; rw [List.getLast?_concat]
theorem chk_prev {e : Ec} {next : Int} {pre r : List Ec} (h : fldC e next = 0) (h2 : prevE pre e = true) : chkR next pre (e :: r) = 3 := by
  rw [chkR_cons, h, if_neg (by simp), if_pos h2]
theorem chk_twice {e : Ec} {next : Int} {pre r : List Ec} (h : fldC e next = 0) (h2 : prevE pre e = false) (h3 : seenE pre e.2.1 = true) : chkR next pre (e :: r) = 8 := by
  rw [chkR_cons, h, if_neg (by simp), if_neg (by rw [h2]; simp), if_pos h3]
theorem chk_step {e : Ec} {next : Int} {pre r : List Ec} (h : fldC e next = 0) (h2 : prevE pre e = false) (h3 : seenE pre e.2.1 = false) : chkR next pre (e :: r) = chkR next (pre ++ [e]) r := by
  rw [chkR_cons, h, if_neg (by simp), if_neg (by rw [h2]; simp), if_neg (by rw [h3]; simp)]

set_option maxHeartbeats 4000000 in
set_option maxRecDepth 100000 in
theorem check_any (l : List Ev) (v : Value) (next : Int) (w : World) (hv : EL w v l) (hr : ∀ x ∈ l, R64 x.n) :
    Calls Try.prog 12 #[.agg #[v, .int .i64 next]] w fun e w' => e = .returned (.int .i64 (chk (l.map core) next)) ∧ Below w.heap.size w w' := by
  have hmm := run_makeMap59
  obtain ⟨A, c, rfl⟩ := el_form hv
  obtain ⟨N, hN⟩ : ∃ N, l.length = N := ⟨_, rfl⟩
  rw [hN] at hv ⊢
  have HV := hid hv
  have HN := hid hN
  have HR := hid hr
  obtain ⟨W1, hW1⟩ : ∃ W1, w.alloc (.cells #[.slice A N c, .int .i64 next] 24) = W1 := ⟨_, rfl⟩
  have hb1 : Below w.heap.size w W1 := by rw [← hW1]; exact al1 _ _
  have hx1 : W1.heap[w.heap.size]? = some (.cells #[.slice A N c, .int .i64 next] 24) := by rw [← hW1]; exact heap_alloc_new _ _
  have hz1 : W1.heap.size = w.heap.size + 1 := by rw [← hW1]; simp
  have HB1 := hid hb1
  have HX1 := hid hx1
  have HZ1 := hid hz1
  have x0 : W1.cell? ⟨w.heap.size, 0, none⟩ = some (.slice A N c) := cell_of_row _ _ 0 _ _ _ hx1
  have x1 : W1.cell? ⟨w.heap.size, 1, none⟩ = some (.int .i64 next) := cell_of_row _ _ 1 _ _ _ hx1
  clear hv hN hr hb1 hx1 hz1
  have hlen : (l.map core).length = N := by rw [List.length_map]; exact HN.out
  by_cases h1 : 4096 < N
  · have d1 : decide ((4096 : Int) < (N : Int)) = true := decide_eq_true (by omega)
    have HF : Hid (chk (l.map core) next = 6) := hid (by unfold chk; rw [if_pos (by omega)])
    subst hW1
    clear hlen
    go_enter Try.func12, Try.ntmps12
    go_wp2_with fail
    go_ret
    exact ⟨(congrArg (fun r => Ending.returned (.int .i64 r)) HF.out).symm, HB1.out⟩
  have d1 : decide ((4096 : Int) < (N : Int)) = false := decide_eq_false (by omega)
  have hN4 : N ≤ 4096 := by omega
  by_cases h2 : next < 0
  · have d2 : decide (next < 0) = true := decide_eq_true h2
    have HF : Hid (chk (l.map core) next = 2) := hid (by unfold chk; rw [if_neg (by omega), if_pos (by omega)])
    subst hW1
    clear hlen
    go_enter Try.func12, Try.ntmps12
    go_wp2_with fail
    go_ret
    exact ⟨(congrArg (fun r => Ending.returned (.int .i64 r)) HF.out).symm, HB1.out⟩
  have d2 : decide (next < 0) = false := decide_eq_false h2
  by_cases h3 : 1073741824 < next
  · have d3 : decide ((1073741824 : Int) < next) = true := decide_eq_true h3
    have HF : Hid (chk (l.map core) next = 2) := hid (by unfold chk; rw [if_neg (by omega), if_pos (by omega)])
    subst hW1
    clear hlen
    go_enter Try.func12, Try.ntmps12
    go_wp2_with fail
    go_ret
    exact ⟨(congrArg (fun r => Ending.returned (.int .i64 r)) HF.out).symm, HB1.out⟩
  have d3 : decide ((1073741824 : Int) < next) = false := decide_eq_false h3
  have HF : Hid (chk (l.map core) next = chkR next [] (l.map core)) := hid (by unfold chk; rw [if_neg (by omega), if_neg (by omega)])
  obtain ⟨g, hg⟩ : ∃ g, w.heap.size = g := ⟨_, rfl⟩
  have HG := hid hg
  have HM0 : Hid ((W1.alloc (.map #[] 0)).ownsMap (H := Unit) Try.prog 3 (plainElem Try.prog 4) (g + 1) 0 (.map [])) := hid (by
    have h := World.ownsMap_made (H := Unit) W1 Try.prog 3 (plainElem Try.prog 4)
    rw [HZ1.out, hg] at h
    exact h)
  have HX2 : Hid ((W1.alloc (.map #[] 0)).heap[g]? = some (.cells #[.slice A N c, .int .i64 next] 24)) := hid (by rw [← hg]; exact (Below.heap_alloc _ _ _ (by rw [HZ1.out]; omega)).trans HX1.out)
  have HB2 : Hid (Below w.heap.size w (W1.alloc (.map #[] 0))) := hid (HB1.out.alloc HB1.out.size _)
  have HW1 := hid hW1
  have hx2' := HX2.out
  rw [← hg] at hx2'
  have y0 : (W1.alloc (.map #[] 0)).cell? ⟨w.heap.size, 0, none⟩ = some (.slice A N c) := cell_of_row _ _ 0 _ _ _ hx2'
  clear hx2'
  subst hW1
  clear hlen hg h1 h2 h3
  go_enter Try.func12, Try.ntmps12
  go_wp2_with fail
  go_loopw [26] (fun i wr => ∃ k : Nat, k ≤ N ∧ i = .int .i64 (k : Int) ∧ Hid (chkR next [] (l.map core) = chkR next ((l.map core).take k) ((l.map core).drop k)) ∧ Hid (wr.ownsMap (H := Unit) Try.prog 3 (plainElem Try.prog 4) (g + 1) k (seenD ((l.map core).take k))) ∧ Hid (wr.heap[g]? = some (.cells #[.slice A N c, .int .i64 next] 24)) ∧ Hid (Below w.heap.size w wr)) (fun i _ => N - (Go.RowKit.intOf i).toNat)
  case atStart => exact ⟨0, Nat.zero_le _, rfl, hid rfl, HM0, HX2, HB2⟩
  case round =>
    obtain ⟨k, hk, rfl, HC, HM, HX, HB⟩ := hrel
    clear y0 x0 x1 HM0 HX2 HB2 HX1 HB1
    by_cases hkn : k < N
    · have hkn' : (k : Int) < (N : Int) := by omega
      have hel := HV.out.below HB.out
      obtain ⟨b, off, rfl, hbl, hc⟩ := el_cells hel (by rw [HN.out]; omega)
      obtain ⟨x, hx⟩ : ∃ x, l[k]? = some x := ⟨l[k]'(by rw [HN.out]; exact hkn), List.getElem?_eq_getElem _⟩
      obtain ⟨q0, q1, q2, q3, q4⟩ := hc k x hx
      have hxb := (hel.1 x (List.mem_of_getElem? hx)).1
      have hxn := HR.out x (List.mem_of_getElem? hx)
      have HTK := hid (show (l.map core).take (k + 1) = (l.map core).take k ++ [core x] from take_succ'' (by rw [List.getElem?_map, hx]; rfl))
      have HDR := hid (show (l.map core).drop k = core x :: (l.map core).drop (k + 1) from by
        have h : (l.map core)[k]? = some (core x) := by rw [List.getElem?_map, hx]; rfl
        obtain ⟨hlt, he⟩ := List.getElem?_eq_some_iff.1 h
        rw [← he]
        exact List.drop_eq_getElem_cons hlt)
      have HCC := hid hc
      clear hc hx hel
      obtain ⟨xt, xn, xk, xo, xd, xp⟩ := x
      dsimp only at q0 q1 q2 q3 q4 hxb hxn
      obtain ⟨xA, xc, rfl⟩ := byt_form hxb
      obtain ⟨xm, hxm⟩ : ∃ xm, xp.length = xm := ⟨_, rfl⟩
      rw [hxm] at q4
      have HXM := hid hxm
      have HXN := hid hxn
      clear hxb hxm hxn
      obtain ⟨W2, hW2⟩ : ∃ W2, wr.alloc (.cells #[.int .i64 xt, .int .i64 xn, .int .i64 xk, .int .i64 xo, .slice xA xm xc] 32) = W2 := ⟨_, rfl⟩
      have hb2 : Below wr.heap.size wr W2 := by rw [← hW2]; exact al1 _ _
      have hy2 : W2.heap[wr.heap.size]? = some (.cells #[.int .i64 xt, .int .i64 xn, .int .i64 xk, .int .i64 xo, .slice xA xm xc] 32) := by rw [← hW2]; exact heap_alloc_new _ _
      have HY2 := hid hy2
      have HX2 := hid ((hb2.block g (box_lt HX.out)).trans HX.out)
      have HM2 := hid (HM.out.kept (grown_of_below hb2) (by simp))
      have HB2 := hid (HB.out.trans (hb2.mono HB.out.size))
      have HBB2 := hid hb2
      have x1 : W2.cell? ⟨g, 1, none⟩ = some (.int .i64 next) := cell_of_row _ _ 1 _ _ _ HX2.out
      obtain ⟨fe, hfe⟩ : ∃ fe, fldI xt xn xk xo xm next = fe := ⟨_, rfl⟩
      have hck := fields_any xt xn xk xo xA xm xc next W2
      rw [hfe] at hck
      have HCK := hid hck
      have HFE : Hid (fldC (core ⟨xt, xn, xk, xo, .slice xA xm xc, xp⟩) next = fe) := hid (by unfold fldC core; dsimp only; rw [HXM.out]; exact hfe)
      have HW2 := hid hW2
      rw [HG.out]
      clear hck hb2 hy2 hfe
      subst hW2
      go_wp2_with fail
      refine HCK.out.mono ?_
      rintro e w3 ⟨rfl, hb3⟩
      have HY3 := hid ((hb3.block _ (box_lt HY2.out)).trans HY2.out)
      have HX3 := hid ((hb3.block g (box_lt HX2.out)).trans HX2.out)
      have HM3 := hid (HM2.out.kept (grown_of_below hb3) (by simp))
      have HB3 := hid (HB2.out.trans (hb3.mono HB2.out.size))
      have HBB3 := hid (HBB2.out.trans (hb3.mono HBB2.out.size))
      obtain ⟨e, he⟩ : ∃ e, wr.heap.size = e := ⟨_, rfl⟩
      have HE := hid he
      rw [he] at HY3
      rw [HE.out]
      clear hb3 HCK x1 q0 q1 q2 q3 q4 he HBB2 HX2 HY2 HM2 HB2
      by_cases hfz : fe = 0
      · subst hfz
        have y0 := cell_of_row _ _ 0 _ _ _ HY3.out
        have y1 := cell_of_row _ _ 1 _ _ _ HY3.out
        have y2 := cell_of_row _ _ 2 _ _ _ HY3.out
        have y3 := cell_of_row _ _ 3 _ _ _ HY3.out
        have y4 := cell_of_row _ _ 4 _ _ _ HY3.out
        have x0 := cell_of_row _ _ 0 _ _ _ HX3.out
        by_cases hk0 : k = 0
        · subst hk0
          have HPV : Hid (prevE ((l.map core).take 0) (core ⟨xt, xn, xk, xo, .slice xA xm xc, xp⟩) = false) := hid (prevE_nil _)
          go_wp2_with fail
          have dz : decide ((0 : Int) < ((0 : Nat) : Int)) = false := by decide
          have dz2 : decide ((0 : Int) < 0) = false := by decide
          go_quiet (fail)
          have HM4 : Hid ((w3.drewN nq).ownsMap (H := Unit) Try.prog 3 (plainElem Try.prog 4) (g + 1) 0 (seenD ((l.map core).take 0))) := hid HM3.out
          have HY4 : Hid ((w3.drewN nq).heap[e]? = some (.cells #[.int .i64 xt, .int .i64 xn, .int .i64 xk, .int .i64 xo, .slice xA xm xc] 32)) := hid HY3.out
          have HX4 : Hid ((w3.drewN nq).heap[g]? = some (.cells #[.slice (some ⟨b, off, none⟩) N c, .int .i64 next] 24)) := hid HX3.out
          have HB4 := hid (below_both_drewN HB3.out nq)
          clear y0 y1 y2 y3 y4 x0
          obtain ⟨sb, hsb⟩ : ∃ sb, seenE ((l.map core).take 0) xn = sb := ⟨_, rfl⟩
          have hlk := look_seen HM4.out HXN.out
          rw [hsb] at hlk
          have HSB := hid hsb
          clear hsb
          have y1 := cell_of_row _ _ 1 _ _ _ HY4.out
          rcases sb with _ | _
          · have HC2 : Hid (chkR next [] (l.map core) = chkR next ((l.map core).take 0 ++ [core ⟨xt, xn, xk, xo, .slice xA xm xc, xp⟩]) ((l.map core).drop 1)) := hid (HC.out.trans (by rw [HDR.out]; exact chk_step HFE.out HPV.out HSB.out))
            go_wp2_with (first | (at_mapUpdate; refine wpList_mapUpdate_own _ rfl _ _ _ 59 rfl 3 4 law3 Try.underlying59 _ (g + 1) 0 _ rfl HM4.out (by show _ < 2 ^ 63 - 1; omega) _ _ (.int .i64 xn) rfl rfl (key3 HXN.out) (.lit (.bool true)) [] (plainElem_bool Try.underlying4 true) ?_; intro w6 ho6 hg6; have HM6 := hid ho6; have HX6 := hid ((hg6.block g (box_lt HX4.out) (by simp)).trans HX4.out); have HB6 := hid (HB4.out.grown hg6 HB4.out.size (fun r hr => by injection hr with hr; have := HG.out; omega)); clear ho6 hg6) | fail)
            go_roundw
            case rel => exact ⟨1, by omega, by first | rfl | go_num, hid (by rw [HTK.out]; exact HC2.out), hid (by rw [HTK.out, seenD_snoc]; exact HM6.out), HX6, by first | exact HB6 | (rw [HG.out] at HB6; exact HB6)⟩
            case measure => simp [Go.RowKit.intOf]; omega
          · have HF2 : Hid (chk (l.map core) next = 8) := hid (HF.out.trans (HC.out.trans (by rw [HDR.out]; exact chk_twice HFE.out HPV.out HSB.out)))
            go_wp2_with fail
            go_ret
            exact ⟨(congrArg (fun r => Ending.returned (.int .i64 r)) HF2.out).symm, HB4.out⟩
        · obtain ⟨j, hj⟩ : ∃ j, k = j + 1 := ⟨k - 1, by omega⟩
          have hwj : IntKind.i64.wrap ((k : Int) - 1) = (j : Int) := by rw [IntKind.wrap_i64]; omega
          have dz : decide ((0 : Int) < (k : Int)) = true := decide_eq_true (by omega)
          have dzN : decide (0 < k) = true := decide_eq_true (by omega)
          have hjN : (j : Int) < (N : Int) := by omega
          obtain ⟨z, hz⟩ : ∃ z, l[j]? = some z := ⟨l[j]'(by rw [HN.out]; omega), List.getElem?_eq_getElem _⟩
          obtain ⟨z0, z1, z2, z3, z4⟩ := HCC.out j z hz
          have HPV : Hid (prevE ((l.map core).take k) (core ⟨xt, xn, xk, xo, .slice xA xm xc, xp⟩) = badE (core ⟨xt, xn, xk, xo, .slice xA xm xc, xp⟩) (core z)) := hid (by
            rw [hj, take_succ'' (x := core z) (by rw [List.getElem?_map, hz]; rfl), prevE_snoc])
          have hzb := ((HV.out.below HB.out).1 z (List.mem_of_getElem? hz)).1
          obtain ⟨zt, zn, zk, zo, zd, zp⟩ := z
          dsimp only at z0 z1 z2 z3 z4 hzb
          obtain ⟨zA, zc, rfl⟩ := byt_form hzb
          obtain ⟨zm, hzm⟩ : ∃ zm, zp.length = zm := ⟨_, rfl⟩
          rw [hzm] at z4
          have hblt : b < wr.heap.size := hbl
          have HKK := hid (fun (X : World) (hX : Below wr.heap.size wr X) => And.intro ((hX.cell (p := ⟨b, off + j * 5, none⟩) hblt).trans z0) (And.intro ((hX.cell (p := ⟨b, off + j * 5 + 1, none⟩) hblt).trans z1) (And.intro ((hX.cell (p := ⟨b, off + j * 5 + 2, none⟩) hblt).trans z2) (And.intro ((hX.cell (p := ⟨b, off + j * 5 + 3, none⟩) hblt).trans z3) ((hX.cell (p := ⟨b, off + j * 5 + 4, none⟩) hblt).trans z4)))))
          have HPV2 : Hid (badE (core ⟨xt, xn, xk, xo, .slice xA xm xc, xp⟩) (core ⟨zt, zn, zk, zo, .slice zA zp.length zc, zp⟩) = decide (cmpE xt xn zt zn ≤ 0)) := hid rfl
          obtain ⟨cm, hcm⟩ : ∃ cm, cmpE xt xn zt zn = cm := ⟨_, rfl⟩
          have HCM := hid (fun W => compare_any xt xn xk xo zt zn zk zo xA zA xm xc zm zc W)
          rw [hcm] at HCM HPV2
          clear z0 z1 z2 z3 z4 hz hzb hzm hcm hj hk0
          obtain ⟨z0, z1, z2, z3, z4⟩ := HKK.out w3 HBB3.out
          have hew : e < w3.heap.size := box_lt HY3.out
          have hgw : g < w3.heap.size := box_lt HX3.out
          have hbw : b < w3.heap.size := Nat.lt_of_lt_of_le hblt HBB3.out.size
          by_cases hcm0 : cm ≤ 0
          · have dcm : decide (cm ≤ 0) = true := decide_eq_true hcm0
            have HF2 : Hid (chk (l.map core) next = 3) := hid (HF.out.trans (HC.out.trans (by rw [HDR.out]; exact chk_prev HFE.out (HPV.out.trans (HPV2.out.trans dcm)))))
            clear hcm0
            go_wp2_with fail
            go_region_held3 (fun X => X.cell? ⟨e, 0, none⟩ = some (.int .i64 xt) ∧ X.cell? ⟨e, 1, none⟩ = some (.int .i64 xn) ∧ X.cell? ⟨e, 2, none⟩ = some (.int .i64 xk) ∧ X.cell? ⟨e, 3, none⟩ = some (.int .i64 xo) ∧ X.cell? ⟨e, 4, none⟩ = some (.slice xA xm xc) ∧ X.cell? ⟨g, 0, none⟩ = some (.slice (some ⟨b, off, none⟩) N c) ∧ X.cell? ⟨b, off + j * 5, none⟩ = some (.int .i64 zt) ∧ X.cell? ⟨b, off + j * 5 + 1, none⟩ = some (.int .i64 zn) ∧ X.cell? ⟨b, off + j * 5 + 2, none⟩ = some (.int .i64 zk) ∧ X.cell? ⟨b, off + j * 5 + 3, none⟩ = some (.int .i64 zo) ∧ X.cell? ⟨b, off + j * 5 + 4, none⟩ = some (.slice zA zm zc)) (go_keep)
              (first | (go_at_call 31; refine (HCM.out w3.drew).mono ?_; rintro e' w4 ⟨rfl, hb4'⟩; have hb4 : Below w3.heap.size w3 w4 := ⟨hb4'.os, hb4'.tape, hb4'.output, hb4'.size, hb4'.block⟩; have HM4 := hid (HM3.out.kept (grown_of_below hb4) (by simp)); have HY4 := hid ((hb4.block _ hew).trans HY3.out); have HX4 := hid ((hb4.block g hgw).trans HX3.out); have HB4 := hid (HB3.out.trans (hb4.mono HB3.out.size)); obtain ⟨z0, z1, z2, z3, z4⟩ := HKK.out w4 (HBB3.out.trans (hb4.mono HBB3.out.size)); have y0 := cell_of_row _ _ 0 _ _ _ HY4.out; have y1 := cell_of_row _ _ 1 _ _ _ HY4.out; have y2 := cell_of_row _ _ 2 _ _ _ HY4.out; have y3 := cell_of_row _ _ 3 _ _ _ HY4.out; have y4 := cell_of_row _ _ 4 _ _ _ HY4.out; have x0 := cell_of_row _ _ 0 _ _ _ HX4.out; clear hb4 hb4'))
            go_wp2_with fail
            go_ret
            exact ⟨(congrArg (fun r => Ending.returned (.int .i64 r)) HF2.out).symm, HB4.out⟩
          have dcm : decide (cm ≤ 0) = false := decide_eq_false hcm0
          have HPF : Hid (prevE ((l.map core).take k) (core ⟨xt, xn, xk, xo, .slice xA xm xc, xp⟩) = false) := hid (HPV.out.trans (HPV2.out.trans dcm))
          clear hcm0
          go_wp2_with fail
          go_region_held3 (fun X => X.cell? ⟨e, 0, none⟩ = some (.int .i64 xt) ∧ X.cell? ⟨e, 1, none⟩ = some (.int .i64 xn) ∧ X.cell? ⟨e, 2, none⟩ = some (.int .i64 xk) ∧ X.cell? ⟨e, 3, none⟩ = some (.int .i64 xo) ∧ X.cell? ⟨e, 4, none⟩ = some (.slice xA xm xc) ∧ X.cell? ⟨g, 0, none⟩ = some (.slice (some ⟨b, off, none⟩) N c) ∧ X.cell? ⟨b, off + j * 5, none⟩ = some (.int .i64 zt) ∧ X.cell? ⟨b, off + j * 5 + 1, none⟩ = some (.int .i64 zn) ∧ X.cell? ⟨b, off + j * 5 + 2, none⟩ = some (.int .i64 zk) ∧ X.cell? ⟨b, off + j * 5 + 3, none⟩ = some (.int .i64 zo) ∧ X.cell? ⟨b, off + j * 5 + 4, none⟩ = some (.slice zA zm zc)) (go_keep)
            (first | (go_at_call 31; refine (HCM.out w3.drew).mono ?_; rintro e' w4 ⟨rfl, hb4'⟩; have hb4 : Below w3.heap.size w3 w4 := ⟨hb4'.os, hb4'.tape, hb4'.output, hb4'.size, hb4'.block⟩; have HM4 := hid (HM3.out.kept (grown_of_below hb4) (by simp)); have HY4 := hid ((hb4.block _ hew).trans HY3.out); have HX4 := hid ((hb4.block g hgw).trans HX3.out); have HB4 := hid (HB3.out.trans (hb4.mono HB3.out.size)); obtain ⟨z0, z1, z2, z3, z4⟩ := HKK.out w4 (HBB3.out.trans (hb4.mono HBB3.out.size)); have y0 := cell_of_row _ _ 0 _ _ _ HY4.out; have y1 := cell_of_row _ _ 1 _ _ _ HY4.out; have y2 := cell_of_row _ _ 2 _ _ _ HY4.out; have y3 := cell_of_row _ _ 3 _ _ _ HY4.out; have y4 := cell_of_row _ _ 4 _ _ _ HY4.out; have x0 := cell_of_row _ _ 0 _ _ _ HX4.out; clear hb4 hb4'))
          obtain ⟨sb, hsb⟩ : ∃ sb, seenE ((l.map core).take k) xn = sb := ⟨_, rfl⟩
          have hlk := look_seen HM4.out HXN.out
          rw [hsb] at hlk
          have HSB := hid hsb
          clear hsb
          have y1 := cell_of_row _ _ 1 _ _ _ HY4.out
          rcases sb with _ | _
          · have HC2 : Hid (chkR next [] (l.map core) = chkR next ((l.map core).take k ++ [core ⟨xt, xn, xk, xo, .slice xA xm xc, xp⟩]) ((l.map core).drop (k + 1))) := hid (HC.out.trans (by rw [HDR.out]; exact chk_step HFE.out HPF.out HSB.out))
            go_wp2_with (first | (at_mapUpdate; refine wpList_mapUpdate_own _ rfl _ _ _ 59 rfl 3 4 law3 Try.underlying59 _ (g + 1) k _ rfl HM4.out (by show _ < 2 ^ 63 - 1; omega) _ _ (.int .i64 xn) rfl rfl (key3 HXN.out) (.lit (.bool true)) [] (plainElem_bool Try.underlying4 true) ?_; intro w6 ho6 hg6; have HM6 := hid ho6; have HX6 := hid ((hg6.block g (box_lt HX4.out) (by simp)).trans HX4.out); have HB6 := hid (HB4.out.grown hg6 HB4.out.size (fun r hr => by injection hr with hr; have := HG.out; omega)); clear ho6 hg6) | fail)
            go_roundw
            case rel => exact ⟨k + 1, by omega, by go_num, hid (by rw [HTK.out]; exact HC2.out), hid (by rw [HTK.out, seenD_snoc]; exact HM6.out), HX6, by first | exact HB6 | (rw [HG.out] at HB6; exact HB6)⟩
            case measure => simp [Go.RowKit.intOf]; omega
          · have HF2 : Hid (chk (l.map core) next = 8) := hid (HF.out.trans (HC.out.trans (by rw [HDR.out]; exact chk_twice HFE.out HPF.out HSB.out)))
            go_wp2_with fail
            go_ret
            exact ⟨(congrArg (fun r => Ending.returned (.int .i64 r)) HF2.out).symm, HB4.out⟩
      · have d4 : (fe != 0) = true := by rw [bne_iff_ne]; exact hfz
        have HF2 : Hid (chk (l.map core) next = fe) := hid (HF.out.trans (HC.out.trans (by rw [HDR.out]; exact chk_err HFE.out hfz)))
        clear hfz
        go_wp2_with fail
        go_ret
        exact ⟨(congrArg (fun r => Ending.returned (.int .i64 r)) HF2.out).symm, HB3.out⟩
    · obtain rfl : k = N := by omega
      have HF2 : Hid (chk (l.map core) next = 0) := hid (HF.out.trans (HC.out.trans (by rw [List.drop_of_length_le (by rw [List.length_map, HN.out]; omega)]; rfl)))
      go_wp2_with fail
      go_ret
      exact ⟨(congrArg (fun r => Ending.returned (.int .i64 r)) HF2.out).symm, HB.out⟩
end Go.Proofs.Ytjpfogdfgcfkcaa
