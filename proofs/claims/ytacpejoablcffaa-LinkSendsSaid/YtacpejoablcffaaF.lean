/- Check: the walk. -/
import Derived.Test.YtacpejoablcffaaE
namespace Go.Proofs.Ytacpejoablcffaa
open Go.RowKit Go.Lib Go.Maps

def R64 (x : Int) : Prop := -9223372036854775808 ≤ x ∧ x ≤ 9223372036854775807
theorem chk_err {e : Fc} {next : Int} {pre r : List Fc} {x : Int} (h : fldC e next = x) (hx : x ≠ 0) : chkR next pre (e :: r) = x := by
  rw [chkR_cons, h, if_pos hx]
theorem zero4 (w : World) : (zeroValue 4).run Try.prog w = .ok (.bool false) w := by kernel_rfl
theorem look_seen {W : World} {mb k : Nat} {pre : List Fc} {n : Int} (h : W.ownsMap (H := Unit) Try.prog 3 (plainElem Try.prog 4) mb k (seenD pre)) (hn : R64 n) : (Instr.lookup 73 (.map (some mb)) (.int .i64 n) false).run Try.prog W = .ok (.bool (seenE pre n)) W := by
  obtain ⟨v, ps, hlk, hv⟩ := h.lookup law3 Try.underlying73 (zero4 W) (plainElem_bool Try.underlying4 false) (key3 hn)
  obtain ⟨sb, rfl, hz⟩ := plainBool_inv hv
  have h1 := congrArg Prod.fst hz
  rw [seenD_at] at h1
  injection h1 with h1
  injection h1 with h1
  rw [h1]; exact hlk
theorem prevE_nil (e : Fc) : prevE [] e = false := rfl
theorem prevE_snoc (pre : List Fc) (q e : Fc) : prevE (pre ++ [q]) e = badE e q := by unfold prevE; rw [List.getLast?_concat]
theorem chk_prev {e : Fc} {next : Int} {pre r : List Fc} (h : fldC e next = 0) (h2 : prevE pre e = true) : chkR next pre (e :: r) = 3 := by
  rw [chkR_cons, h, if_neg (by simp), if_pos h2]
theorem chk_twice {e : Fc} {next : Int} {pre r : List Fc} (h : fldC e next = 0) (h2 : prevE pre e = false) (h3 : seenE pre e.2.1 = true) : chkR next pre (e :: r) = 8 := by
  rw [chkR_cons, h, if_neg (by simp), if_neg (by rw [h2]; simp), if_pos h3]
theorem chk_step {e : Fc} {next : Int} {pre r : List Fc} (h : fldC e next = 0) (h2 : prevE pre e = false) (h3 : seenE pre e.2.1 = false) : chkR next pre (e :: r) = chkR next (pre ++ [e]) r := by
  rw [chkR_cons, h, if_neg (by simp), if_neg (by rw [h2]; simp), if_neg (by rw [h3]; simp)]

set_option maxHeartbeats 4000000 in
set_option maxRecDepth 100000 in
theorem check_any (s : Lk) (l : List Fl) (v : Value) (w : World) (hv : FL w v l) (hr : ∀ x ∈ l, R64 x.n) :
    Calls Try.prog 16 #[.agg #[.int .i64 s.mn, .int .i64 s.mx, .int .i64 s.rt, .bool s.dn, .int .i64 s.idle, .int .i64 s.next, v]] w fun e w' => e = .returned (.int .i64 (chk s (l.map core))) ∧ Below w.heap.size w w' := by
  have hmm := run_makeMap73
  obtain ⟨A, c, rfl⟩ := fl_form hv
  obtain ⟨N, hN⟩ : ∃ N, l.length = N := ⟨_, rfl⟩
  rw [hN] at hv ⊢
  obtain ⟨mn, hmn⟩ : ∃ mn, s.mn = mn := ⟨_, rfl⟩
  obtain ⟨mx, hmx⟩ : ∃ mx, s.mx = mx := ⟨_, rfl⟩
  obtain ⟨rt, hrt⟩ : ∃ rt, s.rt = rt := ⟨_, rfl⟩
  obtain ⟨dn, hdn⟩ : ∃ dn, s.dn = dn := ⟨_, rfl⟩
  obtain ⟨idle, hidle⟩ : ∃ idle, s.idle = idle := ⟨_, rfl⟩
  obtain ⟨next, hnext⟩ : ∃ next, s.next = next := ⟨_, rfl⟩
  have HF0 : Hid (chk s (l.map core) = if cfgB mn mx rt = false then 2 else if timeB idle = false then 24 else if next < 0 ∨ 1073741824 < next then 2 else if 4096 < N then 6 else if dn = true ∧ 0 < N then 12 else chkR next [] (l.map core)) := hid (by unfold chk; rw [hmn, hmx, hrt, hdn, hidle, hnext, List.length_map, hN])
  rw [hmn, hmx, hrt, hdn, hidle, hnext]
  have HV := hid hv
  have HN := hid hN
  have HR := hid hr
  obtain ⟨W1, hW1⟩ : ∃ W1, w.alloc (.cells #[.int .i64 mn, .int .i64 mx, .int .i64 rt, .bool dn, .int .i64 idle, .int .i64 next, .slice A N c] 26) = W1 := ⟨_, rfl⟩
  obtain ⟨g, hg⟩ : ∃ g, w.heap.size = g := ⟨_, rfl⟩
  have hb1 : Below w.heap.size w W1 := by rw [← hW1]; exact al1 _ _
  have hx1 : W1.heap[g]? = some (.cells #[.int .i64 mn, .int .i64 mx, .int .i64 rt, .bool dn, .int .i64 idle, .int .i64 next, .slice A N c] 26) := by rw [← hW1, ← hg]; exact heap_alloc_new _ _
  have hz1 : W1.heap.size = g + 1 := by rw [← hW1, ← hg]; simp
  have HB1 := hid hb1
  have HX1 := hid hx1
  have HZ1 := hid hz1
  have HG := hid hg
  have HW1 := hid hW1
  have x0 := cell_of_row _ _ 0 _ _ _ hx1
  have x1 := cell_of_row _ _ 1 _ _ _ hx1
  have x2 := cell_of_row _ _ 2 _ _ _ hx1
  obtain ⟨bc, hbc⟩ : ∃ b, cfgB mn mx rt = b := ⟨_, rfl⟩
  obtain ⟨bt, hbt⟩ : ∃ b, timeB idle = b := ⟨_, rfl⟩
  have HCF := hid (fun W => cfg_any mn mx rt W)
  have HTM := hid (fun W => isTime_any idle W)
  rw [hbc] at HCF HF0
  rw [hbt] at HTM HF0
  clear hv hN hr hb1 hx1 hz1 hg hmn hmx hrt hdn hidle hnext hW1 hbc hbt
  rcases bc with _ | _
  · have HF := hid (HF0.out.trans (if_pos rfl))
    go_enter Try.func16, Try.ntmps16
    go_wp2_with fail
    rw [HW1.out]
    refine (HCF.out W1).mono ?_
    rintro e w0 ⟨rfl, hb0⟩
    go_wp2_with fail
    go_ret
    exact ⟨(congrArg (fun r => Ending.returned (.int .i64 r)) HF.out).symm, HB1.out.trans (hb0.mono HB1.out.size)⟩
  have HF1 := hid (HF0.out.trans (if_neg (by simp)))
  go_enter Try.func16, Try.ntmps16
  go_wp2_with fail
  rw [HW1.out]
  refine (HCF.out W1).mono ?_
  rintro e w0 ⟨rfl, hb0⟩
  have HX0 := hid ((hb0.block _ (box_lt HX1.out)).trans HX1.out)
  have HB0 := hid (HB1.out.trans (hb0.mono HB1.out.size))
  have hz0 : g + 1 ≤ w0.heap.size := by rw [← HZ1.out]; exact hb0.size
  rw [HG.out]
  clear x0 x1 x2 hb0 HCF
  have x1 := cell_of_row _ _ 3 _ _ _ HX0.out
  have x2 := cell_of_row _ _ 4 _ _ _ HX0.out
  have x3 := cell_of_row _ _ 5 _ _ _ HX0.out
  have x4 := cell_of_row _ _ 6 _ _ _ HX0.out
  rcases bt with _ | _
  · have HF := hid (HF1.out.trans (if_pos rfl))
    go_wp2_with (first | (go_at_call 35; refine (HTM.out _).mono ?_; rintro e w' ⟨rfl, rfl⟩))
    go_ret
    exact ⟨(congrArg (fun r => Ending.returned (.int .i64 r)) HF.out).symm, HB0.out⟩
  have HF2 := hid (HF1.out.trans (if_neg (by simp)))
  by_cases h2 : next < 0
  · have d2 : decide (next < 0) = true := decide_eq_true h2
    have HF := hid (HF2.out.trans (if_pos (.inl h2)))
    clear h2
    go_wp2_with (first | (go_at_call 35; refine (HTM.out _).mono ?_; rintro e w' ⟨rfl, rfl⟩))
    go_ret
    exact ⟨(congrArg (fun r => Ending.returned (.int .i64 r)) HF.out).symm, HB0.out⟩
  have d2 : decide (next < 0) = false := decide_eq_false h2
  by_cases h3 : 1073741824 < next
  · have d3 : decide ((1073741824 : Int) < next) = true := decide_eq_true h3
    have HF := hid (HF2.out.trans (if_pos (.inr h3)))
    clear h2 h3
    go_wp2_with (first | (go_at_call 35; refine (HTM.out _).mono ?_; rintro e w' ⟨rfl, rfl⟩))
    go_ret
    exact ⟨(congrArg (fun r => Ending.returned (.int .i64 r)) HF.out).symm, HB0.out⟩
  have d3 : decide ((1073741824 : Int) < next) = false := decide_eq_false h3
  have HF3 := hid (HF2.out.trans (if_neg (by omega)))
  by_cases h1 : 4096 < N
  · have d1 : decide ((4096 : Int) < (N : Int)) = true := decide_eq_true (by omega)
    have HF := hid (HF3.out.trans (if_pos h1))
    clear h1 h2 h3
    go_wp2_with (first | (go_at_call 35; refine (HTM.out _).mono ?_; rintro e w' ⟨rfl, rfl⟩))
    go_ret
    exact ⟨(congrArg (fun r => Ending.returned (.int .i64 r)) HF.out).symm, HB0.out⟩
  have d1 : decide ((4096 : Int) < (N : Int)) = false := decide_eq_false (by omega)
  have hN4 : N ≤ 4096 := by omega
  have HF4 := hid (HF3.out.trans (if_neg h1))
  by_cases h5 : dn = true ∧ 0 < N
  · have d5 : decide ((0 : Int) < (N : Int)) = true := decide_eq_true (by omega)
    have d5N : decide (0 < N) = true := decide_eq_true (by omega)
    have HF := hid (HF4.out.trans (if_pos h5))
    obtain ⟨h5, h6⟩ := h5
    subst h5
    clear h1 h2 h3 h6
    go_wp2_with (first | (go_at_call 35; refine (HTM.out _).mono ?_; rintro e w' ⟨rfl, rfl⟩))
    go_ret
    exact ⟨(congrArg (fun r => Ending.returned (.int .i64 r)) HF.out).symm, HB0.out⟩
  have HF := hid (HF4.out.trans (if_neg h5))
  have hdn : dn = false ∨ N = 0 := by
    rcases dn with _ | _
    · exact .inl rfl
    · exact .inr (by rcases Nat.eq_zero_or_pos N with h | h; exact h; exact absurd ⟨rfl, h⟩ h5)
  obtain ⟨bn, hbn⟩ : ∃ b, decide ((0 : Int) < (N : Int)) = b := ⟨_, rfl⟩
  have hbnN : decide (0 < N) = bn := by
    have e : decide (0 < N) = decide ((0 : Int) < (N : Int)) := by by_cases h : 0 < N <;> simp [h]
    exact e.trans hbn
  have hbd : (dn && bn) = false := by
    rcases hdn with rfl | rfl
    · rfl
    · rw [← hbn]; simp
  obtain ⟨W3, hW3⟩ : ∃ W3, w0.alloc (.map #[] 0) = W3 := ⟨_, rfl⟩
  obtain ⟨mb, hmb⟩ : ∃ mb, w0.heap.size = mb := ⟨_, rfl⟩
  have HM0 : Hid (W3.ownsMap (H := Unit) Try.prog 3 (plainElem Try.prog 4) mb 0 (.map [])) := hid (by
    have h := World.ownsMap_made (H := Unit) w0 Try.prog 3 (plainElem Try.prog 4)
    rw [hW3, hmb] at h
    exact h)
  have hb3 : Below w0.heap.size w0 W3 := by rw [← hW3]; exact al1 _ _
  have HX2 := hid ((hb3.block _ (box_lt HX0.out)).trans HX0.out)
  have HB2 := hid (HB0.out.trans (hb3.mono HB0.out.size))
  have hgm : g < mb := by omega
  have hlm : mb < W3.heap.size := by rw [← hW3, ← hmb]; simp
  have HW3 := hid hW3
  have HMB := hid hmb
  have y4 : (w0.alloc (.map #[] 0)).cell? ⟨g, 6, none⟩ = some (.slice A N c) := by rw [hW3]; exact cell_of_row _ _ 6 _ _ _ HX2.out
  clear h1 h2 h3 h5 hdn hW3 hmb hb3
  rcases dn with _ | _
  · clear hbd
    go_wp2_with (first | (go_at_call 35; refine (HTM.out _).mono ?_; rintro e w' ⟨rfl, rfl⟩))
    rw [HW3.out, HMB.out]
    clear x1 x2 x3 x4 y4
    go_loopw [47] (fun i wr => ∃ k : Nat, k ≤ N ∧ i = .int .i64 (k : Int) ∧ Hid (chkR next [] (l.map core) = chkR next ((l.map core).take k) ((l.map core).drop k)) ∧ Hid (wr.ownsMap (H := Unit) Try.prog 3 (plainElem Try.prog 4) mb k (seenD ((l.map core).take k))) ∧ Hid (wr.heap[g]? = some (.cells #[.int .i64 mn, .int .i64 mx, .int .i64 rt, .bool false, .int .i64 idle, .int .i64 next, .slice A N c] 26)) ∧ Hid (Below w.heap.size w wr)) (fun i _ => N - (Go.RowKit.intOf i).toNat)
    case atStart => exact ⟨0, Nat.zero_le _, rfl, hid rfl, HM0, HX2, HB2⟩
    case round =>
      obtain ⟨k, hk, rfl, HC, HM, HX, HB⟩ := hrel
      clear HM0 HX2 HB2 HX1 HB1
      by_cases hkn : k < N
      · have hkn' : (k : Int) < (N : Int) := by omega
        have hel := HV.out.below HB.out
        obtain ⟨b, off, rfl, hbl, hc⟩ := fl_cells hel (by rw [HN.out]; omega)
        obtain ⟨x, hx⟩ : ∃ x, l[k]? = some x := ⟨l[k]'(by rw [HN.out]; exact hkn), List.getElem?_eq_getElem _⟩
        obtain ⟨q0, q1, q2⟩ := hc k x hx
        have hxb := (hel.1 x (List.mem_of_getElem? hx)).1
        have hxn := HR.out x (List.mem_of_getElem? hx)
        have HTK := hid (show (l.map core).take (k + 1) = (l.map core).take k ++ [core x] from take_succ'' (by rw [List.getElem?_map, hx]; rfl))
        have HDR := hid (show (l.map core).drop k = core x :: (l.map core).drop (k + 1) from by
          have h : (l.map core)[k]? = some (core x) := by rw [List.getElem?_map, hx]; rfl
          obtain ⟨hlt, he⟩ := List.getElem?_eq_some_iff.1 h
          rw [← he]
          exact List.drop_eq_getElem_cons hlt)
        have HCC := hid hc
        clear hc hx hel
        obtain ⟨xt, xn, xd, xp⟩ := x
        dsimp only at q0 q1 q2 hxb hxn
        obtain ⟨xA, xc, rfl⟩ := byt_form hxb
        obtain ⟨xm, hxm⟩ : ∃ xm, xp.length = xm := ⟨_, rfl⟩
        rw [hxm] at q2
        have HXM := hid hxm
        have HXN := hid hxn
        clear hxb hxm hxn
        obtain ⟨W2, hW2⟩ : ∃ W2, wr.alloc (.cells #[.int .i64 xt, .int .i64 xn, .slice xA xm xc] 69) = W2 := ⟨_, rfl⟩
        have hb2 : Below wr.heap.size wr W2 := by rw [← hW2]; exact al1 _ _
        have hy2 : W2.heap[wr.heap.size]? = some (.cells #[.int .i64 xt, .int .i64 xn, .slice xA xm xc] 69) := by rw [← hW2]; exact heap_alloc_new _ _
        have HY2 := hid hy2
        have HX2 := hid ((hb2.block g (box_lt HX.out)).trans HX.out)
        have HM2 := hid (HM.out.kept (grown_of_below hb2) (by simp))
        have HB2 := hid (HB.out.trans (hb2.mono HB.out.size))
        have HBB2 := hid hb2
        have x1 : W2.cell? ⟨g, 5, none⟩ = some (.int .i64 next) := cell_of_row _ _ 5 _ _ _ HX2.out
        obtain ⟨fe, hfe⟩ : ∃ fe, fldI xt xn xm next = fe := ⟨_, rfl⟩
        have hck := fields_any xt xn xA xm xc next W2
        rw [hfe] at hck
        have HCK := hid hck
        have HFE : Hid (fldC (core ⟨xt, xn, .slice xA xm xc, xp⟩) next = fe) := hid (by unfold fldC core; dsimp only; rw [HXM.out]; exact hfe)
        have HW2 := hid hW2
        rw [HG.out]
        clear hck hb2 hy2 hfe
        subst hW2
        go_wp2_with fail
        refine HCK.out.mono ?_
        rintro e w3 ⟨rfl, hb3⟩
        have HY3 := hid ((hb3.block _ (box_lt HY2.out)).trans HY2.out)
        have HX3 := hid ((hb3.block g (box_lt HX2.out)).trans HX2.out)
        have HM3 := hid (HM2.out.kept (grown_of_below hb3) (by simp))
        have HB3 := hid (HB2.out.trans (hb3.mono HB2.out.size))
        have HBB3 := hid (HBB2.out.trans (hb3.mono HBB2.out.size))
        obtain ⟨e, he⟩ : ∃ e, wr.heap.size = e := ⟨_, rfl⟩
        have HE := hid he
        rw [he] at HY3
        rw [HE.out]
        clear hb3 HCK x1 q0 q1 q2 he HBB2 HX2 HY2 HM2 HB2
        by_cases hfz : fe = 0
        · subst hfz
          have y0 := cell_of_row _ _ 0 _ _ _ HY3.out
          have y1 := cell_of_row _ _ 1 _ _ _ HY3.out
          have y2 := cell_of_row _ _ 2 _ _ _ HY3.out
          have x0 := cell_of_row _ _ 6 _ _ _ HX3.out
          by_cases hk0 : k = 0
          · subst hk0
            have HPV : Hid (prevE ((l.map core).take 0) (core ⟨xt, xn, .slice xA xm xc, xp⟩) = false) := hid (prevE_nil _)
            go_wp2_with fail
            have dz : decide ((0 : Int) < ((0 : Nat) : Int)) = false := by decide
            have dz2 : decide ((0 : Int) < 0) = false := by decide
            go_quiet (fail)
            have HM4 : Hid ((w3.drewN nq).ownsMap (H := Unit) Try.prog 3 (plainElem Try.prog 4) mb 0 (seenD ((l.map core).take 0))) := hid HM3.out
            have HY4 : Hid ((w3.drewN nq).heap[e]? = some (.cells #[.int .i64 xt, .int .i64 xn, .slice xA xm xc] 69)) := hid HY3.out
            have HX4 : Hid ((w3.drewN nq).heap[g]? = some (.cells #[.int .i64 mn, .int .i64 mx, .int .i64 rt, .bool false, .int .i64 idle, .int .i64 next, .slice (some ⟨b, off, none⟩) N c] 26)) := hid HX3.out
            have HB4 := hid (below_both_drewN HB3.out nq)
            clear y0 y1 y2 x0
            obtain ⟨sb, hsb⟩ : ∃ sb, seenE ((l.map core).take 0) xn = sb := ⟨_, rfl⟩
            have hlk := look_seen HM4.out HXN.out
            rw [hsb] at hlk
            have HSB := hid hsb
            clear hsb
            have y1 := cell_of_row _ _ 1 _ _ _ HY4.out
            rcases sb with _ | _
            · have HC2 : Hid (chkR next [] (l.map core) = chkR next ((l.map core).take 0 ++ [core ⟨xt, xn, .slice xA xm xc, xp⟩]) ((l.map core).drop 1)) := hid (HC.out.trans (by rw [HDR.out]; exact chk_step HFE.out HPV.out HSB.out))
              go_wp2_with (first | (at_mapUpdate; refine wpList_mapUpdate_own _ rfl _ _ _ 73 rfl 3 4 law3 Try.underlying73 _ mb 0 _ rfl HM4.out (by show _ < 2 ^ 63 - 1; omega) _ _ (.int .i64 xn) rfl rfl (key3 HXN.out) (.lit (.bool true)) [] (plainElem_bool Try.underlying4 true) ?_; intro w6 ho6 hg6; have HM6 := hid ho6; have HX6 := hid ((hg6.block g (box_lt HX4.out) (by simp; omega)).trans HX4.out); have HB6 := hid (HB4.out.grown hg6 HB4.out.size (fun r hr => by injection hr with hr; have := HG.out; subst hr; omega)); clear ho6 hg6) | fail)
              go_roundw
              case rel => exact ⟨1, by omega, by first | rfl | go_num, hid (by rw [HTK.out]; exact HC2.out), hid (by rw [HTK.out, seenD_snoc]; exact HM6.out), HX6, by first | exact HB6 | (rw [HG.out] at HB6; exact HB6)⟩
              case measure => simp [Go.RowKit.intOf]; omega
            · have HF2 : Hid (chk s (l.map core) = 8) := hid (HF.out.trans (HC.out.trans (by rw [HDR.out]; exact chk_twice HFE.out HPV.out HSB.out)))
              go_wp2_with fail
              go_ret
              exact ⟨(congrArg (fun r => Ending.returned (.int .i64 r)) HF2.out).symm, HB4.out⟩
          · obtain ⟨j, hj⟩ : ∃ j, k = j + 1 := ⟨k - 1, by omega⟩
            have hwj : IntKind.i64.wrap ((k : Int) - 1) = (j : Int) := by rw [IntKind.wrap_i64]; omega
            have dz : decide ((0 : Int) < (k : Int)) = true := decide_eq_true (by omega)
            have dzN : decide (0 < k) = true := decide_eq_true (by omega)
            have hjN : (j : Int) < (N : Int) := by omega
            obtain ⟨z, hz⟩ : ∃ z, l[j]? = some z := ⟨l[j]'(by rw [HN.out]; omega), List.getElem?_eq_getElem _⟩
            obtain ⟨z0, z1, z2⟩ := HCC.out j z hz
            have HPV : Hid (prevE ((l.map core).take k) (core ⟨xt, xn, .slice xA xm xc, xp⟩) = badE (core ⟨xt, xn, .slice xA xm xc, xp⟩) (core z)) := hid (by
              rw [hj, take_succ'' (x := core z) (by rw [List.getElem?_map, hz]; rfl), prevE_snoc])
            have hzb := ((HV.out.below HB.out).1 z (List.mem_of_getElem? hz)).1
            obtain ⟨zt, zn, zd, zp⟩ := z
            dsimp only at z0 z1 z2 hzb
            obtain ⟨zA, zc, rfl⟩ := byt_form hzb
            obtain ⟨zm, hzm⟩ : ∃ zm, zp.length = zm := ⟨_, rfl⟩
            rw [hzm] at z2
            have hblt : b < wr.heap.size := hbl
            have HKK := hid (fun (X : World) (hX : Below wr.heap.size wr X) => And.intro ((hX.cell (p := ⟨b, off + j * 3, none⟩) hblt).trans z0) (And.intro ((hX.cell (p := ⟨b, off + j * 3 + 1, none⟩) hblt).trans z1) ((hX.cell (p := ⟨b, off + j * 3 + 2, none⟩) hblt).trans z2)))
            have HPV2 : Hid (badE (core ⟨xt, xn, .slice xA xm xc, xp⟩) (core ⟨zt, zn, .slice zA zp.length zc, zp⟩) = decide (cmpE xt xn zt zn ≤ 0)) := hid rfl
            obtain ⟨cm, hcm⟩ : ∃ cm, cmpE xt xn zt zn = cm := ⟨_, rfl⟩
            have HCM := hid (fun W => compare_any xt xn zt zn xA zA xm xc zm zc W)
            rw [hcm] at HCM HPV2
            clear z0 z1 z2 hz hzb hzm hcm hj hk0
            obtain ⟨z0, z1, z2⟩ := HKK.out w3 HBB3.out
            have hew : e < w3.heap.size := box_lt HY3.out
            have hgw : g < w3.heap.size := box_lt HX3.out
            have hbw : b < w3.heap.size := Nat.lt_of_lt_of_le hblt HBB3.out.size
            by_cases hcm0 : cm ≤ 0
            · have dcm : decide (cm ≤ 0) = true := decide_eq_true hcm0
              have HF2 : Hid (chk s (l.map core) = 3) := hid (HF.out.trans (HC.out.trans (by rw [HDR.out]; exact chk_prev HFE.out (HPV.out.trans (HPV2.out.trans dcm)))))
              clear hcm0
              go_wp2_with fail
              go_region_held3 (fun X => X.cell? ⟨e, 0, none⟩ = some (.int .i64 xt) ∧ X.cell? ⟨e, 1, none⟩ = some (.int .i64 xn) ∧ X.cell? ⟨e, 2, none⟩ = some (.slice xA xm xc) ∧ X.cell? ⟨g, 6, none⟩ = some (.slice (some ⟨b, off, none⟩) N c) ∧ X.cell? ⟨b, off + j * 3, none⟩ = some (.int .i64 zt) ∧ X.cell? ⟨b, off + j * 3 + 1, none⟩ = some (.int .i64 zn) ∧ X.cell? ⟨b, off + j * 3 + 2, none⟩ = some (.slice zA zm zc)) (go_keep)
                (first | (go_at_call 37; refine (HCM.out w3.drew).mono ?_; rintro e' w4 ⟨rfl, hb4'⟩; have hb4 : Below w3.heap.size w3 w4 := ⟨hb4'.os, hb4'.tape, hb4'.output, hb4'.size, hb4'.block⟩; have HM4 := hid (HM3.out.kept (grown_of_below hb4) (by simp)); have HY4 := hid ((hb4.block _ hew).trans HY3.out); have HX4 := hid ((hb4.block g hgw).trans HX3.out); have HB4 := hid (HB3.out.trans (hb4.mono HB3.out.size)); obtain ⟨z0, z1, z2⟩ := HKK.out w4 (HBB3.out.trans (hb4.mono HBB3.out.size)); have y0 := cell_of_row _ _ 0 _ _ _ HY4.out; have y1 := cell_of_row _ _ 1 _ _ _ HY4.out; have y2 := cell_of_row _ _ 2 _ _ _ HY4.out; have x0 := cell_of_row _ _ 6 _ _ _ HX4.out; clear hb4 hb4'))
              go_wp2_with fail
              go_ret
              exact ⟨(congrArg (fun r => Ending.returned (.int .i64 r)) HF2.out).symm, HB4.out⟩
            have dcm : decide (cm ≤ 0) = false := decide_eq_false hcm0
            have HPF : Hid (prevE ((l.map core).take k) (core ⟨xt, xn, .slice xA xm xc, xp⟩) = false) := hid (HPV.out.trans (HPV2.out.trans dcm))
            clear hcm0
            go_wp2_with fail
            go_region_held3 (fun X => X.cell? ⟨e, 0, none⟩ = some (.int .i64 xt) ∧ X.cell? ⟨e, 1, none⟩ = some (.int .i64 xn) ∧ X.cell? ⟨e, 2, none⟩ = some (.slice xA xm xc) ∧ X.cell? ⟨g, 6, none⟩ = some (.slice (some ⟨b, off, none⟩) N c) ∧ X.cell? ⟨b, off + j * 3, none⟩ = some (.int .i64 zt) ∧ X.cell? ⟨b, off + j * 3 + 1, none⟩ = some (.int .i64 zn) ∧ X.cell? ⟨b, off + j * 3 + 2, none⟩ = some (.slice zA zm zc)) (go_keep)
              (first | (go_at_call 37; refine (HCM.out w3.drew).mono ?_; rintro e' w4 ⟨rfl, hb4'⟩; have hb4 : Below w3.heap.size w3 w4 := ⟨hb4'.os, hb4'.tape, hb4'.output, hb4'.size, hb4'.block⟩; have HM4 := hid (HM3.out.kept (grown_of_below hb4) (by simp)); have HY4 := hid ((hb4.block _ hew).trans HY3.out); have HX4 := hid ((hb4.block g hgw).trans HX3.out); have HB4 := hid (HB3.out.trans (hb4.mono HB3.out.size)); obtain ⟨z0, z1, z2⟩ := HKK.out w4 (HBB3.out.trans (hb4.mono HBB3.out.size)); have y0 := cell_of_row _ _ 0 _ _ _ HY4.out; have y1 := cell_of_row _ _ 1 _ _ _ HY4.out; have y2 := cell_of_row _ _ 2 _ _ _ HY4.out; have x0 := cell_of_row _ _ 6 _ _ _ HX4.out; clear hb4 hb4'))
            obtain ⟨sb, hsb⟩ : ∃ sb, seenE ((l.map core).take k) xn = sb := ⟨_, rfl⟩
            have hlk := look_seen HM4.out HXN.out
            rw [hsb] at hlk
            have HSB := hid hsb
            clear hsb
            have y1 := cell_of_row _ _ 1 _ _ _ HY4.out
            rcases sb with _ | _
            · have HC2 : Hid (chkR next [] (l.map core) = chkR next ((l.map core).take k ++ [core ⟨xt, xn, .slice xA xm xc, xp⟩]) ((l.map core).drop (k + 1))) := hid (HC.out.trans (by rw [HDR.out]; exact chk_step HFE.out HPF.out HSB.out))
              go_wp2_with (first | (at_mapUpdate; refine wpList_mapUpdate_own _ rfl _ _ _ 73 rfl 3 4 law3 Try.underlying73 _ mb k _ rfl HM4.out (by show _ < 2 ^ 63 - 1; omega) _ _ (.int .i64 xn) rfl rfl (key3 HXN.out) (.lit (.bool true)) [] (plainElem_bool Try.underlying4 true) ?_; intro w6 ho6 hg6; have HM6 := hid ho6; have HX6 := hid ((hg6.block g (box_lt HX4.out) (by simp; omega)).trans HX4.out); have HB6 := hid (HB4.out.grown hg6 HB4.out.size (fun r hr => by injection hr with hr; have := HG.out; subst hr; omega)); clear ho6 hg6) | fail)
              go_roundw
              case rel => exact ⟨k + 1, by omega, by go_num, hid (by rw [HTK.out]; exact HC2.out), hid (by rw [HTK.out, seenD_snoc]; exact HM6.out), HX6, by first | exact HB6 | (rw [HG.out] at HB6; exact HB6)⟩
              case measure => simp [Go.RowKit.intOf]; omega
            · have HF2 : Hid (chk s (l.map core) = 8) := hid (HF.out.trans (HC.out.trans (by rw [HDR.out]; exact chk_twice HFE.out HPF.out HSB.out)))
              go_wp2_with fail
              go_ret
              exact ⟨(congrArg (fun r => Ending.returned (.int .i64 r)) HF2.out).symm, HB4.out⟩
        · have d4 : (fe != 0) = true := by rw [bne_iff_ne]; exact hfz
          have HF2 : Hid (chk s (l.map core) = fe) := hid (HF.out.trans (HC.out.trans (by rw [HDR.out]; exact chk_err HFE.out hfz)))
          clear hfz
          go_wp2_with fail
          go_ret
          exact ⟨(congrArg (fun r => Ending.returned (.int .i64 r)) HF2.out).symm, HB3.out⟩
      · obtain rfl : k = N := by omega
        have HF2 : Hid (chk s (l.map core) = 0) := hid (HF.out.trans (HC.out.trans (by rw [List.drop_of_length_le (by rw [List.length_map, HN.out]; omega)]; rfl)))
        go_wp2_with fail
        go_ret
        exact ⟨(congrArg (fun r => Ending.returned (.int .i64 r)) HF2.out).symm, HB.out⟩
  · obtain rfl : bn = false := by simpa using hbd
    clear hbd
    go_wp2_with (first | (go_at_call 35; refine (HTM.out _).mono ?_; rintro e w' ⟨rfl, rfl⟩))
    rw [HW3.out, HMB.out]
    clear x1 x2 x3 x4 y4
    go_loopw [47] (fun i wr => ∃ k : Nat, k ≤ N ∧ i = .int .i64 (k : Int) ∧ Hid (chkR next [] (l.map core) = chkR next ((l.map core).take k) ((l.map core).drop k)) ∧ Hid (wr.ownsMap (H := Unit) Try.prog 3 (plainElem Try.prog 4) mb k (seenD ((l.map core).take k))) ∧ Hid (wr.heap[g]? = some (.cells #[.int .i64 mn, .int .i64 mx, .int .i64 rt, .bool true, .int .i64 idle, .int .i64 next, .slice A N c] 26)) ∧ Hid (Below w.heap.size w wr)) (fun i _ => N - (Go.RowKit.intOf i).toNat)
    case atStart => exact ⟨0, Nat.zero_le _, rfl, hid rfl, HM0, HX2, HB2⟩
    case round =>
      obtain ⟨k, hk, rfl, HC, HM, HX, HB⟩ := hrel
      clear HM0 HX2 HB2 HX1 HB1
      by_cases hkn : k < N
      · have hkn' : (k : Int) < (N : Int) := by omega
        have hel := HV.out.below HB.out
        obtain ⟨b, off, rfl, hbl, hc⟩ := fl_cells hel (by rw [HN.out]; omega)
        obtain ⟨x, hx⟩ : ∃ x, l[k]? = some x := ⟨l[k]'(by rw [HN.out]; exact hkn), List.getElem?_eq_getElem _⟩
        obtain ⟨q0, q1, q2⟩ := hc k x hx
        have hxb := (hel.1 x (List.mem_of_getElem? hx)).1
        have hxn := HR.out x (List.mem_of_getElem? hx)
        have HTK := hid (show (l.map core).take (k + 1) = (l.map core).take k ++ [core x] from take_succ'' (by rw [List.getElem?_map, hx]; rfl))
        have HDR := hid (show (l.map core).drop k = core x :: (l.map core).drop (k + 1) from by
          have h : (l.map core)[k]? = some (core x) := by rw [List.getElem?_map, hx]; rfl
          obtain ⟨hlt, he⟩ := List.getElem?_eq_some_iff.1 h
          rw [← he]
          exact List.drop_eq_getElem_cons hlt)
        have HCC := hid hc
        clear hc hx hel
        obtain ⟨xt, xn, xd, xp⟩ := x
        dsimp only at q0 q1 q2 hxb hxn
        obtain ⟨xA, xc, rfl⟩ := byt_form hxb
        obtain ⟨xm, hxm⟩ : ∃ xm, xp.length = xm := ⟨_, rfl⟩
        rw [hxm] at q2
        have HXM := hid hxm
        have HXN := hid hxn
        clear hxb hxm hxn
        obtain ⟨W2, hW2⟩ : ∃ W2, wr.alloc (.cells #[.int .i64 xt, .int .i64 xn, .slice xA xm xc] 69) = W2 := ⟨_, rfl⟩
        have hb2 : Below wr.heap.size wr W2 := by rw [← hW2]; exact al1 _ _
        have hy2 : W2.heap[wr.heap.size]? = some (.cells #[.int .i64 xt, .int .i64 xn, .slice xA xm xc] 69) := by rw [← hW2]; exact heap_alloc_new _ _
        have HY2 := hid hy2
        have HX2 := hid ((hb2.block g (box_lt HX.out)).trans HX.out)
        have HM2 := hid (HM.out.kept (grown_of_below hb2) (by simp))
        have HB2 := hid (HB.out.trans (hb2.mono HB.out.size))
        have HBB2 := hid hb2
        have x1 : W2.cell? ⟨g, 5, none⟩ = some (.int .i64 next) := cell_of_row _ _ 5 _ _ _ HX2.out
        obtain ⟨fe, hfe⟩ : ∃ fe, fldI xt xn xm next = fe := ⟨_, rfl⟩
        have hck := fields_any xt xn xA xm xc next W2
        rw [hfe] at hck
        have HCK := hid hck
        have HFE : Hid (fldC (core ⟨xt, xn, .slice xA xm xc, xp⟩) next = fe) := hid (by unfold fldC core; dsimp only; rw [HXM.out]; exact hfe)
        have HW2 := hid hW2
        rw [HG.out]
        clear hck hb2 hy2 hfe
        subst hW2
        go_wp2_with fail
        refine HCK.out.mono ?_
        rintro e w3 ⟨rfl, hb3⟩
        have HY3 := hid ((hb3.block _ (box_lt HY2.out)).trans HY2.out)
        have HX3 := hid ((hb3.block g (box_lt HX2.out)).trans HX2.out)
        have HM3 := hid (HM2.out.kept (grown_of_below hb3) (by simp))
        have HB3 := hid (HB2.out.trans (hb3.mono HB2.out.size))
        have HBB3 := hid (HBB2.out.trans (hb3.mono HBB2.out.size))
        obtain ⟨e, he⟩ : ∃ e, wr.heap.size = e := ⟨_, rfl⟩
        have HE := hid he
        rw [he] at HY3
        rw [HE.out]
        clear hb3 HCK x1 q0 q1 q2 he HBB2 HX2 HY2 HM2 HB2
        by_cases hfz : fe = 0
        · subst hfz
          have y0 := cell_of_row _ _ 0 _ _ _ HY3.out
          have y1 := cell_of_row _ _ 1 _ _ _ HY3.out
          have y2 := cell_of_row _ _ 2 _ _ _ HY3.out
          have x0 := cell_of_row _ _ 6 _ _ _ HX3.out
          by_cases hk0 : k = 0
          · subst hk0
            have HPV : Hid (prevE ((l.map core).take 0) (core ⟨xt, xn, .slice xA xm xc, xp⟩) = false) := hid (prevE_nil _)
            go_wp2_with fail
            have dz : decide ((0 : Int) < ((0 : Nat) : Int)) = false := by decide
            have dz2 : decide ((0 : Int) < 0) = false := by decide
            go_quiet (fail)
            have HM4 : Hid ((w3.drewN nq).ownsMap (H := Unit) Try.prog 3 (plainElem Try.prog 4) mb 0 (seenD ((l.map core).take 0))) := hid HM3.out
            have HY4 : Hid ((w3.drewN nq).heap[e]? = some (.cells #[.int .i64 xt, .int .i64 xn, .slice xA xm xc] 69)) := hid HY3.out
            have HX4 : Hid ((w3.drewN nq).heap[g]? = some (.cells #[.int .i64 mn, .int .i64 mx, .int .i64 rt, .bool true, .int .i64 idle, .int .i64 next, .slice (some ⟨b, off, none⟩) N c] 26)) := hid HX3.out
            have HB4 := hid (below_both_drewN HB3.out nq)
            clear y0 y1 y2 x0
            obtain ⟨sb, hsb⟩ : ∃ sb, seenE ((l.map core).take 0) xn = sb := ⟨_, rfl⟩
            have hlk := look_seen HM4.out HXN.out
            rw [hsb] at hlk
            have HSB := hid hsb
            clear hsb
            have y1 := cell_of_row _ _ 1 _ _ _ HY4.out
            rcases sb with _ | _
            · have HC2 : Hid (chkR next [] (l.map core) = chkR next ((l.map core).take 0 ++ [core ⟨xt, xn, .slice xA xm xc, xp⟩]) ((l.map core).drop 1)) := hid (HC.out.trans (by rw [HDR.out]; exact chk_step HFE.out HPV.out HSB.out))
              go_wp2_with (first | (at_mapUpdate; refine wpList_mapUpdate_own _ rfl _ _ _ 73 rfl 3 4 law3 Try.underlying73 _ mb 0 _ rfl HM4.out (by show _ < 2 ^ 63 - 1; omega) _ _ (.int .i64 xn) rfl rfl (key3 HXN.out) (.lit (.bool true)) [] (plainElem_bool Try.underlying4 true) ?_; intro w6 ho6 hg6; have HM6 := hid ho6; have HX6 := hid ((hg6.block g (box_lt HX4.out) (by simp; omega)).trans HX4.out); have HB6 := hid (HB4.out.grown hg6 HB4.out.size (fun r hr => by injection hr with hr; have := HG.out; subst hr; omega)); clear ho6 hg6) | fail)
              go_roundw
              case rel => exact ⟨1, by omega, by first | rfl | go_num, hid (by rw [HTK.out]; exact HC2.out), hid (by rw [HTK.out, seenD_snoc]; exact HM6.out), HX6, by first | exact HB6 | (rw [HG.out] at HB6; exact HB6)⟩
              case measure => simp [Go.RowKit.intOf]; omega
            · have HF2 : Hid (chk s (l.map core) = 8) := hid (HF.out.trans (HC.out.trans (by rw [HDR.out]; exact chk_twice HFE.out HPV.out HSB.out)))
              go_wp2_with fail
              go_ret
              exact ⟨(congrArg (fun r => Ending.returned (.int .i64 r)) HF2.out).symm, HB4.out⟩
          · obtain ⟨j, hj⟩ : ∃ j, k = j + 1 := ⟨k - 1, by omega⟩
            have hwj : IntKind.i64.wrap ((k : Int) - 1) = (j : Int) := by rw [IntKind.wrap_i64]; omega
            have dz : decide ((0 : Int) < (k : Int)) = true := decide_eq_true (by omega)
            have dzN : decide (0 < k) = true := decide_eq_true (by omega)
            have hjN : (j : Int) < (N : Int) := by omega
            obtain ⟨z, hz⟩ : ∃ z, l[j]? = some z := ⟨l[j]'(by rw [HN.out]; omega), List.getElem?_eq_getElem _⟩
            obtain ⟨z0, z1, z2⟩ := HCC.out j z hz
            have HPV : Hid (prevE ((l.map core).take k) (core ⟨xt, xn, .slice xA xm xc, xp⟩) = badE (core ⟨xt, xn, .slice xA xm xc, xp⟩) (core z)) := hid (by
              rw [hj, take_succ'' (x := core z) (by rw [List.getElem?_map, hz]; rfl), prevE_snoc])
            have hzb := ((HV.out.below HB.out).1 z (List.mem_of_getElem? hz)).1
            obtain ⟨zt, zn, zd, zp⟩ := z
            dsimp only at z0 z1 z2 hzb
            obtain ⟨zA, zc, rfl⟩ := byt_form hzb
            obtain ⟨zm, hzm⟩ : ∃ zm, zp.length = zm := ⟨_, rfl⟩
            rw [hzm] at z2
            have hblt : b < wr.heap.size := hbl
            have HKK := hid (fun (X : World) (hX : Below wr.heap.size wr X) => And.intro ((hX.cell (p := ⟨b, off + j * 3, none⟩) hblt).trans z0) (And.intro ((hX.cell (p := ⟨b, off + j * 3 + 1, none⟩) hblt).trans z1) ((hX.cell (p := ⟨b, off + j * 3 + 2, none⟩) hblt).trans z2)))
            have HPV2 : Hid (badE (core ⟨xt, xn, .slice xA xm xc, xp⟩) (core ⟨zt, zn, .slice zA zp.length zc, zp⟩) = decide (cmpE xt xn zt zn ≤ 0)) := hid rfl
            obtain ⟨cm, hcm⟩ : ∃ cm, cmpE xt xn zt zn = cm := ⟨_, rfl⟩
            have HCM := hid (fun W => compare_any xt xn zt zn xA zA xm xc zm zc W)
            rw [hcm] at HCM HPV2
            clear z0 z1 z2 hz hzb hzm hcm hj hk0
            obtain ⟨z0, z1, z2⟩ := HKK.out w3 HBB3.out
            have hew : e < w3.heap.size := box_lt HY3.out
            have hgw : g < w3.heap.size := box_lt HX3.out
            have hbw : b < w3.heap.size := Nat.lt_of_lt_of_le hblt HBB3.out.size
            by_cases hcm0 : cm ≤ 0
            · have dcm : decide (cm ≤ 0) = true := decide_eq_true hcm0
              have HF2 : Hid (chk s (l.map core) = 3) := hid (HF.out.trans (HC.out.trans (by rw [HDR.out]; exact chk_prev HFE.out (HPV.out.trans (HPV2.out.trans dcm)))))
              clear hcm0
              go_wp2_with fail
              go_region_held3 (fun X => X.cell? ⟨e, 0, none⟩ = some (.int .i64 xt) ∧ X.cell? ⟨e, 1, none⟩ = some (.int .i64 xn) ∧ X.cell? ⟨e, 2, none⟩ = some (.slice xA xm xc) ∧ X.cell? ⟨g, 6, none⟩ = some (.slice (some ⟨b, off, none⟩) N c) ∧ X.cell? ⟨b, off + j * 3, none⟩ = some (.int .i64 zt) ∧ X.cell? ⟨b, off + j * 3 + 1, none⟩ = some (.int .i64 zn) ∧ X.cell? ⟨b, off + j * 3 + 2, none⟩ = some (.slice zA zm zc)) (go_keep)
                (first | (go_at_call 37; refine (HCM.out w3.drew).mono ?_; rintro e' w4 ⟨rfl, hb4'⟩; have hb4 : Below w3.heap.size w3 w4 := ⟨hb4'.os, hb4'.tape, hb4'.output, hb4'.size, hb4'.block⟩; have HM4 := hid (HM3.out.kept (grown_of_below hb4) (by simp)); have HY4 := hid ((hb4.block _ hew).trans HY3.out); have HX4 := hid ((hb4.block g hgw).trans HX3.out); have HB4 := hid (HB3.out.trans (hb4.mono HB3.out.size)); obtain ⟨z0, z1, z2⟩ := HKK.out w4 (HBB3.out.trans (hb4.mono HBB3.out.size)); have y0 := cell_of_row _ _ 0 _ _ _ HY4.out; have y1 := cell_of_row _ _ 1 _ _ _ HY4.out; have y2 := cell_of_row _ _ 2 _ _ _ HY4.out; have x0 := cell_of_row _ _ 6 _ _ _ HX4.out; clear hb4 hb4'))
              go_wp2_with fail
              go_ret
              exact ⟨(congrArg (fun r => Ending.returned (.int .i64 r)) HF2.out).symm, HB4.out⟩
            have dcm : decide (cm ≤ 0) = false := decide_eq_false hcm0
            have HPF : Hid (prevE ((l.map core).take k) (core ⟨xt, xn, .slice xA xm xc, xp⟩) = false) := hid (HPV.out.trans (HPV2.out.trans dcm))
            clear hcm0
            go_wp2_with fail
            go_region_held3 (fun X => X.cell? ⟨e, 0, none⟩ = some (.int .i64 xt) ∧ X.cell? ⟨e, 1, none⟩ = some (.int .i64 xn) ∧ X.cell? ⟨e, 2, none⟩ = some (.slice xA xm xc) ∧ X.cell? ⟨g, 6, none⟩ = some (.slice (some ⟨b, off, none⟩) N c) ∧ X.cell? ⟨b, off + j * 3, none⟩ = some (.int .i64 zt) ∧ X.cell? ⟨b, off + j * 3 + 1, none⟩ = some (.int .i64 zn) ∧ X.cell? ⟨b, off + j * 3 + 2, none⟩ = some (.slice zA zm zc)) (go_keep)
              (first | (go_at_call 37; refine (HCM.out w3.drew).mono ?_; rintro e' w4 ⟨rfl, hb4'⟩; have hb4 : Below w3.heap.size w3 w4 := ⟨hb4'.os, hb4'.tape, hb4'.output, hb4'.size, hb4'.block⟩; have HM4 := hid (HM3.out.kept (grown_of_below hb4) (by simp)); have HY4 := hid ((hb4.block _ hew).trans HY3.out); have HX4 := hid ((hb4.block g hgw).trans HX3.out); have HB4 := hid (HB3.out.trans (hb4.mono HB3.out.size)); obtain ⟨z0, z1, z2⟩ := HKK.out w4 (HBB3.out.trans (hb4.mono HBB3.out.size)); have y0 := cell_of_row _ _ 0 _ _ _ HY4.out; have y1 := cell_of_row _ _ 1 _ _ _ HY4.out; have y2 := cell_of_row _ _ 2 _ _ _ HY4.out; have x0 := cell_of_row _ _ 6 _ _ _ HX4.out; clear hb4 hb4'))
            obtain ⟨sb, hsb⟩ : ∃ sb, seenE ((l.map core).take k) xn = sb := ⟨_, rfl⟩
            have hlk := look_seen HM4.out HXN.out
            rw [hsb] at hlk
            have HSB := hid hsb
            clear hsb
            have y1 := cell_of_row _ _ 1 _ _ _ HY4.out
            rcases sb with _ | _
            · have HC2 : Hid (chkR next [] (l.map core) = chkR next ((l.map core).take k ++ [core ⟨xt, xn, .slice xA xm xc, xp⟩]) ((l.map core).drop (k + 1))) := hid (HC.out.trans (by rw [HDR.out]; exact chk_step HFE.out HPF.out HSB.out))
              go_wp2_with (first | (at_mapUpdate; refine wpList_mapUpdate_own _ rfl _ _ _ 73 rfl 3 4 law3 Try.underlying73 _ mb k _ rfl HM4.out (by show _ < 2 ^ 63 - 1; omega) _ _ (.int .i64 xn) rfl rfl (key3 HXN.out) (.lit (.bool true)) [] (plainElem_bool Try.underlying4 true) ?_; intro w6 ho6 hg6; have HM6 := hid ho6; have HX6 := hid ((hg6.block g (box_lt HX4.out) (by simp; omega)).trans HX4.out); have HB6 := hid (HB4.out.grown hg6 HB4.out.size (fun r hr => by injection hr with hr; have := HG.out; subst hr; omega)); clear ho6 hg6) | fail)
              go_roundw
              case rel => exact ⟨k + 1, by omega, by go_num, hid (by rw [HTK.out]; exact HC2.out), hid (by rw [HTK.out, seenD_snoc]; exact HM6.out), HX6, by first | exact HB6 | (rw [HG.out] at HB6; exact HB6)⟩
              case measure => simp [Go.RowKit.intOf]; omega
            · have HF2 : Hid (chk s (l.map core) = 8) := hid (HF.out.trans (HC.out.trans (by rw [HDR.out]; exact chk_twice HFE.out HPF.out HSB.out)))
              go_wp2_with fail
              go_ret
              exact ⟨(congrArg (fun r => Ending.returned (.int .i64 r)) HF2.out).symm, HB4.out⟩
        · have d4 : (fe != 0) = true := by rw [bne_iff_ne]; exact hfz
          have HF2 : Hid (chk s (l.map core) = fe) := hid (HF.out.trans (HC.out.trans (by rw [HDR.out]; exact chk_err HFE.out hfz)))
          clear hfz
          go_wp2_with fail
          go_ret
          exact ⟨(congrArg (fun r => Ending.returned (.int .i64 r)) HF2.out).symm, HB3.out⟩
      · obtain rfl : k = N := by omega
        have HF2 : Hid (chk s (l.map core) = 0) := hid (HF.out.trans (HC.out.trans (by rw [List.drop_of_length_le (by rw [List.length_map, HN.out]; omega)]; rfl)))
        go_wp2_with fail
        go_ret
        exact ⟨(congrArg (fun r => Ending.returned (.int .i64 r)) HF2.out).symm, HB.out⟩
end Go.Proofs.Ytacpejoablcffaa
