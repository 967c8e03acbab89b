/- Apply. -/
import Derived.Test.YtbcnikmhodkbfaaH
import Derived.Deep.RegionLawGrows
namespace Go.Proofs.Ytbcnikmhodkbfaa
open Go.RowKit Go.Lib

theorem step_copy_run {P : Program} {ops : Array Oper} {o : Oper} {a : Act} {w : World} {K : Act → World → Prop} {Q : Exit → Act → World → Prop} {E : Prop}
    (hg : o.guard = none) (d x : Operand) (dT sT : TypeId) (hop : o.op = Op.call { callee := Callee.builtin Builtin.copy, args := #[d, x], argTypes := #[dT, sT] })
    (v u : Value) (hd : a.eval d = v) (hx : a.eval x = u) {v' : Value} {w' : World} (hr : (Builtin.copy_ #[dT, sT] o.type #[v, u]).run P w = .ok v' w') (hK : K (a.put o.dst v') w') :
    if Region.wanted o (yielded ops a.tmps) = true then Oper.wp P o a w K Q else E := by
  have hw : Region.wanted o (yielded ops a.tmps) = true := by simp [Region.wanted, hg]
  rw [if_pos hw]
  unfold Oper.wp
  simp [execOp, hop, resolve, invoke, builtin, hd, hx, hr, Result.andThen]
  exact hK
theorem run_slice40f (A : Option Addr) (n c lo : Nat) (x : Int) (hx : x = (lo : Int)) (h1 : lo ≤ n) (W : World) : (Instr.slice 40 (.slice A n c) (some (.int .i64 x)) none none).run Try.prog W = .ok (.slice (fromS A c lo) (n - lo) (c - lo)) W := by
  subst hx
  simp [Instr.slice, run_underlying Try.underlying40, Instr.sliceBounds, Sem.run_bind, run_sliceBound_if, fromS, h1]
theorem size58' : (Try.prog.info? 58).map (·.size) = some 8 := by kernel_rfl
theorem own_some {w : World} {base n c E st : Nat} {A : Option Addr} {xs : List Value} (h : w.ownsRow base E st (.slice A n c) n xs) (hn : 0 < n) : ∃ b, A = some ⟨b, 0, none⟩ := by
  rcases h.2 with ⟨_, h0⟩ | ⟨g, cap, cur, e, _⟩
  · omega
  · injection e with e1
    exact ⟨g, e1⟩
theorem map_put {ys : List Vol} {k : Nat} {y : Vol} {l' : List Sect} (hk : ys[k]? = some y) : (ys.set k ⟨y.d, l'⟩).map (·.d) = ys.map (·.d) := by
  obtain ⟨hlt, hyk⟩ := List.getElem?_eq_some_iff.1 hk
  rw [List.map_set]
  apply List.ext_getElem?
  intro i
  rw [List.getElem?_set]
  split
  · rename_i e
    subst e
    rw [if_pos (by rw [List.length_map]; exact hlt), List.getElem?_map, hk]
    rfl
  · rfl
/-- What the copy of a write leaves. -/
theorem put_done {w w4 W5 : World} {g k vn sn yb yn yc n : Nat} {ws : List Wri} {L : List (List Sect)} {ys : List Vol} {y : Vol} {xl : List Sect} {dd : Value}
    (hn : ys.length = n) (hA : appM L ws = appW (con ys) (ws.drop k) k) (hK : chkS (siz (con ys)) = 0) (hO : OwnIm w4 w.heap.size g ys) (_hB : Below w.heap.size w w4)
    (hD : ws.drop k = ⟨(vn : Int), (sn : Int), dd, xl⟩ :: ws.drop (k + 1)) (hE : fitE (con ys) (vn : Int) (sn : Int) xl.length = 0) (hy : ys[vn]? = some y) (hyd : y.d = .slice (some ⟨yb, 0, none⟩) yn yc) (hxl : Secs xl)
    (hown : W5.ownsRow w.heap.size 58 8 y.d y.l.length ((spl y.l sn xl).map cSec).flatten) (hoth : ∀ i, i ≠ yb → W5.heap[i]? = w4.heap[i]?) (hB5 : Below w.heap.size w W5) (hne : g ≠ yb) (hsm : sn + xl.length ≤ y.l.length) :
    ∃ ys' : List Vol, ys'.length = n ∧ appM L ws = appW (con ys') (ws.drop (k + 1)) (k + 1) ∧ chkS (siz (con ys')) = 0 ∧ OwnIm W5 w.heap.size g ys' ∧ Below w.heap.size w W5 := by
  have hgd : (con ys).getD vn [] = y.l := by unfold con; rw [List.getD_eq_getElem?_getD, List.getElem?_map, hy]; rfl
  have hys := (hO.2.2.1 y (List.mem_of_getElem? hy)).1
  refine ⟨ys.set vn ⟨y.d, spl y.l sn xl⟩, by rw [List.length_set, hn], ?_, ?_, ⟨?_, hO.2.1, ?_⟩, hB5⟩
  · rw [hA, hD, appW]
    rw [if_neg (by dsimp only; rw [hE]; exact fun h => h rfl)]
    dsimp only
    unfold app1
    rw [Int.toNat_natCast, Int.toNat_natCast, hgd, con_set]
  · rw [con_set, siz_set (by rw [hgd]; exact spl_len hsm)]
    exact hK
  · rw [map_put hy, hoth g hne]
    exact hO.1
  · exact rows_put hO.2.2 hy hyd (spl_secs hys hxl) (spl_len hsm) hown hoth
/-- What Apply answers. -/
def AppQ (w : World) (L : List (List Sect)) (ws : List Wri) (e : Ending) (w' : World) : Prop :=
  Below w.heap.size w w' ∧ ((∃ L' g ys, appM L ws = .ok L' ∧ e = .returned (.tuple #[.slice (some ⟨g, 0, none⟩) ys.length ys.length, .int .i64 0, .int .i64 0]) ∧ con ys = L' ∧ chkS (siz L') = 0 ∧ OwnIm w' w.heap.size g ys) ∨ (∃ (i : Nat) (er : Int), appM L ws = .error (i, er) ∧ er ≠ 0 ∧ e = .returned (.tuple #[.slice none 0 0, .int .i64 (i : Int), .int .i64 er])))

set_option maxHeartbeats 4000000 in
set_option maxRecDepth 100000 in
theorem apply_any (xs : List Vol) (ws : List Wri) (v u : Value) (w : World) (hv : Img w v xs) (hu : WrsA w u ws) (hl : xs.length ≤ 1000) :
    Calls Try.prog 23 #[v, u] w (AppQ w (con xs) ws) := by
  have HC := hid (check_any xs v w hv hl)
  have HM : Hid (chkS (siz (con xs)) = 0 → ∀ W, Below w.heap.size w W → Calls Try.prog 54 #[v, .func (.func 55) #[] #[]] W (MadeM W (con xs))) := hid (fun h W hb => mapped54_any xs v W (hv.below hb) hl (fun x hx => by
    have := ((chk_ok h).2.2 x.l (by unfold con; exact List.mem_map.2 ⟨x, hx, rfl⟩)).2
    omega))
  obtain ⟨A, c, rfl⟩ := img_form hv
  obtain ⟨B, d, rfl⟩ := wrs_form hu
  obtain ⟨_, hc1, hc2⟩ := arr_cap hu.2
  rw [List.length_map] at *
  obtain ⟨L, hL⟩ : ∃ L, con xs = L := ⟨_, rfl⟩
  rw [hL] at HC HM ⊢
  have HLL : Hid (L.length = xs.length) := hid (by rw [← hL, con_len])
  have HU := hid hu
  obtain ⟨n, hn⟩ : ∃ n, xs.length = n := ⟨_, rfl⟩
  rw [hn] at HC HM HLL hl ⊢
  obtain ⟨N, hN⟩ : ∃ N, ws.length = N := ⟨_, rfl⟩
  have HN := hid hN
  rw [hN] at HU hc1 ⊢
  clear hv hu hL hn hN
  obtain ⟨ck, hck⟩ : ∃ ck, chkS (siz L) = ck := ⟨_, rfl⟩
  rw [hck] at HC HM
  by_cases h0 : ck = 0
  · subst h0
    have HCK := hid hck
    have HM2 := hid (HM.out rfl)
    clear hck HM
    go_enter Try.func23, Try.ntmps23
    go_wp2_with fail
    refine HC.out.mono ?_
    rintro e w1 ⟨rfl, hb1⟩
    have HMC := hid (HM2.out w1 hb1)
    have HB1 := hid hb1
    clear hb1 HM2 HC
    go_wp2_with fail
    refine HMC.out.mono ?_
    rintro e w2 ⟨g, ys, rfl, hcn, ho, hb2⟩
    have hyl : ys.length = n := by rw [← con_len, hcn, HLL.out]
    rw [hyl]
    have HYL := hid hyl
    have HO : Hid (OwnIm w2 w.heap.size g ys) := hid ⟨ho.1, Nat.le_trans HB1.out.size ho.2.1, fun y hy => ⟨(ho.2.2.1 y hy).1, own_base (ho.2.2.1 y hy).2 HB1.out.size⟩, ho.2.2.2⟩
    have HB2 := hid (below_both HB1.out hb2)
    have HA : Hid (appM L ws = appW (con ys) (ws.drop 0) 0) := hid (by unfold appM; rw [HCK.out, if_neg (by decide), hcn]; rfl)
    have HK : Hid (chkS (siz (con ys)) = 0) := hid (by rw [hcn]; exact HCK.out)
    clear hcn ho hb2 hyl HMC HB1
    go_wp2_with fail
    go_loopw [21] (fun i wr => ∃ (k : Nat) (ys : List Vol), k ≤ N ∧ i = .int .i64 (k : Int) ∧ Hid (ys.length = n) ∧ Hid (appM L ws = appW (con ys) (ws.drop k) k) ∧ Hid (chkS (siz (con ys)) = 0) ∧ Hid (OwnIm wr w.heap.size g ys) ∧ Hid (Below w.heap.size w wr)) (fun i _ => N - (Go.RowKit.intOf i).toNat)
    case atStart => exact ⟨0, ys, Nat.zero_le _, rfl, HYL, HA, HK, HO, HB2⟩
    case round =>
      clear HYL HA HK HO HB2
      obtain ⟨k, ys, hk, rfl, HYL, HA, HK, HO, HB⟩ := hrel
      by_cases hkN : k < N
      · have hkc : (k : Int) < (N : Int) := by omega
        obtain ⟨x, hx⟩ : ∃ x, ws[k]? = some x := ⟨ws[k]'(by rw [HN.out]; exact hkN), List.getElem?_eq_getElem _⟩
        obtain ⟨hxs, hxn, hxv, hx64⟩ := HU.out.1 x (List.mem_of_getElem? hx)
        obtain ⟨b, off, hbA, hbl, hcell⟩ := arr_at1 HU.out.2 (by rw [List.length_map, HN.out]; omega)
        subst hbA
        have HDR : Hid (ws.drop k = x :: ws.drop (k + 1)) := hid (by
          obtain ⟨hlt, rfl⟩ := List.getElem?_eq_some_iff.1 hx
          exact List.drop_eq_getElem_cons hlt)
        have hrow : ∀ (j : Nat) (z : Value), (cWri x)[j]? = some z → wr.cell? ⟨b, off + k * 3 + j, none⟩ = some z := fun j z hz => (HB.out.cell (p := ⟨b, _, none⟩) hbl).trans (hcell k _ (by rw [List.getElem?_map, hx]; rfl) j z hz)
        obtain ⟨xv, xs', xd, xl⟩ := x
        dsimp only at hxs hxn hxv hx64
        obtain ⟨dA, dc, rfl⟩ := sec_form hxs
        have q0 : wr.cell? ⟨b, off + k * 3, none⟩ = some (.int .i64 xv) := hrow 0 _ rfl
        have q1 : wr.cell? ⟨b, off + k * 3 + 1, none⟩ = some (.int .i64 xs') := hrow 1 _ rfl
        have q2 : wr.cell? ⟨b, off + k * 3 + 2, none⟩ = some (.slice dA xl.length dc) := hrow 2 _ rfl
        obtain ⟨W3, hW3⟩ : ∃ W3, wr.alloc (.cells #[.int .i64 xv, .int .i64 xs', .slice dA xl.length dc] 42) = W3 := ⟨_, rfl⟩
        have hb3 : Below wr.heap.size wr W3 := by rw [← hW3]; exact al1 _ _
        have hx3 := heap_alloc_new wr (.cells #[.int .i64 xv, .int .i64 xs', .slice dA xl.length dc] 42)
        rw [hW3] at hx3
        have HO3 : Hid (OwnIm W3 w.heap.size g ys) := hid ⟨(hb3.block g (box_lt HO.out.1)).trans HO.out.1, HO.out.2.1, rows_keep HO.out.2.2 (keep_below hb3)⟩
        have HB3 := hid (HB.out.trans (hb3.mono HB.out.size))
        have hm3 := img_of_own HO3.out (by rw [HYL.out]; omega)
        rw [HYL.out] at hm3
        have HF := hid (fits_any ys _ xv xs' dA xl.length dc W3 hm3 (by rw [HYL.out]; omega) (by have := (sec_len hxs).2; omega) hx64)
        obtain ⟨er, her⟩ : ∃ er, fitE (con ys) xv xs' xl.length = er := ⟨_, rfl⟩
        rw [her] at HF
        have HER := hid her
        have HXS := hid hxs
        have HXN := hid hxn
        have HX3 := hid hx3
        have hz3 := box_lt hx3
        obtain ⟨m, hm⟩ : ∃ m, xl.length = m := ⟨_, rfl⟩
        have HMM := hid hm
        have p0 : W3.cell? ⟨wr.heap.size, 0, none⟩ = some (.int .i64 xv) := cell_of_row _ _ 0 _ _ _ hx3
        have p1 : W3.cell? ⟨wr.heap.size, 1, none⟩ = some (.int .i64 xs') := cell_of_row _ _ 1 _ _ _ hx3
        have p2 : W3.cell? ⟨wr.heap.size, 2, none⟩ = some (.slice dA xl.length dc) := cell_of_row _ _ 2 _ _ _ hx3
        rw [hm] at HF q2 p2 HER hW3
        clear hx hcell hrow hxs hxn hxv hb3 hx3 hm3 her hm
        go_wp2_with fail
        refine HF.out.mono ?_
        rintro e w4 ⟨rfl, hb4⟩
        have HB4 := hid (HB3.out.trans (hb4.mono HB3.out.size))
        have HO4 : Hid (OwnIm w4 w.heap.size g ys) := hid ⟨(hb4.block g (box_lt HO3.out.1)).trans HO3.out.1, HO3.out.2.1, rows_keep HO3.out.2.2 (keep_below hb4)⟩
        have hx4 := (hb4.block wr.heap.size hz3).trans HX3.out
        rw [HMM.out] at hx4
        clear hb4 HO HB HO3 HB3 HX3 HF p0 p1 p2 q0 q1 q2 hz3
        by_cases he : er = 0
        · subst he
          obtain ⟨_, hv0, hvn, hm0, hs0, hsm⟩ := fit_ok HER.out
          obtain ⟨vn, rfl⟩ := Int.eq_ofNat_of_zero_le hv0
          obtain ⟨sn, rfl⟩ := Int.eq_ofNat_of_zero_le hs0
          have hvl : vn < ys.length := by rw [con_len] at hvn; omega
          obtain ⟨y, hy⟩ : ∃ y, ys[vn]? = some y := ⟨ys[vn], List.getElem?_eq_getElem hvl⟩
          have hgd : (con ys).getD ((vn : Int)).toNat [] = y.l := by unfold con; rw [Int.toNat_natCast, List.getD_eq_getElem?_getD, List.getElem?_map, hy]; rfl
          rw [hgd] at hsm
          have hsm' : sn + xl.length ≤ y.l.length := by rw [HMM.out]; omega
          obtain ⟨hys, hyo⟩ := HO4.out.2.2.1 y (List.mem_of_getElem? hy)
          obtain ⟨yA, yc, hyd⟩ := ownAny_form hyo
          rw [hyd] at hyo
          obtain ⟨yb, rfl⟩ := own_some hyo (by omega)
          have hyo2 : w4.drew.ownsRow w.heap.size 58 8 (.slice (some ⟨yb, 0, none⟩) y.l.length yc) y.l.length (y.l.map cSec).flatten := hyo
          obtain ⟨hyb, hycap, cur, hcur, hcs, hct⟩ := own_at hyo2
          have hlF := flat_cells hys
          have hlD := flat_cells HXS.out.1
          obtain ⟨hfit, hown⟩ := own_splice (o := sn * 8) (D := (xl.map cSec).flatten) hyo2 hcur (by omega)
          rw [← flat_spl hys HXS.out.1 hsm'] at hown
          have hsec := HXS.out.below HB4.out
          rw [HMM.out] at hsec
          obtain ⟨db, doff, hdA, _, hdc⟩ := sec_cells hsec (by rw [HMM.out]; exact hm0)
          subst hdA
          have hr := fun (ty : TypeId) => run_copy_rowN (P := Try.prog) w4.drew 40 40 ty 58 yb (sn * 8) (y.l.length - sn) (yc - sn) ⟨db, doff, none⟩ m dc 8 cur 58 (xl.map cSec).flatten Try.underlying40 size58' hcur (by rw [hlD, HMM.out, show Nat.min m (y.l.length - sn) = m from Nat.min_eq_left (by rw [HMM.out] at hsm'; omega)]; omega) (fun j z hz => by rw [add_at]; exact hdc j z hz) hfit (cells_one xl)
          obtain ⟨W5, hW5⟩ : ∃ W5, w4.drew.setRow yb (cur.toList.take (sn * 8) ++ (xl.map cSec).flatten ++ cur.toList.drop (sn * 8 + (xl.map cSec).flatten.length)).toArray = W5 := ⟨_, rfl⟩
          rw [hW5] at hr hown
          have hoth : ∀ i, i ≠ yb → W5.heap[i]? = w4.heap[i]? := fun i hi => by rw [← hW5]; exact setRow_other w4.drew yb i _ hi
          have hB5 : Below w.heap.size w W5 := by rw [← hW5]; exact below_setRow (below_drew HB4.out) hyb _
          have hne : g ≠ yb := fun e => by
            subst e
            have h1 := HO4.out.1
            rw [show w4.heap[g]? = _ from hcur] at h1
            cases h1
          have hoc : w4.cell? ⟨g, vn, none⟩ = some (.slice (some ⟨yb, 0, none⟩) y.l.length yc) := by
            rw [cell_of_row _ _ vn _ _ _ HO4.out.1, List.getElem?_toArray, List.getElem?_map, hy, ← hyd]
            rfl
          have hSL := fun (W : World) => run_slice40f (some ⟨yb, 0, none⟩) y.l.length yc sn (sn : Int) rfl (by omega) W
          rw [show fromS (some ⟨yb, 0, none⟩) yc sn = some ⟨yb, sn * 8, none⟩ by unfold fromS; rw [if_neg (by omega)]; show some ((⟨yb, 0, none⟩ : Addr).add (sn * 8)) = _; rw [add_at, Nat.zero_add]] at hSL
          have HPD := hid (put_done (W5 := W5) HYL.out HA.out HK.out HO4.out HB4.out HDR.out (by rw [HMM.out]; exact HER.out) hy hyd HXS.out.1 (by rw [hyd]; exact hown) hoth hB5 hne hsm')
          have HR := hid hr
          obtain ⟨g0, hg0⟩ : ∃ g0, wr.heap.size = g0 := ⟨_, rfl⟩
          rw [hg0] at hx4 ⊢
          have p0 : w4.cell? ⟨g0, 0, none⟩ = some (.int .i64 (vn : Int)) := cell_of_row _ _ 0 _ _ _ hx4
          have p1 : w4.cell? ⟨g0, 1, none⟩ = some (.int .i64 (sn : Int)) := cell_of_row _ _ 1 _ _ _ hx4
          have p2 : w4.cell? ⟨g0, 2, none⟩ = some (.slice (some ⟨db, doff, none⟩) m dc) := cell_of_row _ _ 2 _ _ _ hx4
          have hvc : (vn : Int) < (n : Int) := by have := HYL.out; omega
          obtain ⟨yn, hyn⟩ : ∃ yn, y.l.length = yn := ⟨_, rfl⟩
          rw [hyn] at hSL HR hoc
          obtain ⟨qn, hqn⟩ : ∃ qn, yn - sn = qn := ⟨_, rfl⟩
          obtain ⟨qc, hqc⟩ : ∃ qc, yc - sn = qc := ⟨_, rfl⟩
          obtain ⟨pp, hpp⟩ : ∃ pp, sn * 8 = pp := ⟨_, rfl⟩
          have hsn : (sn : Int) ≤ (yn : Int) := by omega
          have hsc : (yn : Int) ≤ (yc : Int) := by omega
          rw [hqn, hqc, hpp] at hSL HR
          clear hv0 hvn hs0 hsm hvl hy hgd hsm' hys hyo hyd hyo2 hyb hycap hcur hcs hct hlF hlD hfit hown hsec hdc hr hW5 hoth hB5 hne hx4 hg0 hyn hqn hqc hpp HO4 HB4 HA HK HYL HDR HER
          go_wp2_with fail
          go_region_law (refine step_copy_run rfl (.tmp 40) (.tmp 42) 40 40 rfl _ _ (by simp [Act.eval, Act.put]) (by simp [Act.eval, Act.put]) (HR.out _) ?_)
          all_goals
            obtain ⟨ys', h1, h2, h3, h4, h5⟩ := HPD.out
            have H1 := hid h1
            have H2 := hid h2
            have H3 := hid h3
            have H4 := hid h4
            have H5 := hid h5
            clear h1 h2 h3 h4 h5 HPD HR hSL p0 p1 p2 hoc
            go_wp2
            go_roundw
            case rel => exact ⟨k + 1, ys', by omega, by go_num, H1, H2, H3, H4, H5⟩
            case measure => simp [Go.RowKit.intOf]; omega
        · have d1 : (er != 0) = true := by simpa using he
          have HE : Hid (appM L ws = .error (k, er)) := hid (by rw [HA.out, HDR.out, appW, if_pos (by dsimp only; rw [HMM.out, HER.out]; exact he)]; dsimp only; rw [HMM.out, HER.out])
          have H0 := hid he
          clear he hx4
          go_wp2
          refine bodyPost_ret (v := .tuple #[.slice none 0 0, .int .i64 (k : Int), .int .i64 er]) (by simp [results, Try.results23, go_sem]) rfl ?_
          exact ⟨HB4.out, .inr ⟨k, er, HE.out, H0.out, rfl⟩⟩
      · obtain rfl : k = N := by omega
        have HE : Hid (appM L ws = .ok (con ys)) := hid (by rw [HA.out, List.drop_of_length_le (by rw [HN.out]; exact Nat.le_refl _)]; rfl)
        go_wp2
        refine bodyPost_ret (v := .tuple #[.slice (some ⟨g, 0, none⟩) n n, .int .i64 0, .int .i64 0]) (by simp [results, Try.results23, go_sem]) rfl ?_
        exact ⟨HB.out, .inl ⟨con ys, g, ys, HE.out, by rw [HYL.out], rfl, HK.out, HO.out⟩⟩
  · have d1 : (ck != 0) = true := by simpa using h0
    have HE : Hid (appM L ws = .error (0, ck)) := hid (by unfold appM; rw [hck, if_pos h0])
    have H0 := hid h0
    clear h0 HM hck
    go_enter Try.func23, Try.ntmps23
    go_wp2_with fail
    refine HC.out.mono ?_
    rintro e w1 ⟨rfl, hb1⟩
    have HB1 := hid hb1
    clear hb1
    go_wp2
    refine bodyPost_ret (v := .tuple #[.slice none 0 0, .int .i64 0, .int .i64 ck]) (by simp [results, Try.results23, go_sem]) rfl ?_
    exact ⟨HB1.out, .inr ⟨0, ck, HE.out, H0.out, rfl⟩⟩
end Go.Proofs.Ytbcnikmhodkbfaa
