/- SameWrites; the reference's Differ. -/
import Derived.Test.YtbcnikmhodkbfaaZj
namespace Go.Proofs.Ytbcnikmhodkbfaa
open Go.RowKit Go.Lib

/-- Two writes are equal, whatever their slices. -/
def sameW (x y : Wri) : Bool := decide (x.v = y.v) && (decide (x.s = y.s) && decide (x.l = y.l))
def sameL (xs ys : List Wri) : Prop := xs.length = ys.length ∧ ∀ (i : Nat) (x y : Wri), xs[i]? = some x → ys[i]? = some y → sameW x y = true
set_option maxHeartbeats 4000000 in
set_option maxRecDepth 100000 in
theorem sameWris_true (xs ys : List Wri) (v u : Value) (w : World) (hv : WrsA w v xs) (hu : WrsA w u ys) (hs : sameL xs ys) :
    Calls Try.prog 34 #[v, u] w (SaysQ true w) := by
  obtain ⟨hX, C1, k1, rfl, hcap1, hcm1, b1, o1, hA1, hc1⟩ := hv
  obtain ⟨hY, C2, k2, rfl, hcap2, hcm2, b2, o2, hA2, hc2⟩ := hu
  unfold maxLen at hcm1 hcm2
  rw [List.length_map] at hcap1 hA1 hcap2 hA2 ⊢
  rw [List.length_map]
  have HC1 := hid hc1
  have HC2 := hid hc2
  have HX := hid hX
  have HY := hid hY
  have HS := hid hs.2
  have d1 : ((xs.length : Int) != (ys.length : Int)) = false := by rw [hs.1]; simp
  have HLEN := hid hs.1
  clear hc1 hc2 hX hY hs
  go_enter Try.func34, Try.ntmps34
  go_wp2
  go_loopw [5] (fun i wr => ∃ k : Nat, k ≤ xs.length ∧ i = .int .i64 (k : Int) ∧ Hid (∃ q, wr = w.drewN q)) (fun i _ => xs.length - (Go.RowKit.intOf i).toNat)
  case atStart => exact ⟨0, by omega, rfl, hid ⟨0, rfl⟩⟩
  case round =>
    obtain ⟨k, hk, rfl, HR⟩ := hrel
    obtain ⟨q, hq⟩ := HR.out
    have hcell : ∀ a, wr.cell? a = w.cell? a := fun a => by rw [hq]; rfl
    have hbw : Below w.heap.size w wr := by rw [hq]; exact ⟨rfl, rfl, rfl, Nat.le_refl _, fun _ _ => rfl⟩
    by_cases hkl : k < xs.length
    · have hl2 : k < ys.length := by have := HLEN.out; omega
      obtain ⟨e1, hb1⟩ := hA1 (by omega)
      obtain ⟨e2, hb2⟩ := hA2 (by omega)
      subst e1 e2
      obtain ⟨x, hx⟩ : ∃ x, xs[k]? = some x := ⟨xs[k], List.getElem?_eq_getElem hkl⟩
      obtain ⟨y, hy⟩ : ∃ y, ys[k]? = some y := ⟨ys[k], List.getElem?_eq_getElem hl2⟩
      have hr1 : ∀ (j : Nat) (z : Value), (cWri x)[j]? = some z → wr.cell? ⟨b1, o1 + k * 3 + j, none⟩ = some z := fun j z hz => (hcell _).trans (HC1.out k _ (by rw [List.getElem?_map, hx]; rfl) j z hz)
      have hr2 : ∀ (j : Nat) (z : Value), (cWri y)[j]? = some z → wr.cell? ⟨b2, o2 + k * 3 + j, none⟩ = some z := fun j z hz => (hcell _).trans (HC2.out k _ (by rw [List.getElem?_map, hy]; rfl) j z hz)
      have hsx := (HX.out x (List.mem_of_getElem? hx)).1
      have hsy := (HY.out y (List.mem_of_getElem? hy)).1
      have hsm := HS.out k x y hx hy
      obtain ⟨x0, x1, x2, x3⟩ := x
      obtain ⟨y0, y1, y2, y3⟩ := y
      unfold sameW at hsm
      simp only [Bool.and_eq_true, decide_eq_true_eq] at hsm
      obtain ⟨h0, h1, h2⟩ := hsm
      subst h0 h1 h2
      have q0 : wr.cell? ⟨b1, o1 + k * 3, none⟩ = some (.int .i64 x0) := hr1 0 _ rfl
      have q1 : wr.cell? ⟨b1, o1 + k * 3 + 1, none⟩ = some (.int .i64 x1) := hr1 1 _ rfl
      have q2 : wr.cell? ⟨b1, o1 + k * 3 + 2, none⟩ = some x2 := hr1 2 _ rfl
      have p0 : wr.cell? ⟨b2, o2 + k * 3, none⟩ = some (.int .i64 x0) := hr2 0 _ rfl
      have p1 : wr.cell? ⟨b2, o2 + k * 3 + 1, none⟩ = some (.int .i64 x1) := hr2 1 _ rfl
      have p2 : wr.cell? ⟨b2, o2 + k * 3 + 2, none⟩ = some y2 := hr2 2 _ rfl
      dsimp only at hsx hsy
      obtain ⟨A1, c1, rfl⟩ := sec_form hsx
      obtain ⟨A2, c2, rfl⟩ := sec_form hsy
      have g0 : (x0 != x0) = false := by simp
      have g1 : (x1 != x1) = false := by simp
      have hbn : ∀ n, Below w.heap.size w (wr.drewN n) := fun n => ⟨hbw.os, hbw.tape, hbw.output, hbw.size, hbw.block⟩
      have HQ := hid (fun (n : Nat) => show Calls Try.prog 64 #[.slice A1 x3.length c1, .slice A2 x3.length c2] (wr.drewN n) (fun e w' => e = .returned (.bool true) ∧ ∃ m, w' = (wr.drewN n).drewN m) from by
        have h := eqSame_any x3 x3 _ _ (wr.drewN n) (hsx.2.below (hbn n)) (hsy.2.below (hbn n)) hsx.1 hsy.1
        rw [decide_eq_true rfl] at h
        exact h)
      have HRn := hid (fun (n : Nat) => show ∃ q', wr.drewN n = w.drewN q' from ⟨q + n, by rw [hq]; simp⟩)
      clear hbn hcell hq hbw HR hr1 hr2 hx hy hsx hsy
      go_wp2_with fail
      go_quiet ((go_at_call 64; exact Calls.quiet_of (HQ.out _)))
      go_wp2
      go_roundw
      case rel => exact ⟨k + 1, by omega, by go_num, hid (HRn.out _)⟩
      case measure => simp [Go.RowKit.intOf]; omega
    · obtain rfl : k = xs.length := by omega
      clear hcell hq hbw
      go_wp2
      go_ret
      exact ⟨rfl, HR.out⟩
theorem sameL_of {xs ys : List Wri} (h : xs.map wv = ys.map wv) : sameL xs ys := by
  refine ⟨by have := congrArg List.length h; rwa [List.length_map, List.length_map] at this, fun i x y hx hy => ?_⟩
  have h1 := congrArg (fun l => l[i]?) h
  simp only [List.getElem?_map, hx, hy, Option.map_some] at h1
  injection h1 with h1
  unfold wv at h1
  injection h1 with e1 h1
  injection h1 with e2 e3
  unfold sameW
  simp [e1, e2, e3]
/-- Lists of extents that a call has made, in a row that it has made. -/
def OwnD (w : World) (base : Nat) (v : Value) (ds : List Dvol) : Prop := w.ownsRow base 80 1 v ds.length (ds.map cDvol).flatten ∧ ∀ x ∈ ds, OwnE w base x.d x.l
theorem ownD_next {w0 w w1 w2 : World} {v v2 d : Value} {ds : List Dvol} {l : List (Int × Int)} {o : Obj} (h : OwnD w w0.heap.size v ds) (hB : Below w0.heap.size w0 w) (h1 : Below w.heap.size w w1) (hd : OwnE w1 w.heap.size d l)
    (hg : (w1.alloc o).grownBy w2 v.ownBlock) (ho : w2.ownsRow w0.heap.size 80 1 v2 (ds.length + 1) ((ds.map cDvol).flatten ++ [d])) : OwnD w2 w0.heap.size v2 (ds ++ [⟨d, l⟩]) ∧ Below w0.heap.size w0 w2 := by
  have hb := al1 w1 o
  have hr1 := own_keep (own_keep h.1 (keep_below h1)) (keep_below hb)
  have hk : Keep 51 w1 w2 := (keep_below hb).trans (keep_grown hr1 (by decide) hg)
  have hz : w0.heap.size ≤ w1.heap.size := Nat.le_trans hB.size h1.size
  refine ⟨⟨?_, fun x hx => ?_⟩, ((hB.trans (h1.mono hB.size)).alloc hz _).grown hg (by simp; omega) (fun q e => (hr1.lt q e).1)⟩
  · rw [List.length_append, List.map_append, List.flatten_append]
    simpa [cDvol] using ho
  · rcases List.mem_append.1 hx with hx | hx
    · exact own_keep (own_keep (h.2 x hx) (keep_below h1)) hk
    · rw [List.mem_singleton] at hx
      subst hx
      exact own_keep (own_base hd hB.size) hk
theorem ext_of_own {w : World} {base : Nat} {v : Value} {l : List (Int × Int)} (h : OwnE w base v l) (hr : ∀ e ∈ l, Xt.R64 e.1 ∧ Xt.R64 e.2) : Xt.Ext w v l := by
  have h' : w.ownsRow base 51 2 v (l.map cExt).length (l.map cExt).flatten := by rw [List.length_map]; exact h
  obtain ⟨A, cap, e, h1, h2, b, off, hA, hc⟩ := arr_of_own h' rfl (fun r hr => by obtain ⟨x, _, rfl⟩ := List.mem_map.1 hr; rfl)
  rw [List.length_map] at e h1 hA
  exact ⟨hr, A, cap, e, h1, h2, b, off, hA, fun i x hx => ⟨hc i _ (by rw [List.getElem?_map, hx]; rfl) 0 _ rfl, hc i _ (by rw [List.getElem?_map, hx]; rfl) 1 _ rfl⟩⟩
theorem difs_of_own {w : World} {base : Nat} {v : Value} {ds : List Dvol} {L M : List (List Sect)} (h : OwnD w base v ds) (ha : AllDx L M ds) : Difs w v ds := by
  refine ⟨fun x hx => ?_, ?_⟩
  · obtain ⟨i, hi⟩ := List.mem_iff_getElem?.1 hx
    exact ext_of_own (h.2 x hx) (Xt.r64_of_canon (ha.2 i x hi).1)
  · have h' : w.ownsRow base 80 1 v (ds.map cDvol).length (ds.map cDvol).flatten := by rw [List.length_map]; exact h.1
    exact arr_of_own h' rfl (fun r hr => by obtain ⟨x, _, rfl⟩ := List.mem_map.1 hr; rfl)
set_option maxRecDepth 100000 in
theorem step_append_dvol {ops : Array Oper} {o : Oper} {a : Act} {w : World} {K : Act → World → Prop} {Q : Exit → Act → World → Prop} {E : Prop} (hgd : o.guard = none) (s x : Operand) (ho : o.op = .call { callee := .builtin .append, args := #[s, x], argTypes := #[60, 60] })
    (base : Nat) (v : Value) (n : Nat) (olds : List Value) (hs : a.eval s = v) (hown : w.ownsRow base 80 1 v n olds) (A : Option Addr) (m c0 : Nat) (ad : Addr) (c : Nat) (hx : a.eval x = .slice (some ad) 1 c)
    (hc : ∀ j u, [Value.slice A m c0][j]? = some u → w.cell? (ad.add j) = some u) (b1 : n + 1 ≤ 1000000) (hbase : base ≤ w.heap.size)
    (h : ∀ v' w', w'.ownsRow base 80 1 v' (n + 1) (olds ++ [Value.slice A m c0]) → w.grownBy w' v.ownBlock → K (a.put o.dst v') w') :
    if Region.wanted o (yielded ops a.tmps) = true then Oper.wp Try.prog o a w K Q else E := by
  obtain ⟨i0, hi, hz0, hz1, hz2⟩ := info_parts info80
  have hw : Region.wanted o (yielded ops a.tmps) = true := by simp [Region.wanted, hgd]
  rw [if_pos hw]
  obtain ⟨v', w', hrun, r1, r2, _⟩ := run_append_own (P := Try.prog) w base 60 o.type 80 i0 _ 1 24 Try.underlying60 hi hz0 hz1 hz2 rfl (by decide) v n olds hown ad 1 c [Value.slice A m c0] rfl hc (by intro u hu; simp at hu; subst hu; rfl) (by unfold maxLen; omega) (by omega) hbase
  unfold Oper.wp
  simp [execOp, ho, resolve, invoke, builtin, hs, hx, hrun, Result.andThen]
  exact h v' w' r1 r2
/-- What the reference's Differ answers. -/
def RefDiffQ (w : World) (L M : List (List Sect)) (e : Ending) (w' : World) : Prop :=
  Below w.heap.size w w' ∧ ((difErr L M ≠ 0 ∧ e = .returned (.tuple #[.slice none 0 0, .int .i64 (difErr L M)])) ∨ (difErr L M = 0 ∧ ∃ r ds, e = .returned (.tuple #[r, .int .i64 0]) ∧ AllDx L M ds ∧ OwnD w' w.heap.size r ds))
set_option maxHeartbeats 8000000 in
set_option maxRecDepth 100000 in
theorem refDiffer_any (xs ys : List Vol) (v u : Value) (w : World) (hv : Img w v xs) (hu : Img w u ys) (hl : xs.length ≤ 1000) (hm : ys.length ≤ 1000) :
    Calls Try.prog 29 #[v, u] w (RefDiffQ w (con xs) (con ys)) := by
  have HP := hid (refPair_any xs ys v u w hv hu hl hm)
  obtain ⟨A, c, rfl⟩ := img_form hv
  obtain ⟨B, d, rfl⟩ := img_form hu
  have ha1 := (arr_cap hv.2).2
  have hb1 := (arr_cap hu.2).2
  obtain ⟨L, hL⟩ : ∃ L, con xs = L := ⟨_, rfl⟩
  obtain ⟨M, hM⟩ : ∃ M, con ys = M := ⟨_, rfl⟩
  rw [hL, hM] at HP ⊢
  have HL := hid hL
  have HM := hid hM
  have HV := hid hv
  have HU := hid hu
  obtain ⟨n, hn⟩ : ∃ n, xs.length = n := ⟨_, rfl⟩
  obtain ⟨m, hmm⟩ : ∃ m, ys.length = m := ⟨_, rfl⟩
  have HN := hid hn
  have HMM := hid hmm
  have HLL : Hid (L.length = n) := hid (by rw [← hL, con_len, hn])
  have HML : Hid (M.length = m) := hid (by rw [← hM, con_len, hmm])
  rw [hn] at HV HP hl ha1 ⊢
  rw [hmm] at HU HP hm hb1 ⊢
  obtain ⟨D, hD⟩ : ∃ D, difErr L M = D := ⟨_, rfl⟩
  have HDE := hid hD
  unfold RefDiffQ
  rw [hD] at HP ⊢
  clear hv hu hL hM hn hmm hD
  go_enter Try.func29, Try.ntmps29
  go_wp2_with fail
  refine HP.out.mono ?_
  rintro e w1 ⟨rfl, hb1'⟩
  have HB1 := hid hb1'
  clear hb1' HP
  by_cases h0 : D = 0
  · subst h0
    obtain ⟨hcL, hcM, hsz⟩ := difErr_ok HDE.out
    have HSZ := hid hsz
    have HCL := hid hcL
    have hnm : m = n := by have h := congrArg List.length hsz; rw [siz_len, siz_len, HLL.out, HML.out] at h; omega
    have hn8 : n ≤ 8 := by rw [← HLL.out]; exact (chk_ok hcL).2.1
    subst hnm
    clear hcL hcM hsz
    go_wp2_with fail
    go_loopw [7, 8] (fun o i wr => ∃ (k : Nat) (ds : List Dvol), k ≤ m ∧ i = .int .i64 (k : Int) ∧ ds.length = k ∧ Hid (∀ (i : Nat) (x : Dvol), ds[i]? = some x → Dx (L.getD i []) (M.getD i []) x.l) ∧ Hid (OwnD wr w.heap.size o ds) ∧ Hid (Below w.heap.size w wr)) (fun _ i _ => m - (Go.RowKit.intOf i).toNat)
    case atStart => exact ⟨0, [], Nat.zero_le _, rfl, rfl, hid (fun i x h => by simp at h), hid ⟨World.ownsRow_nil _ _ _ _, fun x h => by cases h⟩, HB1⟩
    case round =>
      clear HB1
      obtain ⟨k, ds, hk, rfl, hdl, HDX, HO, HB⟩ := hrel
      obtain ⟨lA, lc, rfl⟩ := ownAny_form HO.out.1
      have HDL := hid hdl
      rw [hdl] at HO ⊢
      clear hdl
      by_cases hkn : k < m
      · have hkc : (k : Int) < (m : Int) := by omega
        obtain ⟨x, hx⟩ : ∃ x, xs[k]? = some x := ⟨xs[k]'(by rw [HN.out]; exact hkn), List.getElem?_eq_getElem _⟩
        obtain ⟨y, hy⟩ : ∃ y, ys[k]? = some y := ⟨ys[k]'(by rw [HMM.out]; exact hkn), List.getElem?_eq_getElem _⟩
        have hxL : L.getD k [] = x.l := by rw [← HL.out, List.getD_eq_getElem?_getD]; unfold con; rw [List.getElem?_map, hx]; rfl
        have hyM : M.getD k [] = y.l := by rw [← HM.out, List.getD_eq_getElem?_getD]; unfold con; rw [List.getElem?_map, hy]; rfl
        have hxy : x.l.length = y.l.length := by rw [← hxL, ← hyM]; exact siz_getD HSZ.out k
        have hx4 : x.l.length ≤ 4096 := ((chk_ok HCL.out).2.2 x.l (by rw [← HL.out]; unfold con; exact List.mem_map.2 ⟨x, List.mem_of_getElem? hx, rfl⟩)).2
        obtain ⟨ba, oa, hba, hla, hca⟩ := img_at HV.out (by rw [HN.out]; omega)
        obtain ⟨bb, ob, hbb, hlb, hcb⟩ := img_at HU.out (by rw [HMM.out]; omega)
        subst hba hbb
        have hxS := (HV.out.1 x (List.mem_of_getElem? hx)).1
        have hyS := (HU.out.1 y (List.mem_of_getElem? hy)).1
        obtain ⟨xA, xc, hxd⟩ := sec_form hxS
        obtain ⟨yA, yc, hyd⟩ := sec_form hyS
        have c0 : wr.cell? ⟨ba, oa + k, none⟩ = some (.slice xA x.l.length xc) := (HB.out.cell (p := ⟨ba, oa + k, none⟩) hla).trans (by rw [hca k x hx, hxd])
        have c1 : wr.cell? ⟨bb, ob + k, none⟩ = some (.slice yA y.l.length yc) := (HB.out.cell (p := ⟨bb, ob + k, none⟩) hlb).trans (by rw [hcb k y hy, hyd])
        rw [hxd] at hxS
        rw [hyd] at hyS
        have HVD : Hid (∀ q : Nat, Calls Try.prog 60 #[.slice xA x.l.length xc, .slice yA y.l.length yc] (wr.drewN q) fun e w' => ∃ r, e = .returned r ∧ OwnE w' (wr.drewN q).heap.size r (runsL (dif x.l y.l)) ∧ Below (wr.drewN q).heap.size (wr.drewN q) w') := hid (fun q => refVD_any x.l y.l _ _ (wr.drewN q) (hxS.below (below_drewN HB.out q)) (hyS.below (below_drewN HB.out q)) hxy hx4)
        have HDN : Hid (∀ d : Value, ∀ (i : Nat) (z : Dvol), (ds ++ [(⟨d, runsL (dif x.l y.l)⟩ : Dvol)])[i]? = some z → Dx (L.getD i []) (M.getD i []) z.l) := hid (fun d i z hz => by
          rcases Nat.lt_or_ge i ds.length with hlt | hge
          · rw [List.getElem?_append_left hlt] at hz
            exact HDX.out i z hz
          · rw [List.getElem?_append_right hge] at hz
            have hi0 : i - ds.length = 0 := by
              have := (List.getElem?_eq_some_iff.1 hz).1
              simp at this
              omega
            rw [hi0] at hz
            obtain rfl : i = k := by have := HDL.out; omega
            injection hz with hz
            rw [← hz, hxL, hyM]
            exact runs_dx hx4)
        obtain ⟨rl, hrl⟩ : ∃ rl, runsL (dif x.l y.l) = rl := ⟨_, rfl⟩
        rw [hrl] at HVD HDN
        obtain ⟨X, hX⟩ : ∃ X, x.l.length = X := ⟨_, rfl⟩
        obtain ⟨Y, hY⟩ : ∃ Y, y.l.length = Y := ⟨_, rfl⟩
        rw [hX] at c0 HVD
        rw [hY] at c1 HVD
        have HAP : Hid (∀ W, Keep 80 wr W → W.ownsRow w.heap.size 80 1 (.slice lA k lc) k (ds.map cDvol).flatten) := hid (fun W hk => by have h := own_keep HO.out.1 hk; rwa [HDL.out] at h)
        have hz1 := HB.out.size
        have HZ2 : Hid (k + 1 ≤ 1000000) := hid (by omega)
        have HB0 : Hid (∀ q : Nat, Below wr.heap.size wr (wr.drewN q)) := hid (fun q => below_drewN (Below.refl _ _) q)
        clear hx hy hxL hyM hxy hx4 hla hca hlb hcb hxd hyd hxS hyS hX hY hrl
        go_wp2_with fail
        go_region_law (first
          | (go_simp; go_at_call 60; refine (HVD.out _).mono ?_; rintro e w6 ⟨r6, rfl, ho6, hb6⟩; obtain ⟨a6, c6, rfl⟩ := ownAny_form ho6; have HO6 := hid ho6; have HB6 := hid (below_both (HB0.out _) hb6); clear ho6 hb6)
          | (refine step_append_dvol rfl (.tmp 21) (.tmp 31) rfl w.heap.size (.slice lA k lc) k _ rfl (HAP.out _ ((keep_below HB6.out).trans (keep_below (al1 _ _)))) a6 rl.length c6 ⟨w6.heap.size, 0, none⟩ 1 (by simp [Act.eval]) (fun j u hu => by rw [add_at', cell_of_row _ _ _ _ _ _ (heap_alloc_new w6 _)]; simpa using hu) HZ2.out (Nat.le_trans hz1 (Nat.le_trans HB6.out.size (by simp))) ?_; intro v2 w2 hown2 hg2; obtain ⟨a2, c2, rfl⟩ := ownAny_form hown2; have HO2 := hid hown2; have HG2 := hid hg2; clear hown2 hg2))
        all_goals
          have hnx := ownD_next (l := rl) (show OwnD wr w.heap.size (.slice lA k lc) ds from HO.out) HB.out HB6.out HO6.out HG2.out (by rw [HDL.out]; exact HO2.out)
          have H1 := hid hnx.1
          have H2 := hid hnx.2
          clear hnx c0 c1
          go_wp2
          go_roundw
          case rel => exact ⟨k + 1, _, by omega, by go_num, by rw [List.length_append, HDL.out]; rfl, hid (HDN.out _), H1, H2⟩
          case measure => simp [Go.RowKit.intOf]; omega
      · obtain rfl : k = m := by omega
        go_wp2
        refine bodyPost_ret (v := .tuple #[.slice lA k lc, .int .i64 0]) (by simp [results, Try.results29, go_sem]) rfl ?_
        exact ⟨HB.out, _, rfl, ds, ⟨by rw [HDL.out, HLL.out], HDX.out⟩, HO.out⟩
  · have d1 : (D != 0) = true := by simpa using h0
    have H0 := hid h0
    clear h0
    go_wp2
    refine bodyPost_ret (v := .tuple #[.slice none 0 0, .int .i64 D]) (by simp [results, Try.results29, go_sem]) rfl ?_
    exact ⟨HB1.out, .inl ⟨H0.out, rfl⟩⟩
end Go.Proofs.Ytbcnikmhodkbfaa
