/- The reference's pair and VolumeDiffer. -/
import Derived.Test.YtbcnikmhodkbfaaZi
namespace Go.Proofs.Ytbcnikmhodkbfaa
open Go.RowKit Go.Lib

theorem siz_eq_iff {L M : List (List Sect)} : siz L = siz M ↔ L.length = M.length ∧ ∀ i, i < L.length → (L.getD i []).length = (M.getD i []).length := by
  constructor
  · intro h
    exact ⟨by rw [← siz_len L, h, siz_len], fun i _ => siz_getD h i⟩
  · rintro ⟨h1, h2⟩
    unfold siz
    apply List.ext_getElem?
    intro i
    rw [List.getElem?_map, List.getElem?_map]
    rcases Nat.lt_or_ge i L.length with hi | hi
    · have h := h2 i hi
      rw [List.getD_eq_getElem?_getD, List.getD_eq_getElem?_getD, List.getElem?_eq_getElem hi, List.getElem?_eq_getElem (by omega)] at h
      rw [List.getElem?_eq_getElem hi, List.getElem?_eq_getElem (by omega)]
      simp only [Option.getD_some] at h
      simp [h]
    · rw [List.getElem?_eq_none hi, List.getElem?_eq_none (by omega)]
set_option maxHeartbeats 8000000 in
set_option maxRecDepth 100000 in
theorem refPair_any (xs ys : List Vol) (v u : Value) (w : World) (hv : Img w v xs) (hu : Img w u ys) (hl : xs.length ≤ 1000) (hm : ys.length ≤ 1000) :
    Calls Try.prog 59 #[v, u] w fun e w' => e = .returned (.int .i64 (difErr (con xs) (con ys))) ∧ Below w.heap.size w w' := by
  have HCa := hid (fun W (hb : Below w.heap.size w W) => refCheck_any xs v W (hv.below hb) hl)
  have HCb := hid (fun W (hb : Below w.heap.size w W) => refCheck_any ys u W (hu.below hb) hm)
  obtain ⟨A, c, rfl⟩ := img_form hv
  obtain ⟨B, d, rfl⟩ := img_form hu
  obtain ⟨_, ha1, ha2⟩ := arr_cap hv.2
  obtain ⟨_, hb1, hb2⟩ := arr_cap hu.2
  obtain ⟨L, hL⟩ : ∃ L, con xs = L := ⟨_, rfl⟩
  obtain ⟨M, hM⟩ : ∃ M, con ys = M := ⟨_, rfl⟩
  rw [hL] at HCa ⊢
  rw [hM] at HCb ⊢
  have HL := hid hL
  have HM := hid hM
  have HV := hid hv
  have HU := hid hu
  obtain ⟨n, hn⟩ : ∃ n, xs.length = n := ⟨_, rfl⟩
  obtain ⟨m, hmm⟩ : ∃ m, ys.length = m := ⟨_, rfl⟩
  have HN := hid hn
  have HMM := hid hmm
  have HLL : Hid (L.length = n) := hid (by rw [← hL, con_len, hn])
  have HML : Hid (M.length = m) := hid (by rw [← hM, con_len, hmm])
  rw [hn] at HV HCa hl ha1 ⊢
  rw [hmm] at HU HCb hm hb1 ⊢
  obtain ⟨ck, hck⟩ : ∃ ck, chkS (siz L) = ck := ⟨_, rfl⟩
  obtain ⟨cm, hcm⟩ : ∃ cm, chkS (siz M) = cm := ⟨_, rfl⟩
  rw [hck] at HCa
  rw [hcm] at HCb
  have HCa1 := hid (HCa.out w (Below.refl _ _))
  obtain ⟨D, hD⟩ : ∃ D, difErr L M = D := ⟨_, rfl⟩
  have HD : Hid (D = if ck ≠ 0 then ck else if cm ≠ 0 then cm else if siz L ≠ siz M then 22 else 0) := hid (by rw [← hD, ← hck, ← hcm]; rfl)
  rw [hD]
  clear hv hu hL hM hn hmm hck hcm hD HCa
  go_enter Try.func59, Try.ntmps59
  go_wp2_with fail
  refine HCa1.out.mono ?_
  rintro e w1 ⟨rfl, hb1⟩
  have HB1 := hid hb1
  have HCb1 := hid (HCb.out w1 hb1)
  clear hb1 HCa1 HCb
  by_cases h0 : ck = 0
  · subst h0
    go_wp2_with fail
    refine HCb1.out.mono ?_
    rintro e w2 ⟨rfl, hb2⟩
    have HB2 := hid (below_both HB1.out hb2)
    clear hb2 HCb1
    by_cases h1 : cm = 0
    · subst h1
      by_cases hnm : n = m
      · subst hnm
        go_wp2_with fail
        go_loopw [7] (fun i wr => ∃ k : Nat, k ≤ n ∧ i = .int .i64 (k : Int) ∧ Hid (∀ j, j < k → (L.getD j []).length = (M.getD j []).length) ∧ Hid (Below w.heap.size w wr)) (fun i _ => n - (Go.RowKit.intOf i).toNat)
        case atStart => exact ⟨0, Nat.zero_le _, rfl, hid (fun j hj => by omega), HB2⟩
        case round =>
          clear HB2 HB1
          obtain ⟨k, hk, rfl, HJ, HB⟩ := hrel
          by_cases hkn : k < n
          · have hkc : (k : Int) < (n : Int) := by omega
            obtain ⟨x, hx⟩ : ∃ x, xs[k]? = some x := ⟨xs[k]'(by rw [HN.out]; exact hkn), List.getElem?_eq_getElem _⟩
            obtain ⟨y, hy⟩ : ∃ y, ys[k]? = some y := ⟨ys[k]'(by rw [HMM.out]; exact hkn), List.getElem?_eq_getElem _⟩
            have hxL : L.getD k [] = x.l := by rw [← HL.out, List.getD_eq_getElem?_getD]; unfold con; rw [List.getElem?_map, hx]; rfl
            have hyM : M.getD k [] = y.l := by rw [← HM.out, List.getD_eq_getElem?_getD]; unfold con; rw [List.getElem?_map, hy]; rfl
            obtain ⟨ba, oa, hba, hla, hca⟩ := img_at HV.out (by rw [HN.out]; omega)
            obtain ⟨bb, ob, hbb, hlb, hcb⟩ := img_at HU.out (by rw [HMM.out]; omega)
            subst hba hbb
            obtain ⟨xA, xc, hxd⟩ := sec_form (HV.out.1 x (List.mem_of_getElem? hx)).1
            obtain ⟨yA, yc, hyd⟩ := sec_form (HU.out.1 y (List.mem_of_getElem? hy)).1
            obtain ⟨X, hX⟩ : ∃ X, x.l.length = X := ⟨_, rfl⟩
            obtain ⟨Y, hY⟩ : ∃ Y, y.l.length = Y := ⟨_, rfl⟩
            have c0 : wr.cell? ⟨ba, oa + k, none⟩ = some (.slice xA X xc) := (HB.out.cell (p := ⟨ba, oa + k, none⟩) hla).trans (by rw [hca k x hx, hxd, hX])
            have c1 : wr.cell? ⟨bb, ob + k, none⟩ = some (.slice yA Y yc) := (HB.out.cell (p := ⟨bb, ob + k, none⟩) hlb).trans (by rw [hcb k y hy, hyd, hY])
            have HXY : Hid ((L.getD k []).length = X ∧ (M.getD k []).length = Y) := hid ⟨by rw [hxL, hX], by rw [hyM, hY]⟩
            clear hx hy hxL hyM hla hca hlb hcb hxd hyd hX hY
            by_cases hz : X = Y
            · subst hz
              have HJ2 : Hid (∀ j, j < k + 1 → (L.getD j []).length = (M.getD j []).length) := hid (fun j hj => by
                by_cases e : j = k
                · subst e
                  rw [HXY.out.1, HXY.out.2]
                · exact HJ.out j (by omega))
              go_wp2_with fail
              go_quiet (fail)
              go_wp2
              go_roundw
              case rel => exact ⟨k + 1, by omega, by go_num, HJ2, hid (below_drewN HB.out _)⟩
              case measure => simp [Go.RowKit.intOf]; omega
            · have d1 : ((X : Int) != (Y : Int)) = true := by rw [bne_iff_ne]; omega
              have d2 : (X != Y) = true := by rw [bne_iff_ne]; omega
              have HD2 : Hid (D = 22) := hid (by
                rw [HD.out, if_neg (by decide), if_neg (by decide), if_pos]
                intro h
                have := siz_getD h k
                rw [HXY.out.1, HXY.out.2] at this
                exact hz this)
              clear hz
              go_wp2_with fail
              go_quiet (fail)
              go_wp2
              go_ret
              exact ⟨ret_eq HD2.out.symm, below_drewN HB.out _⟩
          · obtain rfl : k = n := by omega
            have HD2 : Hid (D = 0) := hid (by
              rw [HD.out, if_neg (by decide), if_neg (by decide), if_neg]
              intro h
              exact h (siz_eq_iff.2 ⟨by rw [HLL.out, HML.out], fun i hi => HJ.out i (by rw [HLL.out] at hi; exact hi)⟩))
            go_wp2
            go_ret
            exact ⟨ret_eq HD2.out.symm, HB.out⟩
      · have d1 : ((n : Int) != (m : Int)) = true := by rw [bne_iff_ne]; omega
        have HD2 : Hid (D = 22) := hid (by
          rw [HD.out, if_neg (by decide), if_neg (by decide), if_pos]
          intro h
          have := congrArg List.length h
          rw [siz_len, siz_len, HLL.out, HML.out] at this
          exact hnm this)
        clear hnm
        go_wp2
        go_ret
        exact ⟨ret_eq HD2.out.symm, HB2.out⟩
    · have d1 : (cm != 0) = true := by simpa using h1
      have HD2 : Hid (D = cm) := hid (by rw [HD.out, if_neg (by decide), if_pos h1])
      clear h1
      go_wp2
      go_ret
      exact ⟨ret_eq HD2.out.symm, HB2.out⟩
  · have d1 : (ck != 0) = true := by simpa using h0
    have HD2 : Hid (D = ck) := hid (by rw [HD.out, if_pos h0])
    clear h0
    go_wp2
    go_ret
    exact ⟨ret_eq HD2.out.symm, HB1.out⟩
/-- Extents in a row that a call has made. -/
def OwnE (w : World) (base : Nat) (v : Value) (l : List (Int × Int)) : Prop := w.ownsRow base 51 2 v l.length (l.map cExt).flatten
theorem flat_ext (l : List (Int × Int)) : (l.map cExt).flatten.length = 2 * l.length := by
  induction l with
  | nil => rfl
  | cons a l ih => rw [List.map_cons, List.flatten_cons, List.length_append, ih, List.length_cons]; show 2 + _ = _; omega
theorem own_setc {w : World} {base n c b E st i : Nat} {F : List Value} {v : Value} (h : w.ownsRow base E st (.slice (some ⟨b, 0, none⟩) n c) n F) : (w.setCell ⟨b, i, none⟩ v).ownsRow base E st (.slice (some ⟨b, 0, none⟩) n c) n (F.set i v) := by
  have hF := h.1
  obtain ⟨hb, hc, cur, hg, hs, ht⟩ := own_at h
  have hcm : c ≤ maxLen := by
    rcases h.2 with ⟨e, _⟩ | ⟨g, cap, cur', e, _, _, _, hcm, _⟩
    · cases e
    · injection e with _ _ e3
      subst e3
      exact hcm
  have hg2 := row_set (cs := cur.toList) (i := i) (by simpa using hg) v
  refine ⟨by rw [List.length_set]; exact hF, .inr ⟨b, c, _, rfl, hb, hg2, hc, hcm, ?_, ?_⟩⟩
  · simp [hs]
  · rw [List.toList_toArray, List.take_set, ht]
theorem ext_last {pre : List (Int × Int)} {e : Int × Int} {x : Int} : (((pre ++ [e]).map cExt).flatten).set (pre.length * 2 + 1) (.int .i64 x) = ((pre ++ [(e.1, x)]).map cExt).flatten := by
  have hl := flat_ext pre
  rw [List.map_append, List.flatten_append, List.map_append, List.flatten_append, List.set_append_right _ _ (by omega), hl, show pre.length * 2 + 1 - 2 * pre.length = 1 by omega]
  rfl
theorem ownE_cells {w : World} {base b c : Nat} {pre : List (Int × Int)} {e : Int × Int} (h : w.ownsRow base 51 2 (.slice (some ⟨b, 0, none⟩) (pre.length + 1) c) (pre.length + 1) ((pre ++ [e]).map cExt).flatten) :
    w.cell? ⟨b, pre.length * 2, none⟩ = some (.int .i64 e.1) ∧ w.cell? ⟨b, pre.length * 2 + 1, none⟩ = some (.int .i64 e.2) ∧ w.frozen? ⟨b, pre.length * 2 + 1, none⟩ = false := by
  obtain ⟨hb, hc, cur, hg, hs, ht⟩ := own_at h
  have hl := flat_ext pre
  have hk : ∀ k u, (((pre ++ [e]).map cExt).flatten)[k]? = some u → w.cell? ⟨b, k, none⟩ = some u := fun k u hu => by
    rw [← ht, List.getElem?_take] at hu
    split at hu
    · rw [cell_of_row _ _ k _ _ _ hg]
      simpa using hu
    · cases hu
  have hflat : ((pre ++ [e]).map cExt).flatten = (pre.map cExt).flatten ++ [.int .i64 e.1, .int .i64 e.2] := by rw [List.map_append, List.flatten_append]; rfl
  refine ⟨hk _ _ ?_, hk _ _ ?_, box_fr hg _⟩
  · rw [hflat, List.getElem?_append_right (by omega), hl, show pre.length * 2 - 2 * pre.length = 0 by omega]
    rfl
  · rw [hflat, List.getElem?_append_right (by omega), hl, show pre.length * 2 + 1 - 2 * pre.length = 1 by omega]
    rfl
set_option maxRecDepth 100000 in
theorem append_ext {ops : Array Oper} {rest : List Oper} {o : Oper} {a : Act} {w : World} {Q : Exit → Act → World → Prop} (hgd : o.guard = none) (s x : Operand) (ho : o.op = .call { callee := .builtin .append, args := #[s, x], argTypes := #[80, 80] })
    (base : Nat) (v : Value) (n : Nat) (olds : List Value) (hs : a.eval s = v) (hown : w.ownsRow base 51 2 v n olds) (y0 y1 : Int) (ad : Addr) (c : Nat) (hx : a.eval x = .slice (some ad) 1 c)
    (hc : ∀ j u, [Value.int .i64 y0, .int .i64 y1][j]? = some u → w.cell? (ad.add j) = some u) (b1 : n + 1 ≤ 1000000) (hbase : base ≤ w.heap.size)
    (h : ∀ v' w', w'.ownsRow base 51 2 v' (n + 1) (olds ++ [Value.int .i64 y0, .int .i64 y1]) → w.grownBy w' v.ownBlock → wpList Try.prog ops Q rest (a.put o.dst v') w') : wpList Try.prog ops Q (o :: rest) a w := by
  obtain ⟨i0, hi, hz0, hz1, hz2⟩ := info_parts info51
  exact wpList_append_own w hgd s x 80 ho base 51 i0 _ 2 16 Try.underlying80 hi hz0 hz1 hz2 rfl (by decide) v n olds hs hown ad 1 c _ hx rfl hc (by intro u hu; simp at hu; rcases hu with rfl | rfl <;> rfl) (by unfold maxLen; omega) (by omega) hbase (fun v' w' h1 h2 _ => h v' w' h1 h2)
theorem runs_len (l : List Nat) : (runsL l).length ≤ l.length := by
  have h : ∀ (l : List Nat) (out : List (Int × Int)), (l.foldl addR out).length ≤ out.length + l.length := by
    intro l
    induction l with
    | nil => intro out; exact Nat.le_refl _
    | cons i l ih =>
      intro out
      rw [List.foldl_cons, List.length_cons]
      have h1 := ih (addR out i)
      have h2 : (addR out i).length ≤ out.length + 1 := by
        rcases list_ends out with rfl | ⟨p, e, rfl⟩
        · exact Nat.le_refl _
        · by_cases hc : e.1 + e.2 = (i : Int)
          · rw [addR_on hc, List.length_append, List.length_append]
            simp
          · rw [addR_new hc, List.length_append]
            simp
      omega
  have := h l []
  simpa [runsL] using this
theorem addr3 (W : World) (a b : Value) (T : TypeId) : ∀ (j : Nat) (u : Value), [a, b][j]? = some u → (W.alloc (.cells #[a, b] T)).cell? ((⟨W.heap.size, 0, none⟩ : Addr).add j) = some u := fun j u hu => by
  rw [add_at', cell_of_row _ _ _ _ _ _ (heap_alloc_new W _)]
  simpa using hu
set_option maxHeartbeats 8000000 in
set_option maxRecDepth 100000 in
theorem refVD_any (a b : List Sect) (v u : Value) (w : World) (hv : Sec w v a) (hu : Sec w u b) (hlen : a.length = b.length) (hl : a.length ≤ 4096) :
    Calls Try.prog 60 #[v, u] w fun e w' => ∃ r, e = .returned r ∧ OwnE w' w.heap.size r (runsL (dif a b)) ∧ Below w.heap.size w w' := by
  obtain ⟨A, ca, rfl⟩ := sec_form hv
  obtain ⟨B, cb, rfl⟩ := sec_form hu
  have hc1 := (sec_len hv).2
  have hc2 := (sec_len hu).2
  have HV := hid hv
  have HU := hid hu
  obtain ⟨n, hn⟩ : ∃ n, a.length = n := ⟨_, rfl⟩
  have hm := hlen.symm.trans hn
  have HN := hid hn
  have HM := hid hm
  rw [hn] at HV hc1 hl ⊢
  rw [hm] at HU hc2 ⊢
  unfold dif
  rw [hn]
  clear hv hu hlen hn hm
  go_enter Try.func60, Try.ntmps60
  go_wp2_with fail
  go_loopw [5, 6] (fun o i wr => ∃ k : Nat, k ≤ n ∧ i = .int .i64 (k : Int) ∧ Hid (OwnE wr w.heap.size o (runsL (difN a b k))) ∧ Hid (Below w.heap.size w wr)) (fun _ i _ => n - (Go.RowKit.intOf i).toNat)
  case atStart => exact ⟨0, Nat.zero_le _, rfl, hid (World.ownsRow_nil _ _ _ _), hid (Below.refl _ _)⟩
  case round =>
    obtain ⟨k, hk, rfl, HO, HB⟩ := hrel
    by_cases hkn : k < n
    · have hkc : (k : Int) < (n : Int) := by omega
      obtain ⟨p, hp⟩ : ∃ p, a[k]? = some p := ⟨a[k]'(by rw [HN.out]; exact hkn), List.getElem?_eq_getElem _⟩
      obtain ⟨r, hr⟩ : ∃ r, b[k]? = some r := ⟨b[k]'(by rw [HM.out]; exact hkn), List.getElem?_eq_getElem _⟩
      obtain ⟨xb, xo, hxb, hxl, hxc⟩ := sec_at HV.out (by rw [HN.out]; omega)
      obtain ⟨yb, yo, hyb, hyl, hyc⟩ := sec_at HU.out (by rw [HM.out]; omega)
      subst hxb hyb
      have hp8 := HV.out.1 p (List.mem_of_getElem? hp)
      have hr8 := HU.out.1 r (List.mem_of_getElem? hr)
      have hrp : ∀ (i : Nat) (z : Value), (cSec p)[i]? = some z → wr.cell? ⟨xb, xo + k * 8 + i, none⟩ = some z := fun i z hz => (HB.out.cell (p := ⟨xb, _, none⟩) hxl).trans (hxc k p hp i z hz)
      have hrr : ∀ (i : Nat) (z : Value), (cSec r)[i]? = some z → wr.cell? ⟨yb, yo + k * 8 + i, none⟩ = some z := fun i z hz => (HB.out.cell (p := ⟨yb, _, none⟩) hyl).trans (hyc k r hr i z hz)
      have HSN : Hid (difN a b (k + 1) = difN a b k ++ if p ≠ r then [k] else []) := hid (by
        rw [difN_succ, hp, hr]
        congr 1
        by_cases h : p = r
        · simp [h]
        · simp [h])
      obtain ⟨x0, x1, x2, x3, x4, x5, x6, x7, rfl⟩ := list8 hp8.1
      obtain ⟨y0, y1, y2, y3, y4, y5, y6, y7, rfl⟩ := list8 hr8.1
      have q0 : wr.cell? ⟨xb, xo + k * 8, none⟩ = some (.int .u8 (x0 : Int)) := hrp 0 _ rfl
      have q1 : wr.cell? ⟨xb, xo + k * 8 + 1, none⟩ = some (.int .u8 (x1 : Int)) := hrp 1 _ rfl
      have q2 : wr.cell? ⟨xb, xo + k * 8 + 2, none⟩ = some (.int .u8 (x2 : Int)) := hrp 2 _ rfl
      have q3 : wr.cell? ⟨xb, xo + k * 8 + 3, none⟩ = some (.int .u8 (x3 : Int)) := hrp 3 _ rfl
      have q4 : wr.cell? ⟨xb, xo + k * 8 + 4, none⟩ = some (.int .u8 (x4 : Int)) := hrp 4 _ rfl
      have q5 : wr.cell? ⟨xb, xo + k * 8 + 5, none⟩ = some (.int .u8 (x5 : Int)) := hrp 5 _ rfl
      have q6 : wr.cell? ⟨xb, xo + k * 8 + 6, none⟩ = some (.int .u8 (x6 : Int)) := hrp 6 _ rfl
      have q7 : wr.cell? ⟨xb, xo + k * 8 + 7, none⟩ = some (.int .u8 (x7 : Int)) := hrp 7 _ rfl
      have p0 : wr.cell? ⟨yb, yo + k * 8, none⟩ = some (.int .u8 (y0 : Int)) := hrr 0 _ rfl
      have p1 : wr.cell? ⟨yb, yo + k * 8 + 1, none⟩ = some (.int .u8 (y1 : Int)) := hrr 1 _ rfl
      have p2 : wr.cell? ⟨yb, yo + k * 8 + 2, none⟩ = some (.int .u8 (y2 : Int)) := hrr 2 _ rfl
      have p3 : wr.cell? ⟨yb, yo + k * 8 + 3, none⟩ = some (.int .u8 (y3 : Int)) := hrr 3 _ rfl
      have p4 : wr.cell? ⟨yb, yo + k * 8 + 4, none⟩ = some (.int .u8 (y4 : Int)) := hrr 4 _ rfl
      have p5 : wr.cell? ⟨yb, yo + k * 8 + 5, none⟩ = some (.int .u8 (y5 : Int)) := hrr 5 _ rfl
      have p6 : wr.cell? ⟨yb, yo + k * 8 + 6, none⟩ = some (.int .u8 (y6 : Int)) := hrr 6 _ rfl
      have p7 : wr.cell? ⟨yb, yo + k * 8 + 7, none⟩ = some (.int .u8 (y7 : Int)) := hrr 7 _ rfl
      obtain ⟨eq, heqb⟩ : ∃ eq, decide ([x0, x1, x2, x3, x4, x5, x6, x7] = [y0, y1, y2, y3, y4, y5, y6, y7]) = eq := ⟨_, rfl⟩
      have heq2 : ∀ W : World, (Op.equalIn 10000 58 (.agg #[.int .u8 (x0 : Int), .int .u8 (x1 : Int), .int .u8 (x2 : Int), .int .u8 (x3 : Int), .int .u8 (x4 : Int), .int .u8 (x5 : Int), .int .u8 (x6 : Int), .int .u8 (x7 : Int)]) (.agg #[.int .u8 (y0 : Int), .int .u8 (y1 : Int), .int .u8 (y2 : Int), .int .u8 (y3 : Int), .int .u8 (y4 : Int), .int .u8 (y5 : Int), .int .u8 (y6 : Int), .int .u8 (y7 : Int)])).run Try.prog W = .ok eq W := fun W => by
        have h := eql_sec [x0, x1, x2, x3, x4, x5, x6, x7] [y0, y1, y2, y3, y4, y5, y6, y7] rfl rfl hp8.2 hr8.2 W
        rw [heqb] at h
        exact h
      clear hp hr hxl hxc hyl hyc hp8 hr8 hrp hrr
      rcases eq with _ | _
      · have HSN2 : Hid (runsL (difN a b (k + 1)) = addR (runsL (difN a b k)) k) := hid (by rw [HSN.out, if_pos (of_decide_eq_false heqb), runs_snoc])
        have HGR := hid (runs_dif a b k (by omega)).1
        have hrl : (runsL (difN a b k)).length ≤ k := Nat.le_trans (runs_len _) (difN_le a b k)
        obtain ⟨rl, hrl2⟩ : ∃ rl, runsL (difN a b k) = rl := ⟨_, rfl⟩
        rw [hrl2] at HO HSN2 HGR hrl
        clear heqb HSN hrl2
        rcases list_ends rl with rfl | ⟨pre, e, rfl⟩
        · obtain ⟨oA, oc, rfl⟩ := ownAny_form HO.out
          have HO1 : Hid (wr.ownsRow w.heap.size 51 2 (.slice oA 0 oc) 0 []) := hid HO.out
          have HKP : Hid (∀ (q : Nat) (o : Obj), Keep 51 wr ((wr.drewN q).alloc o)) := hid (fun q o => (keep_below (below_drewN (Below.refl _ wr) q)).trans (keep_below (al1 _ _)))
          have HBL : Hid (∀ (q : Nat) (o : Obj), Below w.heap.size w ((wr.drewN q).alloc o)) := hid (fun q o => (below_drewN HB.out q).alloc HB.out.size _)
          have hz1 := HB.out.size
          simp only [List.length_nil]
          go_wp2_with fail
          go_quiet (fail)
          go_wp2_with fail
          go_quiet (fail)
          go_wp2_with (at_builtin; refine append_ext rfl (.tmp 53) (.tmp 56) rfl w.heap.size (.slice oA 0 oc) 0 [] rfl (own_keep HO1.out (HKP.out _ _)) (k : Int) 1 ⟨wr.heap.size, 0, none⟩ 1 (by simp [Act.eval]) (fun j u hu => addr3 (wr.drewN _) _ _ 51 j u hu) (by omega) (Nat.le_trans hz1 (by simp)) ?_; intro v2 w2 hown2 hg2; obtain ⟨a2, c2, rfl⟩ := ownAny_form hown2; have HO2 := hid hown2; have HB2 := hid ((HBL.out _ _).grown hg2 (Nat.le_trans hz1 (by simp)) (fun q e => (HO1.out.lt q e).1)); clear hown2 hg2)
          go_roundw
          case rel => exact ⟨k + 1, by omega, by go_num, hid (by rw [HSN2.out, addR_nil]; exact HO2.out), HB2⟩
          case measure => simp [Go.RowKit.intOf]; omega
        · obtain ⟨oA, oc, rfl⟩ := ownAny_form HO.out
          obtain ⟨g, rfl⟩ := own_some HO.out (by rw [List.length_append, List.length_singleton]; omega)
          have ho1 := HO.out
          unfold OwnE at ho1
          have hpl : (pre ++ [e]).length = pre.length + 1 := by rw [List.length_append, List.length_singleton]
          rw [hpl] at ho1 hrl ⊢
          obtain ⟨c1, c2, c3, c4, c5⟩ := Xt.canon_split (s := e.1) (n := e.2) HGR.out.1
          have he := HGR.out.2 e (by simp)
          obtain ⟨q0, q1, f1⟩ := ownE_cells ho1
          have hgb := (own_at ho1).1
          have hoc := (own_at ho1).2.1
          have HO1 := hid ho1
          have HKP : Hid (∀ (q : Nat) (o : Obj), Keep 51 wr ((wr.drewN q).alloc o)) := hid (fun q o => (keep_below (below_drewN (Below.refl _ wr) q)).trans (keep_below (al1 _ _)))
          have HBL : Hid (∀ (q : Nat) (o : Obj), Below w.heap.size w ((wr.drewN q).alloc o)) := hid (fun q o => (below_drewN HB.out q).alloc HB.out.size _)
          have HSET := hid (fun (q : Nat) (v : Value) => own_setc (w := wr.drewN q) (i := pre.length * 2 + 1) (v := v) ho1)
          obtain ⟨e1, e2⟩ := e
          dsimp only at c1 c2 c3 c4 c5 he q0 q1
          obtain ⟨pn, hpn⟩ : ∃ pn, pre.length = pn := ⟨_, rfl⟩
          have HPN := hid hpn
          rw [hpn] at HO1 HSET hrl q0 q1 f1 hoc ⊢
          obtain ⟨ln, hln⟩ : ∃ ln, pn + 1 = ln := ⟨_, rfl⟩
          have HLN := hid hln
          have hsub : IntKind.i64.wrap ((ln : Int) - 1) = (pn : Int) := by unfold IntKind.wrap; simp [IntKind.bits, IntKind.signed]; omega
          have hpos : decide ((0 : Int) < (ln : Int)) = true := by simp; omega
          have hpos2 : decide (0 < ln) = true := by simp; omega
          have hpl2 : (pn : Int) < (ln : Int) := by omega
          have hsum : IntKind.i64.wrap (e1 + e2) = e1 + e2 := by unfold IntKind.wrap; simp [IntKind.bits, IntKind.signed]; omega
          have hinc : IntKind.i64.wrap (e2 + 1) = e2 + 1 := by unfold IntKind.wrap; simp [IntKind.bits, IntKind.signed]; omega
          have hz1 := HB.out.size
          rw [hln] at HO1 HSET hrl hoc ⊢
          clear ho1 hpl c1 c2 c3 c4 c5 he hpn hln
          by_cases hc : e1 + e2 = (k : Int)
          · have d1 : (e1 + e2 == (k : Int)) = true := by rw [beq_iff_eq]; exact hc
            have HSN3 : Hid (runsL (difN a b (k + 1)) = pre ++ [(e1, e2 + 1)]) := hid (by rw [HSN2.out, addR_on hc])
            have HOX : Hid (∀ q : Nat, OwnE ((wr.drewN q).setCell ⟨g, pn * 2 + 1, none⟩ (.int .i64 (e2 + 1))) w.heap.size (.slice (some ⟨g, 0, none⟩) ln oc) (pre ++ [(e1, e2 + 1)])) := hid (fun q => by
              have h := HSET.out q (.int .i64 (e2 + 1))
              rw [← HPN.out, ext_last (e := (e1, e2)), HPN.out] at h
              unfold OwnE
              rw [List.length_append, List.length_singleton, HPN.out, HLN.out]
              exact h)
            have HBX := hid (fun (q : Nat) => (below_drewN HB.out q).setCell (p := ⟨g, pn * 2 + 1, none⟩) hgb (.int .i64 (e2 + 1)))
            clear hc
            go_wp2_with fail
            go_quiet (fail)
            go_wp2_with fail
            go_quiet (fail)
            go_wp2
            go_roundw
            case rel => exact ⟨k + 1, by omega, by go_num, hid (by rw [HSN3.out]; exact HOX.out _), hid (HBX.out _)⟩
            case measure => simp [Go.RowKit.intOf]; omega
          · have d1 : (e1 + e2 == (k : Int)) = false := by rw [beq_eq_false_iff_ne]; exact hc
            have HSN3 : Hid (runsL (difN a b (k + 1)) = (pre ++ [(e1, e2)]) ++ [((k : Int), 1)]) := hid (by rw [HSN2.out, addR_new hc])
            clear hc
            go_wp2_with fail
            go_quiet (fail)
            go_wp2_with fail
            go_quiet (fail)
            go_wp2_with (at_builtin; refine append_ext rfl (.tmp 53) (.tmp 56) rfl w.heap.size (.slice (some ⟨g, 0, none⟩) ln oc) ln _ rfl (own_keep HO1.out (HKP.out _ _)) (k : Int) 1 ⟨wr.heap.size, 0, none⟩ 1 (by simp [Act.eval]) (fun j u hu => addr3 (wr.drewN _) _ _ 51 j u hu) (by omega) (Nat.le_trans hz1 (by simp)) ?_; intro v2 w2 hown2 hg2; obtain ⟨a2, c2, rfl⟩ := ownAny_form hown2; have HO2 := hid hown2; have HB2 := hid ((HBL.out _ _).grown hg2 (Nat.le_trans hz1 (by simp)) (fun q e => (HO1.out.lt q e).1)); clear hown2 hg2)
            go_roundw
            case rel => exact ⟨k + 1, by omega, by go_num, hid (by
              rw [HSN3.out]
              unfold OwnE
              rw [List.length_append, List.length_append, List.length_singleton, List.length_singleton, HPN.out, HLN.out, List.map_append, List.flatten_append]
              exact HO2.out), HB2⟩
            case measure => simp [Go.RowKit.intOf]; omega
      · have HSN2 : Hid (difN a b (k + 1) = difN a b k) := hid (by rw [HSN.out, if_neg (fun h => h (of_decide_eq_true heqb)), List.append_nil])
        obtain ⟨oA, oc, rfl⟩ := ownAny_form HO.out
        clear heqb HSN
        go_wp2_with fail
        go_quiet (fail)
        go_wp2
        go_roundw
        case rel => exact ⟨k + 1, by omega, by go_num, by rw [HSN2.out]; exact HO, hid (below_drewN HB.out _)⟩
        case measure => simp [Go.RowKit.intOf]; omega
    · obtain rfl : k = n := by omega
      obtain ⟨oA, oc, rfl⟩ := ownAny_form HO.out
      go_wp2
      go_ret
      exact ⟨_, rfl, HO.out, HB.out⟩
end Go.Proofs.Ytbcnikmhodkbfaa
