/- The reference's Copy; sectors stored one by one; the reference's Apply. -/
import Derived.Test.YtbcnikmhodkbfaaZa
import Derived.StillTailTactics
namespace Go.Proofs.Ytbcnikmhodkbfaa
open Go.RowKit Go.Lib

/-- Volumes that a call has made, each of its own, in a row that it has made. -/
def OwnR (w : World) (base : Nat) (v : Value) (ys : List Vol) : Prop := w.ownsRow base 40 1 v ys.length (ys.map cVol).flatten ∧ Rows w base ys
theorem ownR_V {w : World} {base : Nat} {v : Value} {ys : List Vol} (h : OwnR w base v ys) : OwnV w base v ys := ⟨h.1, h.2.1⟩
theorem ownR_below {w w' : World} {base : Nat} {v : Value} {ys : List Vol} (h : OwnR w base v ys) (hb : Below w.heap.size w w') : OwnR w' base v ys := ⟨own_keep h.1 (keep_below hb), rows_keep h.2 (keep_below hb)⟩
theorem ownR_next {w0 w w1 w2 : World} {v v2 d : Value} {ys : List Vol} {l : List Sect} {o : Obj} (h : OwnR w w0.heap.size v ys) (hB : Below w0.heap.size w0 w) (h1 : Below w.heap.size w w1) (hs : Secs l) (hd : w1.ownsRow w.heap.size 58 8 d l.length (l.map cSec).flatten)
    (hg : (w1.alloc o).grownBy w2 v.ownBlock) (ho : w2.ownsRow w0.heap.size 40 1 v2 (ys.length + 1) ((ys.map cVol).flatten ++ [d])) : OwnR w2 w0.heap.size v2 (ys ++ [⟨d, l⟩]) ∧ Below w0.heap.size w0 w2 := by
  have hn := ownV_next (ownR_V h) hB h1 hs hd hg ho
  have hb := al1 w1 o
  have hr1 := own_keep (own_keep h.1 (keep_below h1)) (keep_below hb)
  have hk : Keep 58 w1 w2 := (keep_below hb).trans (keep_grown hr1 (by decide) hg)
  exact ⟨⟨hn.1.1, rows_snoc (y := ⟨d, l⟩) h.2 ((keep_below h1).trans hk) hs (own_keep hd hk) hB.size⟩, hn.2⟩
/-- What the reference's Copy answers. -/
def RefCopyQ (w : World) (L : List (List Sect)) (e : Ending) (w' : World) : Prop := ∃ r ys, e = .returned r ∧ con ys = L ∧ OwnR w' w.heap.size r ys ∧ Below w.heap.size w w'
set_option maxHeartbeats 4000000 in
set_option maxRecDepth 100000 in
theorem refCopy_any (xs : List Vol) (v : Value) (w : World) (hv : Img w v xs) (hl : xs.length ≤ 1000) (hz : ∀ x ∈ xs, x.l.length ≤ 1000000) : Calls Try.prog 39 #[v] w (RefCopyQ w (con xs)) := by
  obtain ⟨A, c, rfl⟩ := img_form hv
  obtain ⟨_, hc1, hc2⟩ := arr_cap hv.2
  have HV := hid hv
  have HZ := hid hz
  obtain ⟨n, hn⟩ : ∃ n, xs.length = n := ⟨_, rfl⟩
  have HN := hid hn
  rw [hn] at HV hc1 hl ⊢
  clear hv hn hz
  go_enter Try.func39, Try.ntmps39
  go_wp2_with fail
  go_loopw [3, 4] (fun v i wr => ∃ (k : Nat) (ys : List Vol), k ≤ n ∧ i = .int .i64 (k : Int) ∧ ys.length = k ∧ Hid (con ys = (con xs).take k) ∧ Hid (OwnR wr w.heap.size v ys) ∧ Hid (Below w.heap.size w wr)) (fun _ i _ => n - (Go.RowKit.intOf i).toNat)
  case atStart => exact ⟨0, [], Nat.zero_le _, rfl, rfl, hid rfl, hid ⟨World.ownsRow_nil _ _ _ _, rows_nil _ _⟩, hid (Below.refl _ _)⟩
  case round =>
    obtain ⟨k, ys, hkn0, rfl, hyl, HY, HO, HB⟩ := hrel
    obtain ⟨lA, lc, rfl⟩ := ownAny_form HO.out.1
    have HYL := hid hyl
    rw [hyl] at HO ⊢
    clear hyl
    by_cases hkn : k < n
    · obtain ⟨x, hx⟩ : ∃ x, xs[k]? = some x := ⟨xs[k]'(by rw [HN.out]; exact hkn), List.getElem?_eq_getElem _⟩
      have hcx0 : (con xs)[k]? = some x.l := by unfold con; rw [List.getElem?_map, hx]; rfl
      obtain ⟨b, off, hbA, hb, hcell⟩ := arr_at1 HV.out.2 (by rw [List.length_map, HN.out]; omega)
      subst hbA
      have hxm := List.mem_of_getElem? hx
      have hxs := HV.out.1 x hxm
      have hxl := HZ.out x hxm
      obtain ⟨xd, xl⟩ := x
      dsimp only at hxs hxl hcx0
      obtain ⟨dA, dc, rfl⟩ := sec_form hxs.1
      have hcx : wr.cell? ⟨b, off + k, none⟩ = some (.slice dA xl.length dc) := by
        have h := hcell k _ (by rw [List.getElem?_map, hx]; rfl) 0 _ rfl
        rw [Nat.mul_one, Nat.add_zero] at h
        exact (HB.out.cell (p := ⟨b, off + k, none⟩) hb).trans h
      have HT : Hid ((con xs).take (k + 1) = (con xs).take k ++ [xl]) := hid (take_snoc hcx0)
      have hkc : (k : Int) < (n : Int) := by omega
      have HSX := hid (hxs.1.below HB.out)
      have HNX := hid hxs.2
      have HSS := hid hxs.1.1
      have HZ1 : Hid (0 + xl.length ≤ 1000000000) := hid (by omega)
      obtain ⟨m, hm⟩ : ∃ m, xl.length = m := ⟨_, rfl⟩
      have HM := hid hm
      rw [hm] at hcx HSX HNX HZ1
      have hz1 := HB.out.size
      have HZ2 : Hid (k + 1 ≤ 1000000) := hid (by omega)
      have HAP : Hid (∀ W1, Keep 40 wr W1 → W1.ownsRow w.heap.size 40 1 (.slice lA k lc) k (ys.map cVol).flatten) := hid (fun W1 hk => by have h := own_keep HO.out.1 hk; rwa [HYL.out] at h)
      clear hcell hx hcx0 hxs hxm hxl hm
      go_wp2_with (first
        | (at_builtin; refine append_sec rfl (.tmp 13) (.tmp 17) rfl wr.heap.size (.slice none 0 0) 0 [] rfl (World.ownsRow_nil _ _ _ _) xl (.slice dA m dc) rfl HSX.out HNX.out (by rw [HM.out]; exact HZ1.out) (Nat.le_refl _) ?_; intro v1 w1 hown1 hg1; rw [HM.out] at hown1; obtain ⟨a1, c1, rfl⟩ := ownAny_form hown1; have HO1 := hid hown1; have HB1 := hid ((Below.refl wr.heap.size wr).grown hg1 (Nat.le_refl _) (fun q e => by cases e)); clear hown1 hg1)
        | (at_builtin; refine append_vol rfl (.tmp 12) (.tmp 19) rfl w.heap.size (.slice lA k lc) k _ rfl (HAP.out _ ((keep_below HB1.out).trans (keep_below (al1 _ _)))) a1 (0 + m) c1 ⟨w1.heap.size, 0, none⟩ 1 (by simp [Act.eval]) (fun j u hu => by rw [add_at', cell_of_row _ _ _ _ _ _ (heap_alloc_new w1 _)]; simpa using hu) HZ2.out (Nat.le_trans hz1 (Nat.le_trans HB1.out.size (by simp))) ?_; intro v2 w2 hown2 hg2; obtain ⟨a2, c2, rfl⟩ := ownAny_form hown2; have HO2 := hid hown2; have HG2 := hid hg2; clear hown2 hg2))
      have hnx := ownR_next (l := xl) (show OwnR wr w.heap.size (.slice lA k lc) ys from HO.out) HB.out HB1.out HSS.out (by have h := HO1.out; rw [Nat.zero_add, List.nil_append] at h; rw [HM.out]; exact h) HG2.out (by rw [HYL.out]; have h := HO2.out; rw [Nat.zero_add] at h; exact h)
      have H1 := hid hnx.1
      have H2 := hid hnx.2
      clear hnx hcx
      go_roundw
      case rel => exact ⟨k + 1, _, by omega, by go_num, by rw [List.length_append, HYL.out]; rfl, hid (by rw [con_snoc, HY.out, HT.out]), H1, H2⟩
      case measure => simp [Go.RowKit.intOf]; omega
    · obtain rfl : k = n := by omega
      go_wp2
      go_ret
      exact ⟨_, ys, rfl, by rw [HY.out, List.take_of_length_le (by rw [con_len, HN.out]; exact Nat.le_refl _)], HO.out, HB.out⟩
theorem fitE_congr {L M : List (List Sect)} (h : siz L = siz M) (v s : Int) (m : Nat) : fitE L v s m = fitE M v s m := by
  have h1 : L.length = M.length := by rw [← siz_len L, h, siz_len]
  have h2 : (L.getD v.toNat []).length = (M.getD v.toNat []).length := by
    have h3 := congrArg (fun l => l[v.toNat]?) h
    unfold siz at h3
    simp only [List.getElem?_map] at h3
    rw [List.getD_eq_getElem?_getD, List.getD_eq_getElem?_getD]
    cases hL : L[v.toNat]? <;> cases hM : M[v.toNat]? <;> rw [hL, hM] at h3 <;> simp at h3 ⊢
    omega
  unfold fitE
  rw [h, h1, h2]
theorem spl_next {l a : List Sect} {s : Nat} {x : Sect} (h : s + a.length + 1 ≤ l.length) : spl (spl l s a) (s + a.length) [x] = spl l s (a ++ [x]) := by
  have hP : (l.take s ++ a).length = s + a.length := by rw [List.length_append, List.length_take]; omega
  unfold spl
  rw [List.take_left' hP, List.length_singleton, List.drop_append, hP, List.drop_of_length_le (by omega), List.nil_append, show s + a.length + 1 - (s + a.length) = 1 by omega, List.drop_drop, List.length_append, List.length_singleton, List.append_assoc (l.take s), Nat.add_assoc]
theorem app1_nil {C : List (List Sect)} {vn sn : Nat} (hC : vn < C.length) : app1 C vn sn [] = C := by
  unfold app1 spl
  rw [List.append_nil, List.length_nil, Nat.add_zero, List.take_append_drop, List.getD_eq_getElem?_getD, List.getElem?_eq_getElem hC, Option.getD_some]
  exact List.set_getElem_self hC
theorem app1_next {C : List (List Sect)} {vn sn j : Nat} {xl : List Sect} {x : Sect} {yl : List Sect} (hC : vn < C.length) (hx : xl[j]? = some x) (hs : sn + xl.length ≤ (C.getD vn []).length) (hy : (app1 C vn sn (xl.take j))[vn]? = some yl) :
    (app1 C vn sn (xl.take j)).set vn (spl yl (sn + j) [x]) = app1 C vn sn (xl.take (j + 1)) ∧ yl.length = (C.getD vn []).length := by
  have hj := (List.getElem?_eq_some_iff.1 hx).1
  have hl : (xl.take j).length = j := by rw [List.length_take]; omega
  unfold app1 at hy ⊢
  rw [List.getElem?_set, if_pos rfl, if_pos hC] at hy
  injection hy with hy
  subst hy
  have h := spl_next (l := C.getD vn []) (a := xl.take j) (s := sn) (x := x) (by omega)
  rw [hl] at h
  rw [List.set_set, take_snoc hx, h]
  exact ⟨rfl, spl_len (by omega)⟩
theorem siz_app1 {C : List (List Sect)} {vn sn : Nat} {xl : List Sect} (hs : sn + xl.length ≤ (C.getD vn []).length) : siz (app1 C vn sn xl) = siz C := siz_set (spl_len hs)
/-- A sector is stored into a row of one's own. -/
theorem run_storeAt_row {P : Program} (w : World) (g o : Nat) (ty t : TypeId) (cs : List Value) (cur : Array Value) (hg : w.heap[g]? = some (.cells cur t (0, 0))) (hi : (P.info? ty).map (·.size) = some cs.length) (hfit : o + cs.length ≤ cur.size) (h1 : ∀ v ∈ cs, v.oneCell' = true) :
    (Instr.storeAt ty (.pointer (some ⟨g, o, none⟩)) (.agg cs.toArray)).run P w = .ok () (w.setRow g (cur.toList.take o ++ cs ++ cur.toList.drop (o + cs.length)).toArray) := by
  have h := run_storeCells_at P g o t cs 0 cur w hg (by simpa using hfit) h1
  cases hq : P.info? ty with
  | none => simp [hq] at hi
  | some i =>
    have hs : cs.length = i.size := by simp [hq] at hi; omega
    simp only [Nat.add_zero] at h
    simp [Instr.storeAt, Instr.sureAddr, Sem.run_bind, storeVar, sizeOf, typeInfo, hq, Value.cells, hs, h]
theorem wpList_store_run {P : Program} {ops : Array Oper} {rest : List Oper} {op : Oper} {a : Act} {w : World} {Q : Exit → Act → World → Prop} (hgd : op.guard = none) (ty : TypeId) (x y : Operand) (ho : op.op = .store ty x y) (u v : Value) (hx : a.eval x = u) (hy : a.eval y = v) {w' : World} (hr : (Instr.storeAt ty u v).run P w = .ok () w')
    (h : wpList P ops Q rest (a.put op.dst undef) w') : wpList P ops Q (op :: rest) a w :=
  wpList_plain hgd fun _ hK => by
    unfold Oper.wp execOp
    simp only [ho, hx, hy, hr, Result.andThen_ok, Sem.run_bind, Sem.run_pure]
    exact hK _ _ h
/-- Volumes, of one of which one sector is laid anew. -/
theorem ownR_put {w4 W5 : World} {base vn yb yn yc : Nat} {V : Value} {ys : List Vol} {y : Vol} {l' : List Sect} {cur : Array Value} (hO : OwnR w4 base V ys) (hy : ys[vn]? = some y) (hyd : y.d = .slice (some ⟨yb, 0, none⟩) yn yc) (hs : Secs l') (hl : l'.length = y.l.length)
    (hcur : w4.heap[yb]? = some (.cells cur 58 (0, 0))) (hown : W5.ownsRow base 58 8 y.d y.l.length (l'.map cSec).flatten) (hoth : ∀ i, i ≠ yb → W5.heap[i]? = w4.heap[i]?) : OwnR W5 base V (ys.set vn ⟨y.d, l'⟩) := by
  refine ⟨?_, rows_put hO.2 hy hyd hs hl hown hoth⟩
  rw [List.length_set, flat_vol, map_put hy, ← flat_vol]
  refine own_same hO.1 (fun k hk => hoth k fun e => ?_)
  subst e
  rcases hO.1.2 with ⟨e0, _⟩ | ⟨g, cap, cur', e0, _, hg, _⟩
  · rw [e0] at hk
    cases hk
  · rw [e0] at hk
    obtain rfl : k = g := by simpa [Value.ownBlock] using hk.symm
    rw [hcur] at hg
    cases hg
theorem put_next {w w4 W5 : World} {vn sn yb yn yc n j : Nat} {V : Value} {C : List (List Sect)} {ys : List Vol} {y : Vol} {xl : List Sect} {x : Sect} {cur : Array Value}
    (hn : ys.length = n) (hC : con ys = app1 C vn sn (xl.take j)) (hCn : vn < C.length) (hx : xl[j]? = some x) (hs : sn + xl.length ≤ (C.getD vn []).length) (hxs : Secs xl) (hO : OwnR w4 w.heap.size V ys) (hB : Below w.heap.size w W5) (hy : ys[vn]? = some y) (hyd : y.d = .slice (some ⟨yb, 0, none⟩) yn yc)
    (hcur : w4.heap[yb]? = some (.cells cur 58 (0, 0))) (hown : W5.ownsRow w.heap.size 58 8 y.d y.l.length ((spl y.l (sn + j) [x]).map cSec).flatten) (hoth : ∀ i, i ≠ yb → W5.heap[i]? = w4.heap[i]?) :
    ∃ ys' : List Vol, ys'.length = n ∧ con ys' = app1 C vn sn (xl.take (j + 1)) ∧ OwnR W5 w.heap.size V ys' ∧ Below w.heap.size w W5 := by
  have hyl : (app1 C vn sn (xl.take j))[vn]? = some y.l := by rw [← hC]; unfold con; rw [List.getElem?_map, hy]; rfl
  obtain ⟨h1, h2⟩ := app1_next hCn hx hs hyl
  have hj := (List.getElem?_eq_some_iff.1 hx).1
  have hys := (hO.2.1 y (List.mem_of_getElem? hy)).1
  refine ⟨ys.set vn ⟨y.d, spl y.l (sn + j) [x]⟩, by rw [List.length_set, hn], by rw [con_set, hC, ← h1], ownR_put hO hy hyd (spl_secs hys (fun t ht => ?_)) (spl_len ?_) hcur hown hoth, hB⟩
  · rw [List.mem_singleton] at ht
    subst ht
    exact hxs t (List.mem_of_getElem? hx)
  · rw [List.length_singleton]
    omega
/-- What the reference's Apply answers. -/
def RefAppQ (w : World) (L : List (List Sect)) (ws : List Wri) (e : Ending) (w' : World) : Prop :=
  Below w.heap.size w w' ∧ ((∃ L' r ys, appM L ws = .ok L' ∧ e = .returned (.tuple #[r, .int .i64 0, .int .i64 0]) ∧ con ys = L' ∧ OwnR w' w.heap.size r ys) ∨ (∃ (i : Nat) (er : Int), appM L ws = .error (i, er) ∧ er ≠ 0 ∧ e = .returned (.tuple #[.slice none 0 0, .int .i64 (i : Int), .int .i64 er])))
theorem ownR_cell {w : World} {base g c vn : Nat} {ys : List Vol} {y : Vol} (h : OwnR w base (.slice (some ⟨g, 0, none⟩) ys.length c) ys) (hy : ys[vn]? = some y) : w.cell? ⟨g, vn, none⟩ = some y.d := by
  obtain ⟨_, _, cur, hg, _, ht⟩ := own_at h.1
  have h1 : (cur.toList.take (ys.length * 1))[vn]? = some y.d := by rw [ht, flat_vol, List.getElem?_map, hy]; rfl
  rw [List.getElem?_take] at h1
  split at h1
  · rw [cell_of_row _ _ vn _ _ _ hg]
    simpa using h1
  · cases h1
set_option maxHeartbeats 8000000 in
set_option maxRecDepth 100000 in
theorem refApply_any (xs : List Vol) (ws : List Wri) (v u : Value) (w : World) (hv : Img w v xs) (hu : WrsA w u ws) (hl : xs.length ≤ 1000) :
    Calls Try.prog 24 #[v, u] w (RefAppQ w (con xs) ws) := by
  have HC := hid (refCheck_any xs v w hv hl)
  have HM : Hid (chkS (siz (con xs)) = 0 → ∀ W, Below w.heap.size w W → Calls Try.prog 39 #[v] W (RefCopyQ W (con xs))) := hid (fun h W hb => refCopy_any xs v W (hv.below hb) hl (fun x hx => by
    have := ((chk_ok h).2.2 x.l (by unfold con; exact List.mem_map.2 ⟨x, hx, rfl⟩)).2
    omega))
  have HFI : Hid (∀ W, Below w.heap.size w W → ∀ (vo s : Int) (D : Option Addr) (m c : Nat), m ≤ 9223372036854775807 → R64 s → Calls Try.prog 22 #[v, .agg #[.int .i64 vo, .int .i64 s, .slice D m c]] W fun e w' => e = .returned (.int .i64 (fitE (con xs) vo s m)) ∧ Below W.heap.size W w') := hid (fun W hb vo s D m c hm hs => refFits_any xs v vo s D m c W (hv.below hb) hl hm hs)
  obtain ⟨A, c, rfl⟩ := img_form hv
  obtain ⟨B, d, rfl⟩ := wrs_form hu
  obtain ⟨_, hc1, hc2⟩ := arr_cap hu.2
  obtain ⟨L, hL⟩ : ∃ L, con xs = L := ⟨_, rfl⟩
  rw [hL] at HC HM HFI ⊢
  have HLL : Hid (L.length = xs.length) := hid (by rw [← hL, con_len])
  have HU := hid hu
  obtain ⟨n, hn⟩ : ∃ n, xs.length = n := ⟨_, rfl⟩
  rw [hn] at HC HM HFI HLL hl ⊢
  obtain ⟨N, hN⟩ : ∃ N, ws.length = N := ⟨_, rfl⟩
  have HN := hid hN
  rw [hN] at HU hc1 ⊢
  clear hv hu hL hn hN
  obtain ⟨ck, hck⟩ : ∃ ck, chkS (siz L) = ck := ⟨_, rfl⟩
  rw [hck] at HC HM
  by_cases h0 : ck = 0
  · subst h0
    have HCK := hid hck
    have HM2 := hid (HM.out rfl)
    clear hck HM
    go_enter Try.func24, Try.ntmps24
    go_wp2_with fail
    refine HC.out.mono ?_
    rintro e w1 ⟨rfl, hb1⟩
    have HMC := hid (HM2.out w1 hb1)
    have HB1 := hid hb1
    clear hb1 HM2 HC
    go_wp2_with fail
    refine HMC.out.mono ?_
    rintro e w2 ⟨r, ys, rfl, hcn, ho, hb2⟩
    have hyl : ys.length = n := by rw [← con_len, hcn, HLL.out]
    have hn1 : 0 < n := by have := (chk_ok HCK.out).1; rw [HLL.out] at this; omega
    obtain ⟨lA, lc, rfl⟩ := ownAny_form ho.1
    obtain ⟨g, rfl⟩ := own_some ho.1 (by rw [hyl]; exact hn1)
    have HYL := hid hyl
    have HO : Hid (OwnR w2 w.heap.size (.slice (some ⟨g, 0, none⟩) n lc) ys) := hid (by
      rw [← hyl]
      exact ⟨own_base ho.1 HB1.out.size, fun y hy => ⟨(ho.2.1 y hy).1, own_base (ho.2.1 y hy).2 HB1.out.size⟩, ho.2.2⟩)
    have HB2 := hid (below_both HB1.out hb2)
    have HA : Hid (appM L ws = appW (con ys) (ws.drop 0) 0) := hid (by unfold appM; rw [HCK.out, if_neg (by decide), hcn]; rfl)
    have HK : Hid (siz (con ys) = siz L) := hid (by rw [hcn])
    rw [hyl]
    clear hcn ho hb2 hyl HMC HB1
    go_wp2_with fail
    go_loopw [9] (fun i wr => ∃ (k : Nat) (ys : List Vol), k ≤ N ∧ i = .int .i64 (k : Int) ∧ Hid (ys.length = n) ∧ Hid (appM L ws = appW (con ys) (ws.drop k) k) ∧ Hid (siz (con ys) = siz L) ∧ Hid (OwnR wr w.heap.size (.slice (some ⟨g, 0, none⟩) n lc) ys) ∧ Hid (Below w.heap.size w wr)) (fun i _ => N - (Go.RowKit.intOf i).toNat)
    case atStart => exact ⟨0, ys, Nat.zero_le _, rfl, HYL, HA, HK, HO, HB2⟩
    case round =>
      clear HYL HA HK HO HB2
      obtain ⟨k, ys, hk, rfl, HYL, HA, HK, HO, HB⟩ := hrel
      obtain ⟨wo, hwo⟩ : ∃ x, x = wr := ⟨_, rfl⟩
      subst hwo
      by_cases hkN : k < N
      · have hkc : (k : Int) < (N : Int) := by omega
        obtain ⟨x, hx⟩ : ∃ x, ws[k]? = some x := ⟨ws[k]'(by rw [HN.out]; exact hkN), List.getElem?_eq_getElem _⟩
        obtain ⟨hxs, hxn, hxv, hx64⟩ := HU.out.1 x (List.mem_of_getElem? hx)
        obtain ⟨b, off, hbA, hbl, hcell⟩ := wri_at HU.out (by rw [HN.out]; omega)
        subst hbA
        have HDR : Hid (ws.drop k = x :: ws.drop (k + 1)) := hid (by
          obtain ⟨hlt, rfl⟩ := List.getElem?_eq_some_iff.1 hx
          exact List.drop_eq_getElem_cons hlt)
        have hrow : ∀ (j : Nat) (z : Value), (cWri x)[j]? = some z → w.cell? ⟨b, off + k * 3 + j, none⟩ = some z := fun j z hz => hcell k _ hx j z hz
        obtain ⟨xv, xs', xd, xl⟩ := x
        dsimp only at hxs hxn hxv hx64
        obtain ⟨dA, dc, rfl⟩ := sec_form hxs
        have HQ : Hid (∀ W, Below w.heap.size w W → W.cell? ⟨b, off + k * 3, none⟩ = some (.int .i64 xv) ∧ W.cell? ⟨b, off + k * 3 + 1, none⟩ = some (.int .i64 xs') ∧ W.cell? ⟨b, off + k * 3 + 2, none⟩ = some (.slice dA xl.length dc)) := hid (fun W hW => ⟨(hW.cell (p := ⟨b, off + k * 3, none⟩) hbl).trans (hrow 0 _ rfl), (hW.cell (p := ⟨b, off + k * 3 + 1, none⟩) hbl).trans (hrow 1 _ rfl), (hW.cell (p := ⟨b, off + k * 3 + 2, none⟩) hbl).trans (hrow 2 _ rfl)⟩)
        have HF := hid (HFI.out wo HB.out xv xs' dA xl.length dc (by have := (sec_len hxs).2; omega) hx64)
        obtain ⟨er, her⟩ : ∃ er, fitE L xv xs' xl.length = er := ⟨_, rfl⟩
        rw [her] at HF
        have HER : Hid (fitE (con ys) xv xs' xl.length = er) := hid (by rw [fitE_congr HK.out, her])
        have HXS := hid hxs
        obtain ⟨m, hm⟩ : ∃ m, xl.length = m := ⟨_, rfl⟩
        have HMM := hid hm
        rw [hm] at HF HQ HER
        obtain ⟨q0, q1, q2⟩ := HQ.out wo HB.out
        clear hx hcell hrow hxs hxn hxv her hm
        go_wp2_with fail
        refine HF.out.mono ?_
        rintro e w4 ⟨rfl, hb4⟩
        have HB4 := hid (HB.out.trans (hb4.mono HB.out.size))
        have HO4 := hid (ownR_below HO.out hb4)
        clear q0 q1 q2 hb4 HO HB HF
        by_cases he : er = 0
        · subst he
          obtain ⟨_, hv0, hvn, hm0, hs0, hsm⟩ := fit_ok HER.out
          obtain ⟨vn, rfl⟩ := Int.eq_ofNat_of_zero_le hv0
          obtain ⟨sn, rfl⟩ := Int.eq_ofNat_of_zero_le hs0
          rw [Int.toNat_natCast] at hsm
          have hvc : vn < (con ys).length := by omega
          have hvN : vn < n := by rw [con_len, HYL.out] at hvc; exact hvc
          have HS1 : Hid (sn + xl.length ≤ ((con ys).getD vn []).length) := hid (by rw [HMM.out]; omega)
          have HVC := hid hvc
          obtain ⟨C, hC⟩ : ∃ C, con ys = C := ⟨_, rfl⟩
          rw [hC] at HS1 HVC HA HER HK
          have HC0 : Hid (con ys = app1 C vn sn (xl.take 0)) := hid (by rw [List.take_zero, app1_nil HVC.out, hC])
          have HS4 : Hid (sn + m ≤ 4096) := hid (by
            have h := HS1.out
            have h2 := (chk_ok (L := C) (by rw [HK.out]; exact HCK.out)).2.2 (C.getD vn []) (by rw [List.getD_eq_getElem?_getD, List.getElem?_eq_getElem HVC.out]; exact List.getElem_mem _)
            rw [HMM.out] at h
            omega)
          clear hC hv0 hvn hs0 hsm hvc
          obtain ⟨q0, q1, q2⟩ := HQ.out w4 HB4.out
          go_wp2_with fail
          clear q0 q1 q2
          go_loopw [11] (fun i wr => ∃ (j : Nat) (ys : List Vol), j ≤ m ∧ i = .int .i64 (j : Int) ∧ Hid (ys.length = n) ∧ Hid (con ys = app1 C vn sn (xl.take j)) ∧ Hid (OwnR wr w.heap.size (.slice (some ⟨g, 0, none⟩) n lc) ys) ∧ Hid (Below w.heap.size w wr)) (fun i _ => m - (Go.RowKit.intOf i).toNat)
          case atStart => exact ⟨0, ys, Nat.zero_le _, rfl, HYL, HC0, HO4, HB4⟩
          case round =>
            clear HYL HC0 HO4 HB4
            obtain ⟨j, ys, hj, rfl, HYL, HCJ, HO, HB⟩ := hrel
            obtain ⟨q0, q1, q2⟩ := HQ.out wr HB.out
            by_cases hjm : j < m
            · obtain ⟨x, hx⟩ : ∃ x, xl[j]? = some x := ⟨xl[j]'(by rw [HMM.out]; exact hjm), List.getElem?_eq_getElem _⟩
              obtain ⟨y, hy⟩ : ∃ y, ys[vn]? = some y := ⟨ys[vn]'(by rw [HYL.out]; exact hvN), List.getElem?_eq_getElem _⟩
              have hyl : (app1 C vn sn (xl.take j))[vn]? = some y.l := by rw [← HCJ.out]; unfold con; rw [List.getElem?_map, hy]; rfl
              have hyl2 := (app1_next HVC.out hx HS1.out hyl).2
              have hsy : sn + m ≤ y.l.length := by rw [hyl2, ← HMM.out]; exact HS1.out
              obtain ⟨hys, hyo⟩ := HO.out.2.1 y (List.mem_of_getElem? hy)
              obtain ⟨yA, yc, hyd⟩ := ownAny_form hyo
              rw [hyd] at hyo
              obtain ⟨yb, rfl⟩ := own_some hyo (by omega)
              have hyo2 : wr.drew.ownsRow w.heap.size 58 8 (.slice (some ⟨yb, 0, none⟩) y.l.length yc) y.l.length (y.l.map cSec).flatten := hyo
              obtain ⟨hyb, hycap, cur, hcur, hcs, hct⟩ := own_at hyo2
              have hx8 := HXS.out.1 x (List.mem_of_getElem? hx)
              have hlF := flat_cells hys
              have hD : ([x].map cSec).flatten = cSec x := by simp
              have hxc : (cSec x).length = 8 := by unfold cSec; rw [List.length_map]; exact hx8.1
              obtain ⟨hfit, hown⟩ := own_splice (o := (sn + j) * 8) (D := ([x].map cSec).flatten) hyo2 hcur (by rw [hD, hxc, hlF]; omega)
              rw [← flat_spl hys (fun t ht => by rw [List.mem_singleton] at ht; subst ht; exact hx8) (by rw [List.length_singleton]; omega)] at hown
              rw [hD] at hfit hown
              have hr := run_storeAt_row (P := Try.prog) wr.drew yb ((sn + j) * 8) 58 58 (cSec x) cur hcur (by rw [hxc]; exact size58') (by rw [hxc] at hfit ⊢; exact hfit) (byteV_one x)
              obtain ⟨W5, hW5⟩ : ∃ W5, wr.drew.setRow yb (cur.toList.take ((sn + j) * 8) ++ cSec x ++ cur.toList.drop ((sn + j) * 8 + (cSec x).length)).toArray = W5 := ⟨_, rfl⟩
              rw [hW5] at hr hown
              have hoth : ∀ i, i ≠ yb → W5.heap[i]? = wr.heap[i]? := fun i hi => by rw [← hW5]; exact setRow_other wr.drew yb i _ hi
              have hB5 : Below w.heap.size w W5 := by rw [← hW5]; exact below_setRow (below_drew HB.out) hyb _
              have hoc := ownR_cell (g := g) (c := lc) (by rw [HYL.out]; exact HO.out) hy
              rw [hyd] at hoc
              have HPD := hid (put_next (W5 := W5) HYL.out HCJ.out HVC.out hx HS1.out HXS.out.1 HO.out hB5 hy hyd hcur (by rw [hyd]; exact hown) hoth)
              have hsec := HXS.out.below HB.out
              obtain ⟨db, doff, hdA, _, hdc⟩ := arr_at1 hsec.2 (by rw [List.length_map, HMM.out]; omega)
              subst hdA
              have hrd : ∀ (i : Nat) (z : Value), (cSec x)[i]? = some z → wr.cell? ⟨db, doff + j * 8 + i, none⟩ = some z := fun i z hz => hdc j _ (by rw [List.getElem?_map, hx]; rfl) i z hz
              obtain ⟨x0, x1, x2, x3, x4, x5, x6, x7, rfl⟩ := list8 hx8.1
              have p0 : wr.cell? ⟨db, doff + j * 8, none⟩ = some (.int .u8 (x0 : Int)) := hrd 0 _ rfl
              have p1 : wr.cell? ⟨db, doff + j * 8 + 1, none⟩ = some (.int .u8 (x1 : Int)) := hrd 1 _ rfl
              have p2 : wr.cell? ⟨db, doff + j * 8 + 2, none⟩ = some (.int .u8 (x2 : Int)) := hrd 2 _ rfl
              have p3 : wr.cell? ⟨db, doff + j * 8 + 3, none⟩ = some (.int .u8 (x3 : Int)) := hrd 3 _ rfl
              have p4 : wr.cell? ⟨db, doff + j * 8 + 4, none⟩ = some (.int .u8 (x4 : Int)) := hrd 4 _ rfl
              have p5 : wr.cell? ⟨db, doff + j * 8 + 5, none⟩ = some (.int .u8 (x5 : Int)) := hrd 5 _ rfl
              have p6 : wr.cell? ⟨db, doff + j * 8 + 6, none⟩ = some (.int .u8 (x6 : Int)) := hrd 6 _ rfl
              have p7 : wr.cell? ⟨db, doff + j * 8 + 7, none⟩ = some (.int .u8 (x7 : Int)) := hrd 7 _ rfl
              obtain ⟨yn, hyn⟩ : ∃ yn, y.l.length = yn := ⟨_, rfl⟩
              rw [hyn] at hoc hsy hycap
              have HR : Hid ((Instr.storeAt 58 (.pointer (some ⟨yb, (sn + j) * 8, none⟩)) (.agg #[.int .u8 (x0 : Int), .int .u8 (x1 : Int), .int .u8 (x2 : Int), .int .u8 (x3 : Int), .int .u8 (x4 : Int), .int .u8 (x5 : Int), .int .u8 (x6 : Int), .int .u8 (x7 : Int)])).run Try.prog wr.drew = .ok () W5) := hid hr
              have hjc : (j : Int) < (m : Int) := by omega
              have hs4 := HS4.out
              have hwr : IntKind.i64.wrap ((sn : Int) + (j : Int)) = ((sn + j : Nat) : Int) := by unfold IntKind.wrap; simp [IntKind.bits, IntKind.signed]; omega
              have hsj : sn + j < yn := by omega
              have hvcc : (vn : Int) < (n : Int) := by omega
              obtain ⟨sj, hsjj⟩ : ∃ sj, sn + j = sj := ⟨_, rfl⟩
              rw [hsjj] at hwr hsj HR
              clear hx hy hyl hyl2 hsy hys hyo hyd hyo2 hyb hycap hcur hcs hct hx8 hlF hD hxc hfit hown hr hW5 hoth hB5 hsec hdc hrd hyn
              go_wp2_with fail
              go_still_tail 24, (by kernel_rfl)
              refine wpList_store_run rfl 58 (.tmp 68) (.tmp 67) rfl _ _ (by simp [Act.eval]) (by simp [Act.eval]) HR.out ?_
              obtain ⟨ys', h1, h2, h3, h4⟩ := HPD.out
              have H1 := hid h1
              have H2 := hid h2
              have H3 := hid h3
              have H4 := hid h4
              clear h1 h2 h3 h4 HPD HR p0 p1 p2 p3 p4 p5 p6 p7 q0 q1 q2 hoc
              go_wp2
              go_roundw
              case rel => exact ⟨j + 1, ys', by omega, by go_num, H1, H2, H3, H4⟩
              case measure => simp [Go.RowKit.intOf]; omega
            · obtain rfl : j = m := by omega
              have HC2 : Hid (con ys = app1 C vn sn xl) := hid (by rw [HCJ.out, List.take_of_length_le (by rw [HMM.out]; exact Nat.le_refl _)])
              have HA2 : Hid (appM L ws = appW (con ys) (ws.drop (k + 1)) (k + 1)) := hid (by
                rw [HA.out, HDR.out, appW, if_neg (by dsimp only; rw [HMM.out, HER.out]; exact fun h => h rfl), HC2.out]
                dsimp only
                rw [Int.toNat_natCast, Int.toNat_natCast])
              have HK2 : Hid (siz (con ys) = siz L) := hid (by rw [HC2.out, siz_app1 HS1.out, HK.out])
              clear HCJ HA HK HDR HER HC2
              go_wp2
              go_roundw
              case rel => exact ⟨k + 1, ys, by omega, by go_num, HYL, HA2, HK2, HO, HB⟩
              case measure => simp [Go.RowKit.intOf]; omega
        · have d1 : (er != 0) = true := by simpa using he
          have HE : Hid (appM L ws = .error (k, er)) := hid (by rw [HA.out, HDR.out, appW, if_pos (by dsimp only; rw [HMM.out, HER.out]; exact he)]; dsimp only; rw [HMM.out, HER.out])
          have H0 := hid he
          clear he
          go_wp2
          refine bodyPost_ret (v := .tuple #[.slice none 0 0, .int .i64 (k : Int), .int .i64 er]) (by simp [results, Try.results24, go_sem]) rfl ?_
          exact ⟨HB4.out, .inr ⟨k, er, HE.out, H0.out, rfl⟩⟩
      · obtain rfl : k = N := by omega
        have HE : Hid (appM L ws = .ok (con ys)) := hid (by rw [HA.out, List.drop_of_length_le (by rw [HN.out]; exact Nat.le_refl _)]; rfl)
        go_wp2
        refine bodyPost_ret (v := .tuple #[.slice (some ⟨g, 0, none⟩) n lc, .int .i64 0, .int .i64 0]) (by simp [results, Try.results24, go_sem]) rfl ?_
        exact ⟨HB.out, .inl ⟨con ys, _, ys, HE.out, rfl, rfl, HO.out⟩⟩
  · have d1 : (ck != 0) = true := by simpa using h0
    have HE : Hid (appM L ws = .error (0, ck)) := hid (by unfold appM; rw [hck, if_pos h0])
    have H0 := hid h0
    clear h0 HM hck
    go_enter Try.func24, Try.ntmps24
    go_wp2_with fail
    refine HC.out.mono ?_
    rintro e w1 ⟨rfl, hb1⟩
    have HB1 := hid hb1
    clear hb1
    go_wp2
    refine bodyPost_ret (v := .tuple #[.slice none 0 0, .int .i64 0, .int .i64 ck]) (by simp [results, Try.results24, go_sem]) rfl ?_
    exact ⟨HB1.out, .inr ⟨0, ck, HE.out, H0.out, rfl⟩⟩
end Go.Proofs.Ytbcnikmhodkbfaa
