/- run: the walk. -/
import Derived.Test.YtacpejoablcffaaTa
namespace Go.Proofs.Ytacpejoablcffaa
open Go.RowKit Go.Lib

/-- What a run gives. -/
def RunQ (w : World) (r : Rn) (e : Ending) (w' : World) : Prop := ∃ v tv iv kv, e = .returned (.tuple #[v, tv, iv, kv, .bool true]) ∧ OwnL w' w.heap.size r.s r.l v ∧ Th w' w.heap.size tv iv kv r.ts r.ids r.cps ∧ Below w.heap.size w w'
theorem own_low {w : World} {B B' E st n : Nat} {v : Value} {xs : List Value} (h : w.ownsRow B E st v n xs) (hb : ∀ q, v.ownBlock = some q → B' ≤ q) : w.ownsRow B' E st v n xs := by
  refine ⟨h.1, ?_⟩
  rcases h.2 with h0 | ⟨k, cap, cur, e, hk, hgb, h2⟩
  · exact .inl h0
  · exact .inr ⟨k, cap, cur, e, hb k (by rw [e]; rfl), hgb, h2⟩
theorem results_v4 {fn : Func} {p u u2 u3 u4 : Tmp} {ty : TypeId} (h : fn.results = #[.cell p ty, .tmp u, .tmp u2, .tmp u3, .tmp u4]) (tmps : Array Value) (w : World) (g : Nat) (v : Value)
    (hp : tmps.getD p undef = .pointer (some ⟨g, 0, none⟩)) (hlv : (loadVar ty ⟨g, 0, none⟩).run Try.prog w = .ok v w) (z : Value) (hz : tmps.getD u undef = z) (z2 : Value) (hz2 : tmps.getD u2 undef = z2) (z3 : Value) (hz3 : tmps.getD u3 undef = z3) (z4 : Value) (hz4 : tmps.getD u4 undef = z4) :
    (results fn tmps).run Try.prog w = .ok (.tuple #[v, z, z2, z3, z4]) w := by
  have hp' : tmps[p]?.getD undef = .pointer (some ⟨g, 0, none⟩) := by simpa using hp
  have hz' : tmps[u]?.getD undef = z := by simpa using hz
  have hz2' : tmps[u2]?.getD undef = z2 := by simpa using hz2
  have hz3' : tmps[u3]?.getD undef = z3 := by simpa using hz3
  have hz4' : tmps[u4]?.getD undef = z4 := by simpa using hz4
  simp [results, h, hp', hz', hz2', hz3', hz4', asAddr, hlv]
set_option maxHeartbeats 8000000 in
set_option maxRecDepth 100000 in
theorem run_any (mn mx rt : Int) (sts : List (Nat × Nat)) (sv : Value) (ch : List Int) (cv : Value) (w : World) (hs : Sts w sv sts) (hc : Ints w cv ch) (h0 : 0 ≤ mn) (h1 : mn ≤ mx) (h2 : mx ≤ 100) (h3 : 0 ≤ rt) (h4 : rt ≤ 100) (hn : sts.length ≤ 20) (hcl : ch.length ≤ 100) :
    Calls Try.prog 31 #[.agg #[.int .i64 mn, .int .i64 mx, .int .i64 rt, sv, cv]] w (RunQ w (runK mn mx rt ch sts sts.length)) := by
  have HINV := hid (runK_inv mn mx rt ch sts h0 h1 h2 h3 h4 hn)
  have H0 := hid (And.intro h0 (And.intro h1 (And.intro h2 h3)))
  have HST := hid (fun (k : Nat) (r : Rn) (hk : InvR mn mx rt ch k r) (hl : k < 20) (st : Nat × Nat) => (inv_step hk h0 h1 h2 h3 hl st).2)
  obtain ⟨A, c, rfl⟩ := sts_form hs
  obtain ⟨B, c2, rfl⟩ := ints_form hc
  obtain ⟨N, hN⟩ : ∃ N, sts.length = N := ⟨_, rfl⟩
  obtain ⟨C, hC⟩ : ∃ C, ch.length = C := ⟨_, rfl⟩
  rw [hN] at hs hn HINV ⊢
  rw [hC] at hc hcl ⊢
  obtain ⟨g, hg⟩ : ∃ g, w.heap.size = g := ⟨_, rfl⟩
  obtain ⟨W1, hW1⟩ : ∃ X, (w.alloc (.cells #[.int .i64 mn, .int .i64 mx, .int .i64 rt, .slice A N c, .slice B C c2] 58)).alloc (.cells #[.int .i64 0, .int .i64 0, .int .i64 0, .bool false, .int .i64 0, .int .i64 0, .slice none 0 0] 26) = X := ⟨_, rfl⟩
  have hb1 : Below w.heap.size w W1 := by rw [← hW1]; exact ((Below.refl _ w).alloc (Nat.le_refl _) _).alloc (by simp) _
  have hx1 : W1.heap[g]? = some (.cells #[.int .i64 mn, .int .i64 mx, .int .i64 rt, .slice A N c, .slice B C c2] 58) := by rw [← hW1, ← hg]; exact (Below.heap_alloc _ _ _ (by simp)).trans (heap_alloc_new w _)
  have hy1 : W1.heap[g + 1]? = some (.cells #[.int .i64 0, .int .i64 0, .int .i64 0, .bool false, .int .i64 0, .int .i64 0, .slice none 0 0] 26) := by rw [← hW1, ← hg]; simpa using heap_alloc_new (w.alloc (.cells #[.int .i64 mn, .int .i64 mx, .int .i64 rt, .slice A N c, .slice B C c2] 58)) (.cells #[.int .i64 0, .int .i64 0, .int .i64 0, .bool false, .int .i64 0, .int .i64 0, .slice none 0 0] 26)
  have HNW := hid (new_any mn mx rt W1)
  have hcb : cfgB mn mx rt = true := by unfold cfgB; exact decide_eq_true (by omega)
  have HCB := hid hcb
  have HS := hid hs
  have HC := hid hc
  have HN := hid hN
  have HCC := hid hC
  have HB1 := hid hb1
  have HX1 := hid hx1
  have HY1 := hid hy1
  have HW1 := hid hW1
  have HG := hid hg
  have x0 := cell_of_row _ _ 0 _ _ _ hx1
  have x1 := cell_of_row _ _ 1 _ _ _ hx1
  have x2 := cell_of_row _ _ 2 _ _ _ hx1
  have hz1 : W1.heap.size = g + 2 := by rw [← hW1, ← hg]; simp
  clear hs hc hN hC hb1 hx1 hy1 hW1 hg hcb h0 h1 h2 h3 h4
  go_enter Try.func31, Try.ntmps31
  go_wp2_with fail
  rw [HW1.out, HG.out]
  refine HNW.out.mono ?_
  rintro e w2 ⟨hb2, ⟨_, rfl⟩ | ⟨h, _⟩⟩
  rotate_left
  · rw [HCB.out] at h; cases h
  have hy2 := (hb2.block _ (box_lt HY1.out)).trans HY1.out
  have hx2 := (hb2.block _ (box_lt HX1.out)).trans HX1.out
  unfold vLk
  dsimp only
  obtain ⟨W3, hW3⟩ : ∃ X, (((((((w2.setCell ⟨g + 1, 0, none⟩ (.int .i64 mn)).setCell ⟨g + 1, 1, none⟩ (.int .i64 mx)).setCell ⟨g + 1, 2, none⟩ (.int .i64 rt)).setCell ⟨g + 1, 3, none⟩ (.bool false)).setCell ⟨g + 1, 4, none⟩ (.int .i64 0)).setCell ⟨g + 1, 5, none⟩ (.int .i64 0)).setCell ⟨g + 1, 6, none⟩ (.slice none 0 0)) = X := ⟨_, rfl⟩
  have HY3 : Hid (W3.heap[g + 1]? = some (.cells #[.int .i64 mn, .int .i64 mx, .int .i64 rt, .bool false, .int .i64 0, .int .i64 0, .slice none 0 0] 26)) := hid (by rw [← hW3]; exact set7h _ _ _ _ _ _ _ hy2)
  have HX3 := hid (show W3.heap[g]? = some (.cells #[.int .i64 mn, .int .i64 mx, .int .i64 rt, .slice A N c, .slice B C c2] 58) by rw [← hW3]; exact (set7o _ _ _ _ _ _ _ (by omega)).trans hx2)
  have HB3 : Hid (Below w.heap.size w W3) := hid (by rw [← hW3]; exact set7b _ _ _ _ _ _ _ (HB1.out.trans (hb2.mono HB1.out.size)) (by rw [HG.out]; omega))
  have HW3 := hid hW3
  have hz2 : g + 2 ≤ w2.heap.size := by rw [← hz1]; exact hb2.size
  clear x0 x1 x2 hz1
  have y0 := cell_of_row _ _ 0 _ _ _ hy2
  have fy0 := box_fr hy2 0
  have y1 := cell_of_row _ _ 1 _ _ _ hy2
  have fy1 := box_fr hy2 1
  have y2 := cell_of_row _ _ 2 _ _ _ hy2
  have fy2 := box_fr hy2 2
  have y3 := cell_of_row _ _ 3 _ _ _ hy2
  have fy3 := box_fr hy2 3
  have y4 := cell_of_row _ _ 4 _ _ _ hy2
  have fy4 := box_fr hy2 4
  have y5 := cell_of_row _ _ 5 _ _ _ hy2
  have fy5 := box_fr hy2 5
  have y6 := cell_of_row _ _ 6 _ _ _ hy2
  have fy6 := box_fr hy2 6
  clear hW3 hb2 hx2 hy2 HNW
  go_upto_region 4 with fail
  rw [HW3.out]
  clear y0 y1 y2 y3 y4 y5 y6 fy0 fy1 fy2 fy3 fy4 fy5 fy6
  have x4 := cell_of_row _ _ 4 _ _ _ HX3.out
  go_quiet (fail)
  have HY4 : Hid ((W3.drewN nq).heap[g + 1]? = _) := hid HY3.out
  have HX4 : Hid ((W3.drewN nq).heap[g]? = _) := hid HX3.out
  have HB4 := hid (below_both_drewN HB3.out nq)
  clear x4 HX3 HY3 HB3
  go_wp2_with fail
  go_loopw [10, 8, 9, 3, 4, 5] (fun i nw rv tv iv kv wr => ∃ (k : Nat) (r : Rn) (fv : Value) (vs : List Fl), k ≤ N ∧ i = .int .i64 (k : Int) ∧ nw = .int .i64 r.now ∧ Hid (runK mn mx rt ch sts k = r) ∧ Hid (Ints wr rv r.rest) ∧ Hid (wr.heap[g]? = some (.cells #[.int .i64 mn, .int .i64 mx, .int .i64 rt, .slice A N c, .slice B C c2] 58)) ∧ Hid (wr.heap[g + 1]? = some (.cells #[.int .i64 r.s.mn, .int .i64 r.s.mx, .int .i64 r.s.rt, .bool r.s.dn, .int .i64 r.s.idle, .int .i64 r.s.next, fv] 26)) ∧ Hid (wr.ownsRow g 69 3 fv vs.length (vs.map cFl).flatten) ∧ Hid (vs.map core = r.l) ∧ Hid (∀ x ∈ vs, Pay wr x) ∧ Hid (Th wr g tv iv kv r.ts r.ids r.cps) ∧ Hid (Below w.heap.size w wr)) (fun i _ _ _ _ _ _ => N - (Lib.intOf i).toNat)
  case atStart => exact ⟨0, run0 mn mx rt ch, .slice none 0 0, [], Nat.zero_le _, rfl, rfl, hid rfl, hid (HC.out.below HB4.out), HX4, HY4, hid (World.ownsRow_nil _ _ _ _), hid rfl, hid (fun x hx => by cases hx), hid ⟨World.ownsRow_nil _ _ _ _, World.ownsRow_nil _ _ _ _, World.ownsRow_nil _ _ _ _, fun k hk => (by cases hk), fun k hk => (by cases hk), fun k hk => (by cases hk)⟩, HB4⟩
  case round =>
    obtain ⟨k, r, fv, vs, hk, rfl, rfl, HR, HRV, HX, HY, HO, HV, HP, HT, HB⟩ := hrel
    obtain ⟨fA, fc, rfl⟩ := own_form69 HO.out
    have HI := hid (HINV.out k hk)
    rw [HR.out] at HI
    have x3 := cell_of_row _ _ 3 _ _ _ HX.out
    clear HX4 HY4 HB4
    by_cases hkn : k < N
    · have hkn' : (k : Int) < (N : Int) := by omega
      have dk : decide ((k : Int) < (N : Int)) = true := decide_eq_true hkn'
      have dk' : decide (k < N) = true := decide_eq_true hkn
      obtain ⟨sb, so, rfl, hsb, hsc⟩ := sts_cells (HS.out.below HB.out) (by rw [HN.out]; omega)
      obtain ⟨st, hst⟩ : ∃ st, sts[k]? = some st := ⟨sts[k]'(by rw [HN.out]; exact hkn), List.getElem?_eq_getElem _⟩
      obtain ⟨q0, q1⟩ := hsc k st hst
      have hsr := HS.out.1 st (List.mem_of_getElem? hst)
      have HSTK := hid (runK_succ (mn := mn) (mx := mx) (rt := rt) (ch := ch) hst)
      obtain ⟨sz, wt⟩ := st
      dsimp only at q0 q1 hsr
      have HSO := hid (HST.out k r HI.out (by omega) (sz, wt))
      have hnw0 := HI.out.now0
      have hnw1 := HI.out.now1
      obtain ⟨u, hu⟩ : ∃ u, wt % 20 = u := ⟨_, rfl⟩
      have e1 : ((wt : Int) % 20) = (u : Int) := by omega
      obtain ⟨nw2, hnw2⟩ : ∃ x, rnow r (sz, wt) = x := ⟨_, rfl⟩
      have e2 : IntKind.i64.wrap (r.now + (u : Int)) = nw2 := by rw [← hnw2, IntKind.wrap_i64]; unfold rnow; dsimp only; rw [hu]; omega
      have HNW2 := hid hnw2
      rw [hnw2] at HSO
      have hrl : r.rest.length ≤ 100 := by have h1 := HI.out.rest1; have h2 := HCC.out; omega
      have HDC := hid (rdecide_any r.rest _ 3 wr HRV.out (by omega) (by decide) (by decide))
      obtain ⟨rA, rc, rfl⟩ := ints_form HRV.out
      clear hsc hst hu hnw2 hnw0 hnw1
      go_wp2_with fail
      refine HDC.out.mono ?_
      rintro e w5 ⟨v5, rfl, ho5, hb5⟩
      obtain ⟨dA, dc, rfl⟩ := own_formE ho5
      have HX5 := hid ((hb5.block _ (box_lt HX.out)).trans HX.out)
      have HY5 := hid ((hb5.block _ (box_lt HY.out)).trans HY.out)
      have HO5 := hid (own_keep HO.out (keep_below hb5))
      have HP5 := hid (fun x hx => (HP.out x hx).keep (keep_below hb5))
      have HT5 := hid (HT.out.keep (keep_below hb5))
      have HRV5 := hid (HRV.out.below hb5)
      have HB5 := hid (HB.out.trans (hb5.mono HB.out.size))
      have q0 := (hb5.cell (p := ⟨sb, so + k * 2, none⟩) hsb).trans q0
      have q1 := (hb5.cell (p := ⟨sb, so + k * 2 + 1, none⟩) hsb).trans q1
      have hsb5 : sb < w5.heap.size := Nat.lt_of_lt_of_le hsb hb5.size
      have hgw := box_lt HX5.out
      have hyw := box_lt HY5.out
      obtain ⟨r2, hr2⟩ : ∃ x, step1 r k (sz, wt) = x := ⟨_, rfl⟩
      have HR2 := hid hr2
      rw [hr2] at HSO

      clear ho5 hb5 HDC x3 hr2 hsb
      go_upto_region 10 with fail
      have y0 := cell_of_row _ _ 0 _ _ _ HY5.out
      have y1 := cell_of_row _ _ 1 _ _ _ HY5.out
      have y2 := cell_of_row _ _ 2 _ _ _ HY5.out
      have y3 := cell_of_row _ _ 3 _ _ _ HY5.out
      have y4 := cell_of_row _ _ 4 _ _ _ HY5.out
      have y5 := cell_of_row _ _ 5 _ _ _ HY5.out
      have y6 := cell_of_row _ _ 6 _ _ _ HY5.out
      have x3 := cell_of_row _ _ 3 _ _ _ HX5.out
      have HSS : Hid (∀ X, Below w5.heap.size w5 X → X.cell? ⟨g + 1, 0, none⟩ = some (.int .i64 r.s.mn) ∧ X.cell? ⟨g + 1, 1, none⟩ = some (.int .i64 r.s.mx) ∧ X.cell? ⟨g + 1, 2, none⟩ = some (.int .i64 r.s.rt) ∧ X.cell? ⟨g + 1, 3, none⟩ = some (.bool r.s.dn) ∧ X.cell? ⟨g + 1, 4, none⟩ = some (.int .i64 r.s.idle) ∧ X.cell? ⟨g + 1, 5, none⟩ = some (.int .i64 r.s.next) ∧ X.cell? ⟨g + 1, 6, none⟩ = some (.slice fA vs.length fc) ∧ X.cell? ⟨g, 3, none⟩ = some (.slice (some ⟨sb, so, none⟩) N c) ∧ X.cell? ⟨sb, so + k * 2, none⟩ = some (.int .u8 (sz : Int)) ∧ X.cell? ⟨sb, so + k * 2 + 1, none⟩ = some (.int .u8 (wt : Int))) := hid (fun X hX => ⟨(hX.cell (p := ⟨g + 1, 0, none⟩) hyw).trans y0, (hX.cell (p := ⟨g + 1, 1, none⟩) hyw).trans y1, (hX.cell (p := ⟨g + 1, 2, none⟩) hyw).trans y2, (hX.cell (p := ⟨g + 1, 3, none⟩) hyw).trans y3, (hX.cell (p := ⟨g + 1, 4, none⟩) hyw).trans y4, (hX.cell (p := ⟨g + 1, 5, none⟩) hyw).trans y5, (hX.cell (p := ⟨g + 1, 6, none⟩) hyw).trans y6, (hX.cell (p := ⟨g, 3, none⟩) hgw).trans x3, (hX.cell (p := ⟨sb, so + k * 2, none⟩) hsb5).trans q0, (hX.cell (p := ⟨sb, so + k * 2 + 1, none⟩) hsb5).trans q1⟩)
      have HBD : Hid (Below w5.heap.size w5 w5.drew) := hid (Below.refl _ _).drew
      have hHeld := HSS.out _ HBD.out
      have HPC := hid (fun X => payload_any sz wt k X (by omega) (by omega))
      have HSD := hid (fun (X : World) (pv : Value) (hX : Below w5.heap.size w5 X) (hp : Byt X pv (pay sz k)) (hpn : NilOk pv) => send_any r.s vs (.slice fA vs.length fc) nw2 (pay sz k) pv r.rest _ X ((fl_of_own HO5.out rfl HP5.out).below hX) (fun x hx => by
        have h1 := (HI.out.ok.fld (core x) (by rw [← HV.out]; exact List.mem_map_of_mem hx))
        have h2 := HI.out.ok.next
        unfold R64
        have : (core x).2.1 = x.n := rfl
        omega) hp hpn (HRV5.out.below hX) (by omega))
      rw [HV.out, HSO.out] at HSD
      have hk256 : k < 256 := by omega
      clear y0 y1 y2 y3 y4 y5 y6 x3 q0 q1
      go_cut [13, 14, 15] from 50 to 64 (fun s13 s14 s15 wx => ∃ (m : Nat) (fv2 : Value) (vs2 : List Fl), s13 = .pointer (some ⟨m, 0, none⟩) ∧ s15 = .int .i64 0 ∧ Hid (wx.ownsRow w5.heap.size 3 1 s14 r2.rest.length (r2.rest.map intV)) ∧ Hid (wx.heap[m]? = some (.cells #[.int .i64 r2.s.mn, .int .i64 r2.s.mx, .int .i64 r2.s.rt, .bool r2.s.dn, .int .i64 r2.s.idle, .int .i64 r2.s.next, fv2] 26)) ∧ Hid (wx.ownsRow g 69 3 fv2 vs2.length (vs2.map cFl).flatten) ∧ Hid (vs2.map core = r2.l) ∧ Hid (∀ x ∈ vs2, Pay wx x) ∧ Hid (Below w5.heap.size w5 wx) ∧ Hid (w5.heap.size ≤ m))
      case first =>
        refine region_tail 18 (fun X => X.cell? ⟨g + 1, 0, none⟩ = some (.int .i64 r.s.mn) ∧ X.cell? ⟨g + 1, 1, none⟩ = some (.int .i64 r.s.mx) ∧ X.cell? ⟨g + 1, 2, none⟩ = some (.int .i64 r.s.rt) ∧ X.cell? ⟨g + 1, 3, none⟩ = some (.bool r.s.dn) ∧ X.cell? ⟨g + 1, 4, none⟩ = some (.int .i64 r.s.idle) ∧ X.cell? ⟨g + 1, 5, none⟩ = some (.int .i64 r.s.next) ∧ X.cell? ⟨g + 1, 6, none⟩ = some (.slice fA vs.length fc) ∧ X.cell? ⟨g, 3, none⟩ = some (.slice (some ⟨sb, so, none⟩) N c) ∧ X.cell? ⟨sb, so + k * 2, none⟩ = some (.int .u8 (sz : Int)) ∧ X.cell? ⟨sb, so + k * 2 + 1, none⟩ = some (.int .u8 (wt : Int))) (by kernel_rfl) ?_
        refine' wpAnyT_take (i := 0) (oi := ?oio1) (v := ?vo1) ?hio1 (by kernel_rfl) (by kernel_rfl) ?hqo1 ?hyo1 hHeld ?resto1
        case hio1 => (simp only [List.getElem?_toArray, List.getElem?_cons_zero]; rfl)
        case hqo1 => exact fun _ _ _ h => h
        case hyo1 => (refine Or.inl ⟨by rfl, ?_⟩; intro w' hSw; (try dsimp only at hSw); go_simp; try with_reducible rfl)
        (try simp only [Act.put, List.setIfInBounds_toArray, List.set_cons_zero, List.set_cons_succ])
        refine' wpAnyT_take (i := 1) (oi := ?oio2) (v := ?vo2) ?hio2 (by kernel_rfl) (by kernel_rfl) ?hqo2 ?hyo2 hHeld ?resto2
        case hio2 => (simp only [List.getElem?_toArray, List.getElem?_cons_zero, List.getElem?_cons_succ]; rfl)
        case hqo2 => exact fun _ _ _ h => h
        case hyo2 => (refine Or.inl ⟨by rfl, ?_⟩; intro w' hSw; (try dsimp only at hSw); go_simp; try with_reducible rfl)
        (try simp only [Act.put, List.setIfInBounds_toArray, List.set_cons_zero, List.set_cons_succ])
        refine' wpAnyT_take (i := 2) (oi := ?oio3) (v := ?vo3) ?hio3 (by kernel_rfl) (by kernel_rfl) ?hqo3 ?hyo3 hHeld ?resto3
        case hio3 => (simp only [List.getElem?_toArray, List.getElem?_cons_zero, List.getElem?_cons_succ]; rfl)
        case hqo3 => exact fun _ _ _ h => h
        case hyo3 => (refine Or.inl ⟨by rfl, ?_⟩; intro w' hSw; (try dsimp only at hSw); go_simp; try with_reducible rfl)
        (try simp only [Act.put, List.setIfInBounds_toArray, List.set_cons_zero, List.set_cons_succ])
        refine' wpAnyT_take (i := 3) (oi := ?oio4) (v := ?vo4) ?hio4 (by kernel_rfl) (by kernel_rfl) ?hqo4 ?hyo4 hHeld ?resto4
        case hio4 => (simp only [List.getElem?_toArray, List.getElem?_cons_zero, List.getElem?_cons_succ]; rfl)
        case hqo4 => exact fun _ _ _ h => h
        case hyo4 => (refine Or.inl ⟨by rfl, ?_⟩; intro w' hSw; (try dsimp only at hSw); go_simp; try with_reducible rfl)
        (try simp only [Act.put, List.setIfInBounds_toArray, List.set_cons_zero, List.set_cons_succ])
        refine' wpAnyT_take (i := 4) (oi := ?oio5) (v := ?vo5) ?hio5 (by kernel_rfl) (by kernel_rfl) ?hqo5 ?hyo5 hHeld ?resto5
        case hio5 => (simp only [List.getElem?_toArray, List.getElem?_cons_zero, List.getElem?_cons_succ]; rfl)
        case hqo5 => exact fun _ _ _ h => h
        case hyo5 => (refine Or.inl ⟨by rfl, ?_⟩; intro w' hSw; (try dsimp only at hSw); go_simp; try with_reducible rfl)
        (try simp only [Act.put, List.setIfInBounds_toArray, List.set_cons_zero, List.set_cons_succ])
        refine' wpAnyT_take (i := 5) (oi := ?oio6) (v := ?vo6) ?hio6 (by kernel_rfl) (by kernel_rfl) ?hqo6 ?hyo6 hHeld ?resto6
        case hio6 => (simp only [List.getElem?_toArray, List.getElem?_cons_zero, List.getElem?_cons_succ]; rfl)
        case hqo6 => exact fun _ _ _ h => h
        case hyo6 => (refine Or.inl ⟨by rfl, ?_⟩; intro w' hSw; (try dsimp only at hSw); go_simp; try with_reducible rfl)
        (try simp only [Act.put, List.setIfInBounds_toArray, List.set_cons_zero, List.set_cons_succ])
        refine' wpAnyT_take (i := 6) (oi := ?oio7) (v := ?vo7) ?hio7 (by kernel_rfl) (by kernel_rfl) ?hqo7 ?hyo7 hHeld ?resto7
        case hio7 => (simp only [List.getElem?_toArray, List.getElem?_cons_zero, List.getElem?_cons_succ]; rfl)
        case hqo7 => exact fun _ _ _ h => h
        case hyo7 => (refine Or.inl ⟨by rfl, ?_⟩; intro w' hSw; (try dsimp only at hSw); go_simp; try with_reducible rfl)
        (try simp only [Act.put, List.setIfInBounds_toArray, List.set_cons_zero, List.set_cons_succ])
        refine' wpAnyT_take (i := 7) (oi := ?oio8) (v := ?vo8) ?hio8 (by kernel_rfl) (by kernel_rfl) ?hqo8 ?hyo8 hHeld ?resto8
        case hio8 => (simp only [List.getElem?_toArray, List.getElem?_cons_zero, List.getElem?_cons_succ]; rfl)
        case hqo8 => exact fun _ _ _ h => h
        case hyo8 => (refine Or.inl ⟨by rfl, ?_⟩; intro w' hSw; (try dsimp only at hSw); go_simp; try with_reducible rfl)
        (try simp only [Act.put, List.setIfInBounds_toArray, List.set_cons_zero, List.set_cons_succ])
        refine' wpAnyT_take (i := 9) (oi := ?oio9) (v := ?vo9) ?hio9 (by kernel_rfl) (by kernel_rfl) ?hqo9 ?hyo9 hHeld ?resto9
        case hio9 => (simp only [List.getElem?_toArray, List.getElem?_cons_zero, List.getElem?_cons_succ]; rfl)
        case hqo9 => exact fun _ _ _ h => h
        case hyo9 => (refine Or.inl ⟨by rfl, ?_⟩; intro w' hSw; (try dsimp only at hSw); go_simp; try with_reducible rfl)
        (try simp only [Act.put, List.setIfInBounds_toArray, List.set_cons_zero, List.set_cons_succ])
        refine wpAnyT_all (l := [8, 15]) (by kernel_rfl) (by decide) ?_
        intro i hi
        simp only [List.mem_cons, List.not_mem_nil, or_false] at hi
        rcases hi with rfl | rfl
        · refine ⟨_, by (simp only [List.getElem?_toArray, List.getElem?_cons_zero, List.getElem?_cons_succ]; rfl), fun KK hKK => ?_⟩
          go_simp
          go_at_call 32
          refine (HPC.out w5.drew).mono ?_
          rintro e w8 ⟨pv, rfl, hpo, hbx⟩
          obtain ⟨pA, pc, rfl⟩ := own_form hpo
          obtain ⟨pl, hpl⟩ : ∃ x, (pay sz k).length = x := ⟨_, rfl⟩
          rw [hpl] at hpo ⊢
          have HPO_8 := hid hpo
          have HPL := hid hpl
          have HB8 := hid (HBD.out.trans (hbx.mono HBD.out.size))
          have hHeld := HSS.out _ HB8.out
          clear hpo hbx hpl
          refine hKK.out _ _ (fun _ => hHeld) ?_
          clear hKK KK
          (try simp only [Act.put, List.setIfInBounds_toArray, List.set_cons_zero, List.set_cons_succ])
          refine wpAnyT_all (l := [10, 15]) (by kernel_rfl) (by decide) ?_
          intro i hi
          simp only [List.mem_cons, List.not_mem_nil, or_false] at hi
          rcases hi with rfl | rfl
          · refine ⟨_, by (simp only [List.getElem?_toArray, List.getElem?_cons_zero, List.getElem?_cons_succ]; rfl), fun KK hKK => ?_⟩
            go_simp
            go_at_call 18
            have hby : Byt w8 (.slice pA pl pc) (pay sz k) := by
              have h := HPO_8.out
              rw [← HPL.out] at h ⊢
              exact byt_of_own h (pay_b8 sz k hk256)
            refine (HSD.out w8 (.slice pA pl pc) HB8.out hby (own_nilOk HPO_8.out)).mono ?_
            clear hby
            rintro e w810 hse
            obtain ⟨fv2, cv2, vs2, rfl, hfo, hfc, hfp, hfi, hbx⟩ := send_ok hse rfl
            obtain ⟨fA2, fc2, rfl⟩ := own_form69 hfo
            obtain ⟨iA2, ic2, rfl⟩ := own_formE hfi
            have HFO_810 := hid (own_base hfo (Nat.zero_le _))
            have HFP_810 := hid hfp
            have HFI_810 := hid (own_base hfi HB8.out.size)
            have HFC := hid hfc
            have HGB : Hid (∀ q, (Value.slice fA2 vs2.length fc2).ownBlock = some q → g ≤ q) := hid (fun q e => by have h1 := (hfo.lt q e).1; have h2 := HB8.out.size; omega)
            have HB810 := hid (HB8.out.trans (hbx.mono HB8.out.size))
            have hHeld := HSS.out _ HB810.out
            unfold vLk
            dsimp only
            clear hse hfo hfc hfp hfi hbx
            refine hKK.out _ _ (fun _ => hHeld) ?_
            clear hKK KK
            (try simp only [Act.put, List.setIfInBounds_toArray, List.set_cons_zero, List.set_cons_succ])
            refine' wpAnyT_take (i := 11) (oi := ?oio10) (v := ?vo10) ?hio10 (by kernel_rfl) (by kernel_rfl) ?hqo10 ?hyo10 hHeld ?resto10
            case hio10 => (simp only [List.getElem?_toArray, List.getElem?_cons_zero, List.getElem?_cons_succ]; rfl)
            case hqo10 => exact fun _ _ _ h => h
            case hyo10 => (refine Or.inl ⟨by rfl, ?_⟩; intro w' hSw; (try dsimp only at hSw); go_simp; try with_reducible rfl)
            (try simp only [Act.put, List.setIfInBounds_toArray, List.set_cons_zero, List.set_cons_succ])
            refine' wpAnyT_take (i := 12) (oi := ?oio11) (v := ?vo11) ?hio11 (by kernel_rfl) (by kernel_rfl) ?hqo11 ?hyo11 hHeld ?resto11
            case hio11 => (simp only [List.getElem?_toArray, List.getElem?_cons_zero, List.getElem?_cons_succ]; rfl)
            case hqo11 => exact fun _ _ _ h => h
            case hyo11 => (refine Or.inl ⟨by rfl, ?_⟩; intro w' hSw; (try dsimp only at hSw); go_simp; try with_reducible rfl)
            (try simp only [Act.put, List.setIfInBounds_toArray, List.set_cons_zero, List.set_cons_succ])
            refine' wpAnyT_take (i := 13) (oi := ?oio12) (v := ?vo12) ?hio12 (by kernel_rfl) (by kernel_rfl) ?hqo12 ?hyo12 hHeld ?resto12
            case hio12 => (simp only [List.getElem?_toArray, List.getElem?_cons_zero, List.getElem?_cons_succ]; rfl)
            case hqo12 => exact fun _ _ _ h => h
            case hyo12 => (refine Or.inl ⟨by rfl, ?_⟩; intro w' hSw; (try dsimp only at hSw); go_simp; try with_reducible rfl)
            (try simp only [Act.put, List.setIfInBounds_toArray, List.set_cons_zero, List.set_cons_succ])
            refine' wpAnyT_take (i := 14) (oi := ?oio13) (v := ?vo13) ?hio13 (by kernel_rfl) (by kernel_rfl) ?hqo13 ?hyo13 hHeld ?resto13
            case hio13 => (simp only [List.getElem?_toArray, List.getElem?_cons_zero, List.getElem?_cons_succ]; rfl)
            case hqo13 => exact fun _ _ _ h => h
            case hyo13 => (refine Or.inl ⟨by rfl, ?_⟩; intro w' hSw; (try dsimp only at hSw); go_simp; try with_reducible rfl)
            (try simp only [Act.put, List.setIfInBounds_toArray, List.set_cons_zero, List.set_cons_succ])
            refine wpAnyT_all (l := [15]) (by kernel_rfl) (by decide) ?_
            intro i hi
            simp only [List.mem_cons, List.not_mem_nil, or_false] at hi
            subst hi
            refine ⟨_, by (simp only [List.getElem?_toArray, List.getElem?_cons_zero, List.getElem?_cons_succ]; rfl), fun KK hKK => ?_⟩
            go_simp
            obtain ⟨w8a15, hW⟩ : ∃ X, w810.alloc (.cells #[.int .i64 0, .int .i64 0, .int .i64 0, .bool false, .int .i64 0, .int .i64 0, .slice none 0 0] 26) = X := ⟨_, rfl⟩
            obtain ⟨m, hm⟩ : ∃ m, w810.heap.size = m := ⟨_, rfl⟩
            have hbx : Below w810.heap.size w810 w8a15 := by rw [← hW]; exact al1 _ _
            have HFO_8a15 := hid (own_keep HFO_810.out (keep_below hbx))
            have HFP_8a15 := hid (fun x hx => (HFP_810.out x hx).keep (keep_below hbx))
            have HFI_8a15 := hid (own_keep HFI_810.out (keep_below hbx))
            have HM_8a15 : Hid (w8a15.heap[m]? = some (.cells #[.int .i64 0, .int .i64 0, .int .i64 0, .bool false, .int .i64 0, .int .i64 0, .slice none 0 0] 26)) := hid (by rw [← hW, ← hm]; exact heap_alloc_new w810 _)
            have HB8a15 := hid (HB810.out.trans (hbx.mono HB810.out.size))
            have gm : w5.heap.size ≤ m := by rw [← hm]; exact HB810.out.size
            rw [hW]
            (try rw [hm])
            have hHeld := HSS.out _ HB8a15.out
            clear hbx hW hm
            refine hKK.out _ _ (fun _ => hHeld) ?_
            clear hKK KK
            (try simp only [Act.put, List.setIfInBounds_toArray, List.set_cons_zero, List.set_cons_succ])
            refine wpAnyT_all (l := [16]) (by kernel_rfl) (by decide) ?_
            intro i hi
            simp only [List.mem_cons, List.not_mem_nil, or_false] at hi
            subst hi
            refine ⟨_, by (simp only [List.getElem?_toArray, List.getElem?_cons_zero, List.getElem?_cons_succ]; rfl), fun KK hKK => ?_⟩
            have f0 := box_fr HM_8a15.out 0
            have z0 := cell_of_row _ _ 0 _ _ _ HM_8a15.out
            have f1 := box_fr HM_8a15.out 1
            have z1 := cell_of_row _ _ 1 _ _ _ HM_8a15.out
            have f2 := box_fr HM_8a15.out 2
            have z2 := cell_of_row _ _ 2 _ _ _ HM_8a15.out
            have f3 := box_fr HM_8a15.out 3
            have z3 := cell_of_row _ _ 3 _ _ _ HM_8a15.out
            have f4 := box_fr HM_8a15.out 4
            have z4 := cell_of_row _ _ 4 _ _ _ HM_8a15.out
            have f5 := box_fr HM_8a15.out 5
            have z5 := cell_of_row _ _ 5 _ _ _ HM_8a15.out
            have f6 := box_fr HM_8a15.out 6
            have z6 := cell_of_row _ _ 6 _ _ _ HM_8a15.out
            go_simp
            obtain ⟨w8af16, hW⟩ : ∃ X, (((((((w8a15.setCell ⟨m, 0, none⟩ (.int .i64 r2.s.mn)).setCell ⟨m, 1, none⟩ (.int .i64 r2.s.mx)).setCell ⟨m, 2, none⟩ (.int .i64 r2.s.rt)).setCell ⟨m, 3, none⟩ (.bool r2.s.dn)).setCell ⟨m, 4, none⟩ (.int .i64 r2.s.idle)).setCell ⟨m, 5, none⟩ (.int .i64 r2.s.next)).setCell ⟨m, 6, none⟩ (.slice fA2 vs2.length fc2)) = X := ⟨_, rfl⟩
            have HM_8af16 : Hid (w8af16.heap[m]? = some (.cells #[.int .i64 r2.s.mn, .int .i64 r2.s.mx, .int .i64 r2.s.rt, .bool r2.s.dn, .int .i64 r2.s.idle, .int .i64 r2.s.next, .slice fA2 vs2.length fc2] 26)) := hid (by rw [← hW]; exact set7h _ _ _ _ _ _ _ HM_8a15.out)
            have hk7 : ∀ T, T ≠ 26 → Keep T w8a15 w8af16 := fun T hT => by rw [← hW]; exact set7k HM_8a15.out hT _ _ _ _ _ _ _
            have HFO_8af16 := hid (own_keep HFO_8a15.out (hk7 _ (by decide)))
            have HFP_8af16 := hid (fun x hx => (HFP_8a15.out x hx).keep (hk7 _ (by decide)))
            have HFI_8af16 := hid (own_keep HFI_8a15.out (hk7 _ (by decide)))
            have HB8af16 : Hid (Below w5.heap.size w5 w8af16) := hid (by rw [← hW]; exact set7b _ _ _ _ _ _ _ HB8a15.out gm)
            rw [hW]
            have hHeld := HSS.out _ HB8af16.out
            clear hW hk7 f0 z0 f1 z1 f2 z2 f3 z3 f4 z4 f5 z5 f6 z6
            refine hKK.out _ _ (fun _ => hHeld) ?_
            clear hKK KK
            (try simp only [Act.put, List.setIfInBounds_toArray, List.set_cons_zero, List.set_cons_succ])
            refine wpAnyT_all (l := [17]) (by kernel_rfl) (by decide) ?_
            intro i hi
            simp only [List.mem_cons, List.not_mem_nil, or_false] at hi
            subst hi
            refine ⟨_, by (simp only [List.getElem?_toArray, List.getElem?_cons_zero, List.getElem?_cons_succ]; rfl), fun KK hKK => ?_⟩
            go_simp
            refine hKK.out _ _ (fun _ => hHeld) ?_
            clear hKK KK
            (try simp only [Act.put, List.setIfInBounds_toArray, List.set_cons_zero, List.set_cons_succ])
            refine wpAnyT_all (l := [18]) (by kernel_rfl) (by decide) ?_
            intro i hi
            simp only [List.mem_cons, List.not_mem_nil, or_false] at hi
            subst hi
            refine ⟨_, by (simp only [List.getElem?_toArray, List.getElem?_cons_zero, List.getElem?_cons_succ]; rfl), fun KK hKK => ?_⟩
            go_simp
            refine hKK.out _ _ (fun h => absurd h (by decide)) ?_
            clear hKK KK
            (try simp only [Act.put, List.setIfInBounds_toArray, List.set_cons_zero, List.set_cons_succ])
            refine wpAnyT_done (by kernel_rfl) ?_ _
            go_wp2_with fail
            go_meet
            exact ⟨m, _, vs2, rfl, rfl, HFI_8af16, HM_8af16, hid (own_low HFO_8af16.out HGB.out), HFC, HFP_8af16, HB8af16, hid gm⟩
          · refine ⟨_, by (simp only [List.getElem?_toArray, List.getElem?_cons_zero, List.getElem?_cons_succ]; rfl), fun KK hKK => ?_⟩
            go_simp
            obtain ⟨w815, hW⟩ : ∃ X, w8.alloc (.cells #[.int .i64 0, .int .i64 0, .int .i64 0, .bool false, .int .i64 0, .int .i64 0, .slice none 0 0] 26) = X := ⟨_, rfl⟩
            obtain ⟨m, hm⟩ : ∃ m, w8.heap.size = m := ⟨_, rfl⟩
            have hbx : Below w8.heap.size w8 w815 := by rw [← hW]; exact al1 _ _
            have HPO_815 := hid (own_keep HPO_8.out (keep_below hbx))
            have HM_815 : Hid (w815.heap[m]? = some (.cells #[.int .i64 0, .int .i64 0, .int .i64 0, .bool false, .int .i64 0, .int .i64 0, .slice none 0 0] 26)) := hid (by rw [← hW, ← hm]; exact heap_alloc_new w8 _)
            have HB815 := hid (HB8.out.trans (hbx.mono HB8.out.size))
            have gm : w5.heap.size ≤ m := by rw [← hm]; exact HB8.out.size
            rw [hW]
            (try rw [hm])
            have hHeld := HSS.out _ HB815.out
            clear hbx hW hm
            refine hKK.out _ _ (fun _ => hHeld) ?_
            clear hKK KK
            (try simp only [Act.put, List.setIfInBounds_toArray, List.set_cons_zero, List.set_cons_succ])
            refine wpAnyT_all (l := [10]) (by kernel_rfl) (by decide) ?_
            intro i hi
            simp only [List.mem_cons, List.not_mem_nil, or_false] at hi
            subst hi
            refine ⟨_, by (simp only [List.getElem?_toArray, List.getElem?_cons_zero, List.getElem?_cons_succ]; rfl), fun KK hKK => ?_⟩
            go_simp
            go_at_call 18
            have hby : Byt w815 (.slice pA pl pc) (pay sz k) := by
              have h := HPO_815.out
              rw [← HPL.out] at h ⊢
              exact byt_of_own h (pay_b8 sz k hk256)
            refine (HSD.out w815 (.slice pA pl pc) HB815.out hby (own_nilOk HPO_815.out)).mono ?_
            clear hby
            rintro e w8f10 hse
            obtain ⟨fv2, cv2, vs2, rfl, hfo, hfc, hfp, hfi, hbx⟩ := send_ok hse rfl
            obtain ⟨fA2, fc2, rfl⟩ := own_form69 hfo
            obtain ⟨iA2, ic2, rfl⟩ := own_formE hfi
            have HM_8f10 := hid ((hbx.block _ (box_lt HM_815.out)).trans HM_815.out)
            have HFO_8f10 := hid (own_base hfo (Nat.zero_le _))
            have HFP_8f10 := hid hfp
            have HFI_8f10 := hid (own_base hfi HB815.out.size)
            have HFC := hid hfc
            have HGB : Hid (∀ q, (Value.slice fA2 vs2.length fc2).ownBlock = some q → g ≤ q) := hid (fun q e => by have h1 := (hfo.lt q e).1; have h2 := HB815.out.size; omega)
            have HB8f10 := hid (HB815.out.trans (hbx.mono HB815.out.size))
            have hHeld := HSS.out _ HB8f10.out
            unfold vLk
            dsimp only
            clear hse hfo hfc hfp hfi hbx
            refine hKK.out _ _ (fun _ => hHeld) ?_
            clear hKK KK
            (try simp only [Act.put, List.setIfInBounds_toArray, List.set_cons_zero, List.set_cons_succ])
            refine' wpAnyT_take (i := 11) (oi := ?oio14) (v := ?vo14) ?hio14 (by kernel_rfl) (by kernel_rfl) ?hqo14 ?hyo14 hHeld ?resto14
            case hio14 => (simp only [List.getElem?_toArray, List.getElem?_cons_zero, List.getElem?_cons_succ]; rfl)
            case hqo14 => exact fun _ _ _ h => h
            case hyo14 => (refine Or.inl ⟨by rfl, ?_⟩; intro w' hSw; (try dsimp only at hSw); go_simp; try with_reducible rfl)
            (try simp only [Act.put, List.setIfInBounds_toArray, List.set_cons_zero, List.set_cons_succ])
            refine' wpAnyT_take (i := 12) (oi := ?oio15) (v := ?vo15) ?hio15 (by kernel_rfl) (by kernel_rfl) ?hqo15 ?hyo15 hHeld ?resto15
            case hio15 => (simp only [List.getElem?_toArray, List.getElem?_cons_zero, List.getElem?_cons_succ]; rfl)
            case hqo15 => exact fun _ _ _ h => h
            case hyo15 => (refine Or.inl ⟨by rfl, ?_⟩; intro w' hSw; (try dsimp only at hSw); go_simp; try with_reducible rfl)
            (try simp only [Act.put, List.setIfInBounds_toArray, List.set_cons_zero, List.set_cons_succ])
            refine' wpAnyT_take (i := 13) (oi := ?oio16) (v := ?vo16) ?hio16 (by kernel_rfl) (by kernel_rfl) ?hqo16 ?hyo16 hHeld ?resto16
            case hio16 => (simp only [List.getElem?_toArray, List.getElem?_cons_zero, List.getElem?_cons_succ]; rfl)
            case hqo16 => exact fun _ _ _ h => h
            case hyo16 => (refine Or.inl ⟨by rfl, ?_⟩; intro w' hSw; (try dsimp only at hSw); go_simp; try with_reducible rfl)
            (try simp only [Act.put, List.setIfInBounds_toArray, List.set_cons_zero, List.set_cons_succ])
            refine' wpAnyT_take (i := 14) (oi := ?oio17) (v := ?vo17) ?hio17 (by kernel_rfl) (by kernel_rfl) ?hqo17 ?hyo17 hHeld ?resto17
            case hio17 => (simp only [List.getElem?_toArray, List.getElem?_cons_zero, List.getElem?_cons_succ]; rfl)
            case hqo17 => exact fun _ _ _ h => h
            case hyo17 => (refine Or.inl ⟨by rfl, ?_⟩; intro w' hSw; (try dsimp only at hSw); go_simp; try with_reducible rfl)
            (try simp only [Act.put, List.setIfInBounds_toArray, List.set_cons_zero, List.set_cons_succ])
            refine wpAnyT_all (l := [16]) (by kernel_rfl) (by decide) ?_
            intro i hi
            simp only [List.mem_cons, List.not_mem_nil, or_false] at hi
            subst hi
            refine ⟨_, by (simp only [List.getElem?_toArray, List.getElem?_cons_zero, List.getElem?_cons_succ]; rfl), fun KK hKK => ?_⟩
            have f0 := box_fr HM_8f10.out 0
            have z0 := cell_of_row _ _ 0 _ _ _ HM_8f10.out
            have f1 := box_fr HM_8f10.out 1
            have z1 := cell_of_row _ _ 1 _ _ _ HM_8f10.out
            have f2 := box_fr HM_8f10.out 2
            have z2 := cell_of_row _ _ 2 _ _ _ HM_8f10.out
            have f3 := box_fr HM_8f10.out 3
            have z3 := cell_of_row _ _ 3 _ _ _ HM_8f10.out
            have f4 := box_fr HM_8f10.out 4
            have z4 := cell_of_row _ _ 4 _ _ _ HM_8f10.out
            have f5 := box_fr HM_8f10.out 5
            have z5 := cell_of_row _ _ 5 _ _ _ HM_8f10.out
            have f6 := box_fr HM_8f10.out 6
            have z6 := cell_of_row _ _ 6 _ _ _ HM_8f10.out
            go_simp
            obtain ⟨w8fa16, hW⟩ : ∃ X, (((((((w8f10.setCell ⟨m, 0, none⟩ (.int .i64 r2.s.mn)).setCell ⟨m, 1, none⟩ (.int .i64 r2.s.mx)).setCell ⟨m, 2, none⟩ (.int .i64 r2.s.rt)).setCell ⟨m, 3, none⟩ (.bool r2.s.dn)).setCell ⟨m, 4, none⟩ (.int .i64 r2.s.idle)).setCell ⟨m, 5, none⟩ (.int .i64 r2.s.next)).setCell ⟨m, 6, none⟩ (.slice fA2 vs2.length fc2)) = X := ⟨_, rfl⟩
            have HM_8fa16 : Hid (w8fa16.heap[m]? = some (.cells #[.int .i64 r2.s.mn, .int .i64 r2.s.mx, .int .i64 r2.s.rt, .bool r2.s.dn, .int .i64 r2.s.idle, .int .i64 r2.s.next, .slice fA2 vs2.length fc2] 26)) := hid (by rw [← hW]; exact set7h _ _ _ _ _ _ _ HM_8f10.out)
            have hk7 : ∀ T, T ≠ 26 → Keep T w8f10 w8fa16 := fun T hT => by rw [← hW]; exact set7k HM_8f10.out hT _ _ _ _ _ _ _
            have HFO_8fa16 := hid (own_keep HFO_8f10.out (hk7 _ (by decide)))
            have HFP_8fa16 := hid (fun x hx => (HFP_8f10.out x hx).keep (hk7 _ (by decide)))
            have HFI_8fa16 := hid (own_keep HFI_8f10.out (hk7 _ (by decide)))
            have HB8fa16 : Hid (Below w5.heap.size w5 w8fa16) := hid (by rw [← hW]; exact set7b _ _ _ _ _ _ _ HB8f10.out gm)
            rw [hW]
            have hHeld := HSS.out _ HB8fa16.out
            clear hW hk7 f0 z0 f1 z1 f2 z2 f3 z3 f4 z4 f5 z5 f6 z6
            refine hKK.out _ _ (fun _ => hHeld) ?_
            clear hKK KK
            (try simp only [Act.put, List.setIfInBounds_toArray, List.set_cons_zero, List.set_cons_succ])
            refine wpAnyT_all (l := [17]) (by kernel_rfl) (by decide) ?_
            intro i hi
            simp only [List.mem_cons, List.not_mem_nil, or_false] at hi
            subst hi
            refine ⟨_, by (simp only [List.getElem?_toArray, List.getElem?_cons_zero, List.getElem?_cons_succ]; rfl), fun KK hKK => ?_⟩
            go_simp
            refine hKK.out _ _ (fun _ => hHeld) ?_
            clear hKK KK
            (try simp only [Act.put, List.setIfInBounds_toArray, List.set_cons_zero, List.set_cons_succ])
            refine wpAnyT_all (l := [18]) (by kernel_rfl) (by decide) ?_
            intro i hi
            simp only [List.mem_cons, List.not_mem_nil, or_false] at hi
            subst hi
            refine ⟨_, by (simp only [List.getElem?_toArray, List.getElem?_cons_zero, List.getElem?_cons_succ]; rfl), fun KK hKK => ?_⟩
            go_simp
            refine hKK.out _ _ (fun h => absurd h (by decide)) ?_
            clear hKK KK
            (try simp only [Act.put, List.setIfInBounds_toArray, List.set_cons_zero, List.set_cons_succ])
            refine wpAnyT_done (by kernel_rfl) ?_ _
            go_wp2_with fail
            go_meet
            exact ⟨m, _, vs2, rfl, rfl, HFI_8fa16, HM_8fa16, hid (own_low HFO_8fa16.out HGB.out), HFC, HFP_8fa16, HB8fa16, hid gm⟩
        · refine ⟨_, by (simp only [List.getElem?_toArray, List.getElem?_cons_zero, List.getElem?_cons_succ]; rfl), fun KK hKK => ?_⟩
          go_simp
          obtain ⟨w15, hW⟩ : ∃ X, (w5.alloc (.cells #[.int .i64 0, .int .i64 0, .int .i64 0, .bool false, .int .i64 0, .int .i64 0, .slice none 0 0] 26)).drew = X := ⟨_, rfl⟩
          obtain ⟨m, hm⟩ : ∃ m, w5.heap.size = m := ⟨_, rfl⟩
          have hbx : Below w5.heap.size w5 w15 := by rw [← hW]; exact (al1 w5 _).drew
          have HM_15 : Hid (w15.heap[m]? = some (.cells #[.int .i64 0, .int .i64 0, .int .i64 0, .bool false, .int .i64 0, .int .i64 0, .slice none 0 0] 26)) := hid (by rw [← hW, ← hm]; exact heap_alloc_new w5 _)
          have HB15 := hid ((Below.refl w5.heap.size w5).trans (hbx.mono (Nat.le_refl _)))
          have gm : w5.heap.size ≤ m := by rw [← hm]; exact Nat.le_refl _
          rw [hW]
          (try rw [hm])
          have hHeld := HSS.out _ HB15.out
          clear hbx hW hm
          refine hKK.out _ _ (fun _ => hHeld) ?_
          clear hKK KK
          (try simp only [Act.put, List.setIfInBounds_toArray, List.set_cons_zero, List.set_cons_succ])
          refine wpAnyT_all (l := [8]) (by kernel_rfl) (by decide) ?_
          intro i hi
          simp only [List.mem_cons, List.not_mem_nil, or_false] at hi
          subst hi
          refine ⟨_, by (simp only [List.getElem?_toArray, List.getElem?_cons_zero, List.getElem?_cons_succ]; rfl), fun KK hKK => ?_⟩
          go_simp
          go_at_call 32
          refine (HPC.out w15).mono ?_
          rintro e wf8 ⟨pv, rfl, hpo, hbx⟩
          obtain ⟨pA, pc, rfl⟩ := own_form hpo
          obtain ⟨pl, hpl⟩ : ∃ x, (pay sz k).length = x := ⟨_, rfl⟩
          rw [hpl] at hpo ⊢
          have HM_f8 := hid ((hbx.block _ (box_lt HM_15.out)).trans HM_15.out)
          have HPO_f8 := hid hpo
          have HPL := hid hpl
          have HBf8 := hid (HB15.out.trans (hbx.mono HB15.out.size))
          have hHeld := HSS.out _ HBf8.out
          clear hpo hbx hpl
          refine hKK.out _ _ (fun _ => hHeld) ?_
          clear hKK KK
          (try simp only [Act.put, List.setIfInBounds_toArray, List.set_cons_zero, List.set_cons_succ])
          refine wpAnyT_all (l := [10]) (by kernel_rfl) (by decide) ?_
          intro i hi
          simp only [List.mem_cons, List.not_mem_nil, or_false] at hi
          subst hi
          refine ⟨_, by (simp only [List.getElem?_toArray, List.getElem?_cons_zero, List.getElem?_cons_succ]; rfl), fun KK hKK => ?_⟩
          go_simp
          go_at_call 18
          have hby : Byt wf8 (.slice pA pl pc) (pay sz k) := by
            have h := HPO_f8.out
            rw [← HPL.out] at h ⊢
            exact byt_of_own h (pay_b8 sz k hk256)
          refine (HSD.out wf8 (.slice pA pl pc) HBf8.out hby (own_nilOk HPO_f8.out)).mono ?_
          clear hby
          rintro e wf810 hse
          obtain ⟨fv2, cv2, vs2, rfl, hfo, hfc, hfp, hfi, hbx⟩ := send_ok hse rfl
          obtain ⟨fA2, fc2, rfl⟩ := own_form69 hfo
          obtain ⟨iA2, ic2, rfl⟩ := own_formE hfi
          have HM_f810 := hid ((hbx.block _ (box_lt HM_f8.out)).trans HM_f8.out)
          have HFO_f810 := hid (own_base hfo (Nat.zero_le _))
          have HFP_f810 := hid hfp
          have HFI_f810 := hid (own_base hfi HBf8.out.size)
          have HFC := hid hfc
          have HGB : Hid (∀ q, (Value.slice fA2 vs2.length fc2).ownBlock = some q → g ≤ q) := hid (fun q e => by have h1 := (hfo.lt q e).1; have h2 := HBf8.out.size; omega)
          have HBf810 := hid (HBf8.out.trans (hbx.mono HBf8.out.size))
          have hHeld := HSS.out _ HBf810.out
          unfold vLk
          dsimp only
          clear hse hfo hfc hfp hfi hbx
          refine hKK.out _ _ (fun _ => hHeld) ?_
          clear hKK KK
          (try simp only [Act.put, List.setIfInBounds_toArray, List.set_cons_zero, List.set_cons_succ])
          refine' wpAnyT_take (i := 11) (oi := ?oio18) (v := ?vo18) ?hio18 (by kernel_rfl) (by kernel_rfl) ?hqo18 ?hyo18 hHeld ?resto18
          case hio18 => (simp only [List.getElem?_toArray, List.getElem?_cons_zero, List.getElem?_cons_succ]; rfl)
          case hqo18 => exact fun _ _ _ h => h
          case hyo18 => (refine Or.inl ⟨by rfl, ?_⟩; intro w' hSw; (try dsimp only at hSw); go_simp; try with_reducible rfl)
          (try simp only [Act.put, List.setIfInBounds_toArray, List.set_cons_zero, List.set_cons_succ])
          refine' wpAnyT_take (i := 12) (oi := ?oio19) (v := ?vo19) ?hio19 (by kernel_rfl) (by kernel_rfl) ?hqo19 ?hyo19 hHeld ?resto19
          case hio19 => (simp only [List.getElem?_toArray, List.getElem?_cons_zero, List.getElem?_cons_succ]; rfl)
          case hqo19 => exact fun _ _ _ h => h
          case hyo19 => (refine Or.inl ⟨by rfl, ?_⟩; intro w' hSw; (try dsimp only at hSw); go_simp; try with_reducible rfl)
          (try simp only [Act.put, List.setIfInBounds_toArray, List.set_cons_zero, List.set_cons_succ])
          refine' wpAnyT_take (i := 13) (oi := ?oio20) (v := ?vo20) ?hio20 (by kernel_rfl) (by kernel_rfl) ?hqo20 ?hyo20 hHeld ?resto20
          case hio20 => (simp only [List.getElem?_toArray, List.getElem?_cons_zero, List.getElem?_cons_succ]; rfl)
          case hqo20 => exact fun _ _ _ h => h
          case hyo20 => (refine Or.inl ⟨by rfl, ?_⟩; intro w' hSw; (try dsimp only at hSw); go_simp; try with_reducible rfl)
          (try simp only [Act.put, List.setIfInBounds_toArray, List.set_cons_zero, List.set_cons_succ])
          refine' wpAnyT_take (i := 14) (oi := ?oio21) (v := ?vo21) ?hio21 (by kernel_rfl) (by kernel_rfl) ?hqo21 ?hyo21 hHeld ?resto21
          case hio21 => (simp only [List.getElem?_toArray, List.getElem?_cons_zero, List.getElem?_cons_succ]; rfl)
          case hqo21 => exact fun _ _ _ h => h
          case hyo21 => (refine Or.inl ⟨by rfl, ?_⟩; intro w' hSw; (try dsimp only at hSw); go_simp; try with_reducible rfl)
          (try simp only [Act.put, List.setIfInBounds_toArray, List.set_cons_zero, List.set_cons_succ])
          refine wpAnyT_all (l := [16]) (by kernel_rfl) (by decide) ?_
          intro i hi
          simp only [List.mem_cons, List.not_mem_nil, or_false] at hi
          subst hi
          refine ⟨_, by (simp only [List.getElem?_toArray, List.getElem?_cons_zero, List.getElem?_cons_succ]; rfl), fun KK hKK => ?_⟩
          have f0 := box_fr HM_f810.out 0
          have z0 := cell_of_row _ _ 0 _ _ _ HM_f810.out
          have f1 := box_fr HM_f810.out 1
          have z1 := cell_of_row _ _ 1 _ _ _ HM_f810.out
          have f2 := box_fr HM_f810.out 2
          have z2 := cell_of_row _ _ 2 _ _ _ HM_f810.out
          have f3 := box_fr HM_f810.out 3
          have z3 := cell_of_row _ _ 3 _ _ _ HM_f810.out
          have f4 := box_fr HM_f810.out 4
          have z4 := cell_of_row _ _ 4 _ _ _ HM_f810.out
          have f5 := box_fr HM_f810.out 5
          have z5 := cell_of_row _ _ 5 _ _ _ HM_f810.out
          have f6 := box_fr HM_f810.out 6
          have z6 := cell_of_row _ _ 6 _ _ _ HM_f810.out
          go_simp
          obtain ⟨wf8a16, hW⟩ : ∃ X, (((((((wf810.setCell ⟨m, 0, none⟩ (.int .i64 r2.s.mn)).setCell ⟨m, 1, none⟩ (.int .i64 r2.s.mx)).setCell ⟨m, 2, none⟩ (.int .i64 r2.s.rt)).setCell ⟨m, 3, none⟩ (.bool r2.s.dn)).setCell ⟨m, 4, none⟩ (.int .i64 r2.s.idle)).setCell ⟨m, 5, none⟩ (.int .i64 r2.s.next)).setCell ⟨m, 6, none⟩ (.slice fA2 vs2.length fc2)) = X := ⟨_, rfl⟩
          have HM_f8a16 : Hid (wf8a16.heap[m]? = some (.cells #[.int .i64 r2.s.mn, .int .i64 r2.s.mx, .int .i64 r2.s.rt, .bool r2.s.dn, .int .i64 r2.s.idle, .int .i64 r2.s.next, .slice fA2 vs2.length fc2] 26)) := hid (by rw [← hW]; exact set7h _ _ _ _ _ _ _ HM_f810.out)
          have hk7 : ∀ T, T ≠ 26 → Keep T wf810 wf8a16 := fun T hT => by rw [← hW]; exact set7k HM_f810.out hT _ _ _ _ _ _ _
          have HFO_f8a16 := hid (own_keep HFO_f810.out (hk7 _ (by decide)))
          have HFP_f8a16 := hid (fun x hx => (HFP_f810.out x hx).keep (hk7 _ (by decide)))
          have HFI_f8a16 := hid (own_keep HFI_f810.out (hk7 _ (by decide)))
          have HBf8a16 : Hid (Below w5.heap.size w5 wf8a16) := hid (by rw [← hW]; exact set7b _ _ _ _ _ _ _ HBf810.out gm)
          rw [hW]
          have hHeld := HSS.out _ HBf8a16.out
          clear hW hk7 f0 z0 f1 z1 f2 z2 f3 z3 f4 z4 f5 z5 f6 z6
          refine hKK.out _ _ (fun _ => hHeld) ?_
          clear hKK KK
          (try simp only [Act.put, List.setIfInBounds_toArray, List.set_cons_zero, List.set_cons_succ])
          refine wpAnyT_all (l := [17]) (by kernel_rfl) (by decide) ?_
          intro i hi
          simp only [List.mem_cons, List.not_mem_nil, or_false] at hi
          subst hi
          refine ⟨_, by (simp only [List.getElem?_toArray, List.getElem?_cons_zero, List.getElem?_cons_succ]; rfl), fun KK hKK => ?_⟩
          go_simp
          refine hKK.out _ _ (fun _ => hHeld) ?_
          clear hKK KK
          (try simp only [Act.put, List.setIfInBounds_toArray, List.set_cons_zero, List.set_cons_succ])
          refine wpAnyT_all (l := [18]) (by kernel_rfl) (by decide) ?_
          intro i hi
          simp only [List.mem_cons, List.not_mem_nil, or_false] at hi
          subst hi
          refine ⟨_, by (simp only [List.getElem?_toArray, List.getElem?_cons_zero, List.getElem?_cons_succ]; rfl), fun KK hKK => ?_⟩
          go_simp
          refine hKK.out _ _ (fun h => absurd h (by decide)) ?_
          clear hKK KK
          (try simp only [Act.put, List.setIfInBounds_toArray, List.set_cons_zero, List.set_cons_succ])
          refine wpAnyT_done (by kernel_rfl) ?_ _
          go_wp2_with fail
          go_meet
          exact ⟨m, _, vs2, rfl, rfl, HFI_f8a16, HM_f8a16, hid (own_low HFO_f8a16.out HGB.out), HFC, HFP_f8a16, HBf8a16, hid gm⟩
      case rest =>
        obtain ⟨m, fv2, vs2, rfl, rfl, HRV6, HM6, HFO6, HFC6, HFP6, HB6, HMG⟩ := hcut
        obtain ⟨fA2, fc2, rfl⟩ := own_form69 HFO6.out
        have HX6 := hid ((HB6.out.block _ (box_lt HX5.out)).trans HX5.out)
        have HY6 := hid ((HB6.out.block _ (box_lt HY5.out)).trans HY5.out)
        have HT6 := hid (HT5.out.keep (keep_below HB6.out))
        have HF6 : Hid (Fo wc w5.heap.size u14 r2.rest u3 u4 u5) := hid ⟨HRV6.out, fun q hq e => by have h1 := (HRV6.out.lt q hq).1; have h2 := (HT5.out.oa.lt q e).2; omega, fun q hq e => by have h1 := (HRV6.out.lt q hq).1; have h2 := (HT5.out.ob.lt q e).2; omega, fun q hq e => by have h1 := (HRV6.out.lt q hq).1; have h2 := (HT5.out.oc.lt q e).2; omega⟩
        have HBW6 := hid (HB5.out.trans (HB6.out.mono HB5.out.size))
        clear hHeld
        obtain ⟨d, hd⟩ : ∃ d, dec r.rest 3 = d := ⟨_, rfl⟩
        have hd0 : 0 ≤ d := by rw [← hd]; exact dec_lo _ (by decide)
        have hd3 : d < 3 := by rw [← hd]; exact dec_hi _ (by decide)
        obtain ⟨ar, har⟩ : ∃ ar, arr r.rest = ar := ⟨_, rfl⟩
        have hdar : (d = 0 ∧ ar = 1) ∨ (d = 1 ∧ ar = 0) ∨ (d = 2 ∧ ar = 2) := by
          rw [← har]
          unfold arr
          rw [hd]
          split
          · omega
          · split <;> omega
        have HAR := hid har
        rw [hd]
        clear hd har
        go_upto_if 69 with fail
        obtain ⟨y1, hy1⟩ : ∃ y : Int, (if d = 1 then (0 : Int) else 1) = y := ⟨_, rfl⟩
        have HYV := hid hy1
        clear hy1
        go_cut [16] (fun s16 wx => s16 = .int .i64 y1 ∧ wx = wc)
        case first =>
          by_cases h1 : d = 1
          · have dd : (d == 1) = true := by rw [beq_iff_eq]; exact h1
            obtain rfl : 0 = y1 := by rw [← HYV.out, if_pos h1]
            clear h1 hdar HYV
            go_wp2_with fail
            go_meet
            exact ⟨rfl, rfl⟩
          · have dd : (d == 1) = false := by rw [beq_eq_false_iff_ne]; exact h1
            obtain rfl : 1 = y1 := by rw [← HYV.out, if_neg h1]
            clear h1 hdar HYV
            go_wp2_with fail
            go_meet
            exact ⟨rfl, rfl⟩
        case rest =>
          obtain ⟨rfl, hwc⟩ := hcut
          have hwc' := hwc.symm
          subst hwc'
          clear hwc
          go_upto_if 71 with fail
          go_cut [16] (fun s16 wx => s16 = .int .i64 (ar : Int) ∧ wx = wc)
          case first =>
            by_cases h1 : d = 2
            · have dd : (d == 2) = true := by rw [beq_iff_eq]; exact h1
              obtain rfl : ar = 2 := by omega
              clear h1 hdar HYV
              go_wp2_with fail
              go_meet
              exact ⟨rfl, rfl⟩
            · have dd : (d == 2) = false := by rw [beq_eq_false_iff_ne]; exact h1
              obtain rfl : y1 = (ar : Int) := by rw [← HYV.out]; split <;> omega
              clear h1 hdar HYV
              go_wp2_with fail
              go_meet
              exact ⟨rfl, rfl⟩
          case rest =>
            obtain ⟨rfl, hwc⟩ := hcut
            have hwc' := hwc.symm
            subst hwc'
            clear hwc hdar hd0 hd3
            obtain ⟨tA, tc, rfl⟩ := own_formE HT6.out.oa
            obtain ⟨iA, ic, rfl⟩ := own_formE HT6.out.ob
            obtain ⟨kA, kc, rfl⟩ := own_formE HT6.out.oc
            obtain ⟨nt, hnt⟩ : ∃ n, r.ts.length = n := ⟨_, rfl⟩
            obtain ⟨ni, hni⟩ : ∃ n, r.ids.length = n := ⟨_, rfl⟩
            obtain ⟨nk, hnk⟩ : ∃ n, r.cps.length = n := ⟨_, rfl⟩
            have hn20 : nt ≤ 20 ∧ ni ≤ 20 ∧ nk ≤ 20 := by
              have h1 := HI.out.lts
              have h2 := HI.out.lid
              have h3 := HI.out.lcp
              omega
            rw [hnt] at HT6 HF6
            rw [hni] at HT6 HF6
            rw [hnk] at HT6 HF6
            rw [hnt, hni, hnk]
            have HNT := hid hnt
            have HNI := hid hni
            have HNK := hid hnk
            have z4 := cell_of_row _ _ 4 _ _ _ HM6.out
            obtain ⟨idl, hidl⟩ : ∃ x, r2.s.idle = x := ⟨_, rfl⟩
            have HIDL := hid hidl
            rw [hidl] at z4
            have hHeld : wc.drew.cell? ⟨m, 4, none⟩ = some (.int .i64 idl) := z4
            have hmw := box_lt HM6.out
            have HSM : Hid (∀ X, Keep 26 wc X → X.cell? ⟨m, 4, none⟩ = some (.int .i64 idl)) := hid (fun X hX => (cell_of_row _ _ 4 _ _ _ (hX _ _ HM6.out)).trans (by rw [HIDL.out]; rfl))
            have HKD : Hid (∀ T, T ≠ 3 → Keep T wc wc.drew) := hid (fun T _ q cs h => h)
            have HBD : Hid (Below g wc wc.drew) := hid (Below.refl _ _).drew
            have hgc : g ≤ wc.heap.size := by have := HBW6.out.size; have := HG.out; omega
            clear hnt hni hnk hidl
            go_upto_region 18 with fail
            clear z4
            go_cut [3, 4, 5] from 72 to 84 (fun s3 s4 s5 wx => Hid (Th wx g s3 s4 s5 (r.ts ++ [nw2]) (r.ids ++ [idl]) (r.cps ++ [(ar : Int)])) ∧ Hid (wx.ownsRow w5.heap.size 3 1 u14 r2.rest.length (r2.rest.map intV)) ∧ Hid (∀ T, T ≠ 3 → Keep T wc wx) ∧ Hid (Below g wc wx))
            case first =>
              have HT7 : Hid (Th wc.drew g (.slice tA nt tc) (.slice iA ni ic) (.slice kA nk kc) r.ts r.ids r.cps) := hid ⟨HT6.out.oa, HT6.out.ob, HT6.out.oc, HT6.out.ab, HT6.out.ac, HT6.out.bc⟩
              have HF7 : Hid (Fo wc.drew w5.heap.size u14 r2.rest (.slice tA nt tc) (.slice iA ni ic) (.slice kA nk kc)) := hid ⟨HF6.out.ov, HF6.out.va, HF6.out.vb, HF6.out.vc⟩
              refine region_tail 15 (fun X => X.cell? ⟨m, 4, none⟩ = some (.int .i64 idl)) (by kernel_rfl) ?_
              refine' wpAnyT_take (i := 0) (oi := ?oip1) (v := ?vp1) ?hip1 (by kernel_rfl) (by kernel_rfl) ?hqp1 ?hyp1 hHeld ?restp1
              case hip1 => (simp only [List.getElem?_toArray, List.getElem?_cons_zero]; rfl)
              case hqp1 => exact fun _ _ _ h => h
              case hyp1 => (refine Or.inl ⟨by rfl, ?_⟩; intro w' hSw; (try dsimp only at hSw); go_simp; try with_reducible rfl)
              (try simp only [Act.put, List.setIfInBounds_toArray, List.set_cons_zero, List.set_cons_succ])
              refine' wpAnyT_take (i := 1) (oi := ?oip2) (v := ?vp2) ?hip2 (by kernel_rfl) (by kernel_rfl) ?hqp2 ?hyp2 hHeld ?restp2
              case hip2 => (simp only [List.getElem?_toArray, List.getElem?_cons_zero, List.getElem?_cons_succ]; rfl)
              case hqp2 => exact fun _ _ _ h => h
              case hyp2 => (refine Or.inl ⟨by rfl, ?_⟩; intro w' hSw; (try dsimp only at hSw); go_simp; try with_reducible rfl)
              (try simp only [Act.put, List.setIfInBounds_toArray, List.set_cons_zero, List.set_cons_succ])
              refine' wpAnyT_take (i := 4) (oi := ?oip3) (v := ?vp3) ?hip3 (by kernel_rfl) (by kernel_rfl) ?hqp3 ?hyp3 hHeld ?restp3
              case hip3 => (simp only [List.getElem?_toArray, List.getElem?_cons_zero, List.getElem?_cons_succ]; rfl)
              case hqp3 => exact fun _ _ _ h => h
              case hyp3 => (refine Or.inl ⟨by rfl, ?_⟩; intro w' hSw; (try dsimp only at hSw); go_simp; try with_reducible rfl)
              (try simp only [Act.put, List.setIfInBounds_toArray, List.set_cons_zero, List.set_cons_succ])
              refine' wpAnyT_take (i := 5) (oi := ?oip4) (v := ?vp4) ?hip4 (by kernel_rfl) (by kernel_rfl) ?hqp4 ?hyp4 hHeld ?restp4
              case hip4 => (simp only [List.getElem?_toArray, List.getElem?_cons_zero, List.getElem?_cons_succ]; rfl)
              case hqp4 => exact fun _ _ _ h => h
              case hyp4 => (refine Or.inl ⟨by rfl, ?_⟩; intro w' hSw; (try dsimp only at hSw); go_simp; try with_reducible rfl)
              (try simp only [Act.put, List.setIfInBounds_toArray, List.set_cons_zero, List.set_cons_succ])
              refine' wpAnyT_take (i := 6) (oi := ?oip5) (v := ?vp5) ?hip5 (by kernel_rfl) (by kernel_rfl) ?hqp5 ?hyp5 hHeld ?restp5
              case hip5 => (simp only [List.getElem?_toArray, List.getElem?_cons_zero, List.getElem?_cons_succ]; rfl)
              case hqp5 => exact fun _ _ _ h => h
              case hyp5 => (refine Or.inl ⟨by rfl, ?_⟩; intro w' hSw; (try dsimp only at hSw); go_simp; try with_reducible rfl)
              (try simp only [Act.put, List.setIfInBounds_toArray, List.set_cons_zero, List.set_cons_succ])
              refine' wpAnyT_take (i := 9) (oi := ?oip6) (v := ?vp6) ?hip6 (by kernel_rfl) (by kernel_rfl) ?hqp6 ?hyp6 hHeld ?restp6
              case hip6 => (simp only [List.getElem?_toArray, List.getElem?_cons_zero, List.getElem?_cons_succ]; rfl)
              case hqp6 => exact fun _ _ _ h => h
              case hyp6 => (refine Or.inl ⟨by rfl, ?_⟩; intro w' hSw; (try dsimp only at hSw); go_simp; try with_reducible rfl)
              (try simp only [Act.put, List.setIfInBounds_toArray, List.set_cons_zero, List.set_cons_succ])
              refine' wpAnyT_take (i := 10) (oi := ?oip7) (v := ?vp7) ?hip7 (by kernel_rfl) (by kernel_rfl) ?hqp7 ?hyp7 hHeld ?restp7
              case hip7 => (simp only [List.getElem?_toArray, List.getElem?_cons_zero, List.getElem?_cons_succ]; rfl)
              case hqp7 => exact fun _ _ _ h => h
              case hyp7 => (refine Or.inl ⟨by rfl, ?_⟩; intro w' hSw; (try dsimp only at hSw); go_simp; try with_reducible rfl)
              (try simp only [Act.put, List.setIfInBounds_toArray, List.set_cons_zero, List.set_cons_succ])
              refine wpAnyT_all (l := [2, 7, 11]) (by kernel_rfl) (by decide) ?_
              intro i hi
              simp only [List.mem_cons, List.not_mem_nil, or_false] at hi
              rcases hi with rfl | rfl | rfl
              · refine ⟨_, by (simp only [List.getElem?_toArray, List.getElem?_cons_zero, List.getElem?_cons_succ]; rfl), fun KK hKK => ?_⟩
                go_simp
                obtain ⟨wA, hW⟩ : ∃ X, (wc.alloc (.cells #[.int .i64 nw2] 3)).drew = X := ⟨_, rfl⟩
                have hbx : Below wc.drew.heap.size wc.drew wA := by rw [← hW]; exact (al1 wc.drew _)
                have HOA : Hid (One wA wc.heap.size nw2 (.slice tA nt tc) (.slice iA ni ic) (.slice kA nk kc)) := hid (by rw [← hW]; exact one_new HT7.out _)
                obtain ⟨ha, hh⟩ : ∃ h, wc.heap.size = h := ⟨_, rfl⟩
                rw [hh] at HOA
                have HTA := hid (HT7.out.keep (keep_below hbx))
                have HFA := hid (HF7.out.keep (keep_below hbx))
                have HKA : Hid (∀ T, T ≠ 3 → Keep T wc wA) := hid (fun T hT => (HKD.out T hT).trans (keep_below hbx))
                have HBA : Hid (Below g wc wA) := hid (HBD.out.trans (hbx.mono (by have h1 := HBD.out.size; exact Nat.le_trans hgc h1)))
                rw [hW]
                (try rw [hh])
                have hHeld := HSM.out _ (HKA.out 26 (by decide))
                clear hbx hW hh
                refine hKK.out _ _ (fun _ => hHeld) ?_
                clear hKK KK
                (try simp only [Act.put, List.setIfInBounds_toArray, List.set_cons_zero, List.set_cons_succ])
                refine wpAnyT_all (l := [3, 7, 11]) (by kernel_rfl) (by decide) ?_
                intro i hi
                simp only [List.mem_cons, List.not_mem_nil, or_false] at hi
                rcases hi with rfl | rfl | rfl
                · refine ⟨_, by (simp only [List.getElem?_toArray, List.getElem?_cons_zero, List.getElem?_cons_succ]; rfl), fun KK hKK => ?_⟩
                  have hoo := HTA.out.oa
                  rw [HNT.out] at hoo
                  refine step_append_int rfl (.tmp 72) (.tmp 74) rfl g (.slice tA nt tc) nt _ (by simp [Act.eval]) hoo nw2 ⟨ha, 0, none⟩ 1 (by simp [Act.eval]) (by rw [cell_of_row _ _ _ _ _ _ HOA.out.1]; rfl) (by omega) (by have h1 := HBA.out.size; exact Nat.le_trans hgc h1) ?_
                  intro vx wAa ho hgr hat
                  obtain ⟨tA2, tc2, rfl⟩ := own_formE ho
                  have HTAa := hid (HTA.out.appA nw2 (by rw [HNT.out]; exact ho) hgr hat)
                  have HFAa := hid (HFA.out.appA hgr hat)
                  have HKAa : Hid (∀ T, T ≠ 3 → Keep T wc wAa) := hid (fun T hT => (HKA.out T hT).trans (keep_grown hoo hT hgr))
                  have HBAa : Hid (Below g wc wAa) := hid (below_ownE HBA.out hoo hgr (by have h1 := HBA.out.size; exact Nat.le_trans hgc h1) (Nat.le_refl _))
                  have hHeld := HSM.out _ (HKAa.out 26 (by decide))
                  clear hoo ho hgr hat
                  refine hKK.out _ _ (fun _ => hHeld) ?_
                  clear hKK KK
                  (try simp only [Act.put, List.setIfInBounds_toArray, List.set_cons_zero, List.set_cons_succ])
                  refine wpAnyT_all (l := [7, 11]) (by kernel_rfl) (by decide) ?_
                  intro i hi
                  simp only [List.mem_cons, List.not_mem_nil, or_false] at hi
                  rcases hi with rfl | rfl
                  · refine ⟨_, by (simp only [List.getElem?_toArray, List.getElem?_cons_zero, List.getElem?_cons_succ]; rfl), fun KK hKK => ?_⟩
                    go_simp
                    obtain ⟨wAaB, hW⟩ : ∃ X, wAa.alloc (.cells #[.int .i64 idl] 3) = X := ⟨_, rfl⟩
                    have hbx : Below wAa.heap.size wAa wAaB := by rw [← hW]; exact al1 _ _
                    have HOAaB : Hid (One wAaB wAa.heap.size idl (.slice tA2 (nt + 1) tc2) (.slice iA ni ic) (.slice kA nk kc)) := hid (by rw [← hW]; exact one_new HTAa.out _)
                    obtain ⟨hb, hh⟩ : ∃ h, wAa.heap.size = h := ⟨_, rfl⟩
                    rw [hh] at HOAaB
                    have HTAaB := hid (HTAa.out.keep (keep_below hbx))
                    have HFAaB := hid (HFAa.out.keep (keep_below hbx))
                    have HKAaB : Hid (∀ T, T ≠ 3 → Keep T wc wAaB) := hid (fun T hT => (HKAa.out T hT).trans (keep_below hbx))
                    have HBAaB : Hid (Below g wc wAaB) := hid (HBAa.out.trans (hbx.mono (by have h1 := HBAa.out.size; exact Nat.le_trans hgc h1)))
                    rw [hW]
                    (try rw [hh])
                    have hHeld := HSM.out _ (HKAaB.out 26 (by decide))
                    clear hbx hW hh
                    refine hKK.out _ _ (fun _ => hHeld) ?_
                    clear hKK KK
                    (try simp only [Act.put, List.setIfInBounds_toArray, List.set_cons_zero, List.set_cons_succ])
                    refine wpAnyT_all (l := [8, 11]) (by kernel_rfl) (by decide) ?_
                    intro i hi
                    simp only [List.mem_cons, List.not_mem_nil, or_false] at hi
                    rcases hi with rfl | rfl
                    · refine ⟨_, by (simp only [List.getElem?_toArray, List.getElem?_cons_zero, List.getElem?_cons_succ]; rfl), fun KK hKK => ?_⟩
                      have hoo := HTAaB.out.ob
                      rw [HNI.out] at hoo
                      refine step_append_int rfl (.tmp 76) (.tmp 79) rfl g (.slice iA ni ic) ni _ (by simp [Act.eval]) hoo idl ⟨hb, 0, none⟩ 1 (by simp [Act.eval]) (by rw [cell_of_row _ _ _ _ _ _ HOAaB.out.1]; rfl) (by omega) (by have h1 := HBAaB.out.size; exact Nat.le_trans hgc h1) ?_
                      intro vx wAaBb ho hgr hat
                      obtain ⟨iA2, ic2, rfl⟩ := own_formE ho
                      have HTAaBb := hid (HTAaB.out.appB idl (by rw [HNI.out]; exact ho) hgr hat)
                      have HFAaBb := hid (HFAaB.out.appB hgr hat)
                      have HKAaBb : Hid (∀ T, T ≠ 3 → Keep T wc wAaBb) := hid (fun T hT => (HKAaB.out T hT).trans (keep_grown hoo hT hgr))
                      have HBAaBb : Hid (Below g wc wAaBb) := hid (below_ownE HBAaB.out hoo hgr (by have h1 := HBAaB.out.size; exact Nat.le_trans hgc h1) (Nat.le_refl _))
                      have hHeld := HSM.out _ (HKAaBb.out 26 (by decide))
                      clear hoo ho hgr hat
                      refine hKK.out _ _ (fun _ => hHeld) ?_
                      clear hKK KK
                      (try simp only [Act.put, List.setIfInBounds_toArray, List.set_cons_zero, List.set_cons_succ])
                      refine wpAnyT_all (l := [11]) (by kernel_rfl) (by decide) ?_
                      intro i hi
                      simp only [List.mem_cons, List.not_mem_nil, or_false] at hi
                      subst hi
                      refine ⟨_, by (simp only [List.getElem?_toArray, List.getElem?_cons_zero, List.getElem?_cons_succ]; rfl), fun KK hKK => ?_⟩
                      go_simp
                      obtain ⟨wAaBbC, hW⟩ : ∃ X, wAaBb.alloc (.cells #[.int .i64 (ar : Int)] 3) = X := ⟨_, rfl⟩
                      have hbx : Below wAaBb.heap.size wAaBb wAaBbC := by rw [← hW]; exact al1 _ _
                      have HOAaBbC : Hid (One wAaBbC wAaBb.heap.size (ar : Int) (.slice tA2 (nt + 1) tc2) (.slice iA2 (ni + 1) ic2) (.slice kA nk kc)) := hid (by rw [← hW]; exact one_new HTAaBb.out _)
                      obtain ⟨hc, hh⟩ : ∃ h, wAaBb.heap.size = h := ⟨_, rfl⟩
                      rw [hh] at HOAaBbC
                      have HTAaBbC := hid (HTAaBb.out.keep (keep_below hbx))
                      have HFAaBbC := hid (HFAaBb.out.keep (keep_below hbx))
                      have HKAaBbC : Hid (∀ T, T ≠ 3 → Keep T wc wAaBbC) := hid (fun T hT => (HKAaBb.out T hT).trans (keep_below hbx))
                      have HBAaBbC : Hid (Below g wc wAaBbC) := hid (HBAaBb.out.trans (hbx.mono (by have h1 := HBAaBb.out.size; exact Nat.le_trans hgc h1)))
                      rw [hW]
                      (try rw [hh])
                      have hHeld := HSM.out _ (HKAaBbC.out 26 (by decide))
                      clear hbx hW hh
                      refine hKK.out _ _ (fun _ => hHeld) ?_
                      clear hKK KK
                      (try simp only [Act.put, List.setIfInBounds_toArray, List.set_cons_zero, List.set_cons_succ])
                      refine wpAnyT_all (l := [12]) (by kernel_rfl) (by decide) ?_
                      intro i hi
                      simp only [List.mem_cons, List.not_mem_nil, or_false] at hi
                      subst hi
                      refine ⟨_, by (simp only [List.getElem?_toArray, List.getElem?_cons_zero, List.getElem?_cons_succ]; rfl), fun KK hKK => ?_⟩
                      have hoo := HTAaBbC.out.oc
                      rw [HNK.out] at hoo
                      refine step_append_int rfl (.tmp 81) (.tmp 83) rfl g (.slice kA nk kc) nk _ (by simp [Act.eval]) hoo (ar : Int) ⟨hc, 0, none⟩ 1 (by simp [Act.eval]) (by rw [cell_of_row _ _ _ _ _ _ HOAaBbC.out.1]; rfl) (by omega) (by have h1 := HBAaBbC.out.size; exact Nat.le_trans hgc h1) ?_
                      intro vx wAaBbCc ho hgr hat
                      obtain ⟨kA2, kc2, rfl⟩ := own_formE ho
                      have HTAaBbCc := hid (HTAaBbC.out.appC (ar : Int) (by rw [HNK.out]; exact ho) hgr hat)
                      have HFAaBbCc := hid (HFAaBbC.out.appC hgr hat)
                      have HKAaBbCc : Hid (∀ T, T ≠ 3 → Keep T wc wAaBbCc) := hid (fun T hT => (HKAaBbC.out T hT).trans (keep_grown hoo hT hgr))
                      have HBAaBbCc : Hid (Below g wc wAaBbCc) := hid (below_ownE HBAaBbC.out hoo hgr (by have h1 := HBAaBbC.out.size; exact Nat.le_trans hgc h1) (Nat.le_refl _))
                      have hHeld := HSM.out _ (HKAaBbCc.out 26 (by decide))
                      clear hoo ho hgr hat
                      refine hKK.out _ _ (fun _ => hHeld) ?_
                      clear hKK KK
                      (try simp only [Act.put, List.setIfInBounds_toArray, List.set_cons_zero, List.set_cons_succ])
                      refine wpAnyT_all (l := [13]) (by kernel_rfl) (by decide) ?_
                      intro i hi
                      simp only [List.mem_cons, List.not_mem_nil, or_false] at hi
                      subst hi
                      refine ⟨_, by (simp only [List.getElem?_toArray, List.getElem?_cons_zero, List.getElem?_cons_succ]; rfl), fun KK hKK => ?_⟩
                      go_simp
                      refine hKK.out _ _ (fun _ => hHeld) ?_
                      clear hKK KK
                      (try simp only [Act.put, List.setIfInBounds_toArray, List.set_cons_zero, List.set_cons_succ])
                      refine wpAnyT_all (l := [14]) (by kernel_rfl) (by decide) ?_
                      intro i hi
                      simp only [List.mem_cons, List.not_mem_nil, or_false] at hi
                      subst hi
                      refine ⟨_, by (simp only [List.getElem?_toArray, List.getElem?_cons_zero, List.getElem?_cons_succ]; rfl), fun KK hKK => ?_⟩
                      go_simp
                      refine hKK.out _ _ (fun _ => hHeld) ?_
                      clear hKK KK
                      (try simp only [Act.put, List.setIfInBounds_toArray, List.set_cons_zero, List.set_cons_succ])
                      refine wpAnyT_all (l := [15]) (by kernel_rfl) (by decide) ?_
                      intro i hi
                      simp only [List.mem_cons, List.not_mem_nil, or_false] at hi
                      subst hi
                      refine ⟨_, by (simp only [List.getElem?_toArray, List.getElem?_cons_zero, List.getElem?_cons_succ]; rfl), fun KK hKK => ?_⟩
                      go_simp
                      refine hKK.out _ _ (fun h => absurd h (by decide)) ?_
                      clear hKK KK
                      (try simp only [Act.put, List.setIfInBounds_toArray, List.set_cons_zero, List.set_cons_succ])
                      refine wpAnyT_done (by kernel_rfl) ?_ _
                      go_wp2_with fail
                      go_meet
                      exact ⟨HTAaBbCc, hid HFAaBbCc.out.ov, HKAaBbCc, HBAaBbCc⟩
                    · refine ⟨_, by (simp only [List.getElem?_toArray, List.getElem?_cons_zero, List.getElem?_cons_succ]; rfl), fun KK hKK => ?_⟩
                      go_simp
                      obtain ⟨wAaBC, hW⟩ : ∃ X, wAaB.alloc (.cells #[.int .i64 (ar : Int)] 3) = X := ⟨_, rfl⟩
                      have hbx : Below wAaB.heap.size wAaB wAaBC := by rw [← hW]; exact al1 _ _
                      have HOAaBC : Hid (One wAaBC wAaB.heap.size (ar : Int) (.slice tA2 (nt + 1) tc2) (.slice iA ni ic) (.slice kA nk kc)) := hid (by rw [← hW]; exact one_new HTAaB.out _)
                      obtain ⟨hc, hh⟩ : ∃ h, wAaB.heap.size = h := ⟨_, rfl⟩
                      rw [hh] at HOAaBC
                      have HTAaBC := hid (HTAaB.out.keep (keep_below hbx))
                      have HFAaBC := hid (HFAaB.out.keep (keep_below hbx))
                      have HKAaBC : Hid (∀ T, T ≠ 3 → Keep T wc wAaBC) := hid (fun T hT => (HKAaB.out T hT).trans (keep_below hbx))
                      have HBAaBC : Hid (Below g wc wAaBC) := hid (HBAaB.out.trans (hbx.mono (by have h1 := HBAaB.out.size; exact Nat.le_trans hgc h1)))
                      have HOAaBCb : Hid (One wAaBC hb idl (.slice tA2 (nt + 1) tc2) (.slice iA ni ic) (.slice kA nk kc)) := hid (by rw [← hW]; exact HOAaB.out.alloc _)
                      rw [hW]
                      (try rw [hh])
                      have hHeld := HSM.out _ (HKAaBC.out 26 (by decide))
                      clear hbx hW hh
                      refine hKK.out _ _ (fun _ => hHeld) ?_
                      clear hKK KK
                      (try simp only [Act.put, List.setIfInBounds_toArray, List.set_cons_zero, List.set_cons_succ])
                      refine wpAnyT_all (l := [8]) (by kernel_rfl) (by decide) ?_
                      intro i hi
                      simp only [List.mem_cons, List.not_mem_nil, or_false] at hi
                      subst hi
                      refine ⟨_, by (simp only [List.getElem?_toArray, List.getElem?_cons_zero, List.getElem?_cons_succ]; rfl), fun KK hKK => ?_⟩
                      have hoo := HTAaBC.out.ob
                      rw [HNI.out] at hoo
                      refine step_append_int rfl (.tmp 76) (.tmp 79) rfl g (.slice iA ni ic) ni _ (by simp [Act.eval]) hoo idl ⟨hb, 0, none⟩ 1 (by simp [Act.eval]) (by rw [cell_of_row _ _ _ _ _ _ HOAaBCb.out.1]; rfl) (by omega) (by have h1 := HBAaBC.out.size; exact Nat.le_trans hgc h1) ?_
                      intro vx wAaBCb ho hgr hat
                      obtain ⟨iA2, ic2, rfl⟩ := own_formE ho
                      have HTAaBCb := hid (HTAaBC.out.appB idl (by rw [HNI.out]; exact ho) hgr hat)
                      have HFAaBCb := hid (HFAaBC.out.appB hgr hat)
                      have HKAaBCb : Hid (∀ T, T ≠ 3 → Keep T wc wAaBCb) := hid (fun T hT => (HKAaBC.out T hT).trans (keep_grown hoo hT hgr))
                      have HBAaBCb : Hid (Below g wc wAaBCb) := hid (below_ownE HBAaBC.out hoo hgr (by have h1 := HBAaBC.out.size; exact Nat.le_trans hgc h1) (Nat.le_refl _))
                      have HOAaBCbc := hid (HOAaBC.out.appB hgr hat)
                      have hHeld := HSM.out _ (HKAaBCb.out 26 (by decide))
                      clear hoo ho hgr hat
                      refine hKK.out _ _ (fun _ => hHeld) ?_
                      clear hKK KK
                      (try simp only [Act.put, List.setIfInBounds_toArray, List.set_cons_zero, List.set_cons_succ])
                      refine wpAnyT_all (l := [12]) (by kernel_rfl) (by decide) ?_
                      intro i hi
                      simp only [List.mem_cons, List.not_mem_nil, or_false] at hi
                      subst hi
                      refine ⟨_, by (simp only [List.getElem?_toArray, List.getElem?_cons_zero, List.getElem?_cons_succ]; rfl), fun KK hKK => ?_⟩
                      have hoo := HTAaBCb.out.oc
                      rw [HNK.out] at hoo
                      refine step_append_int rfl (.tmp 81) (.tmp 83) rfl g (.slice kA nk kc) nk _ (by simp [Act.eval]) hoo (ar : Int) ⟨hc, 0, none⟩ 1 (by simp [Act.eval]) (by rw [cell_of_row _ _ _ _ _ _ HOAaBCbc.out.1]; rfl) (by omega) (by have h1 := HBAaBCb.out.size; exact Nat.le_trans hgc h1) ?_
                      intro vx wAaBCbc ho hgr hat
                      obtain ⟨kA2, kc2, rfl⟩ := own_formE ho
                      have HTAaBCbc := hid (HTAaBCb.out.appC (ar : Int) (by rw [HNK.out]; exact ho) hgr hat)
                      have HFAaBCbc := hid (HFAaBCb.out.appC hgr hat)
                      have HKAaBCbc : Hid (∀ T, T ≠ 3 → Keep T wc wAaBCbc) := hid (fun T hT => (HKAaBCb.out T hT).trans (keep_grown hoo hT hgr))
                      have HBAaBCbc : Hid (Below g wc wAaBCbc) := hid (below_ownE HBAaBCb.out hoo hgr (by have h1 := HBAaBCb.out.size; exact Nat.le_trans hgc h1) (Nat.le_refl _))
                      have hHeld := HSM.out _ (HKAaBCbc.out 26 (by decide))
                      clear hoo ho hgr hat
                      refine hKK.out _ _ (fun _ => hHeld) ?_
                      clear hKK KK
                      (try simp only [Act.put, List.setIfInBounds_toArray, List.set_cons_zero, List.set_cons_succ])
                      refine wpAnyT_all (l := [13]) (by kernel_rfl) (by decide) ?_
                      intro i hi
                      simp only [List.mem_cons, List.not_mem_nil, or_false] at hi
                      subst hi
                      refine ⟨_, by (simp only [List.getElem?_toArray, List.getElem?_cons_zero, List.getElem?_cons_succ]; rfl), fun KK hKK => ?_⟩
                      go_simp
                      refine hKK.out _ _ (fun _ => hHeld) ?_
                      clear hKK KK
                      (try simp only [Act.put, List.setIfInBounds_toArray, List.set_cons_zero, List.set_cons_succ])
                      refine wpAnyT_all (l := [14]) (by kernel_rfl) (by decide) ?_
                      intro i hi
                      simp only [List.mem_cons, List.not_mem_nil, or_false] at hi
                      subst hi
                      refine ⟨_, by (simp only [List.getElem?_toArray, List.getElem?_cons_zero, List.getElem?_cons_succ]; rfl), fun KK hKK => ?_⟩
                      go_simp
                      refine hKK.out _ _ (fun _ => hHeld) ?_
                      clear hKK KK
                      (try simp only [Act.put, List.setIfInBounds_toArray, List.set_cons_zero, List.set_cons_succ])
                      refine wpAnyT_all (l := [15]) (by kernel_rfl) (by decide) ?_
                      intro i hi
                      simp only [List.mem_cons, List.not_mem_nil, or_false] at hi
                      subst hi
                      refine ⟨_, by (simp only [List.getElem?_toArray, List.getElem?_cons_zero, List.getElem?_cons_succ]; rfl), fun KK hKK => ?_⟩
                      go_simp
                      refine hKK.out _ _ (fun h => absurd h (by decide)) ?_
                      clear hKK KK
                      (try simp only [Act.put, List.setIfInBounds_toArray, List.set_cons_zero, List.set_cons_succ])
                      refine wpAnyT_done (by kernel_rfl) ?_ _
                      go_wp2_with fail
                      go_meet
                      exact ⟨HTAaBCbc, hid HFAaBCbc.out.ov, HKAaBCbc, HBAaBCbc⟩
                  · refine ⟨_, by (simp only [List.getElem?_toArray, List.getElem?_cons_zero, List.getElem?_cons_succ]; rfl), fun KK hKK => ?_⟩
                    go_simp
                    obtain ⟨wAaC, hW⟩ : ∃ X, wAa.alloc (.cells #[.int .i64 (ar : Int)] 3) = X := ⟨_, rfl⟩
                    have hbx : Below wAa.heap.size wAa wAaC := by rw [← hW]; exact al1 _ _
                    have HOAaC : Hid (One wAaC wAa.heap.size (ar : Int) (.slice tA2 (nt + 1) tc2) (.slice iA ni ic) (.slice kA nk kc)) := hid (by rw [← hW]; exact one_new HTAa.out _)
                    obtain ⟨hc, hh⟩ : ∃ h, wAa.heap.size = h := ⟨_, rfl⟩
                    rw [hh] at HOAaC
                    have HTAaC := hid (HTAa.out.keep (keep_below hbx))
                    have HFAaC := hid (HFAa.out.keep (keep_below hbx))
                    have HKAaC : Hid (∀ T, T ≠ 3 → Keep T wc wAaC) := hid (fun T hT => (HKAa.out T hT).trans (keep_below hbx))
                    have HBAaC : Hid (Below g wc wAaC) := hid (HBAa.out.trans (hbx.mono (by have h1 := HBAa.out.size; exact Nat.le_trans hgc h1)))
                    rw [hW]
                    (try rw [hh])
                    have hHeld := HSM.out _ (HKAaC.out 26 (by decide))
                    clear hbx hW hh
                    refine hKK.out _ _ (fun _ => hHeld) ?_
                    clear hKK KK
                    (try simp only [Act.put, List.setIfInBounds_toArray, List.set_cons_zero, List.set_cons_succ])
                    refine wpAnyT_all (l := [7]) (by kernel_rfl) (by decide) ?_
                    intro i hi
                    simp only [List.mem_cons, List.not_mem_nil, or_false] at hi
                    subst hi
                    refine ⟨_, by (simp only [List.getElem?_toArray, List.getElem?_cons_zero, List.getElem?_cons_succ]; rfl), fun KK hKK => ?_⟩
                    go_simp
                    obtain ⟨wAaCB, hW⟩ : ∃ X, wAaC.alloc (.cells #[.int .i64 idl] 3) = X := ⟨_, rfl⟩
                    have hbx : Below wAaC.heap.size wAaC wAaCB := by rw [← hW]; exact al1 _ _
                    have HOAaCB : Hid (One wAaCB wAaC.heap.size idl (.slice tA2 (nt + 1) tc2) (.slice iA ni ic) (.slice kA nk kc)) := hid (by rw [← hW]; exact one_new HTAaC.out _)
                    obtain ⟨hb, hh⟩ : ∃ h, wAaC.heap.size = h := ⟨_, rfl⟩
                    rw [hh] at HOAaCB
                    have HTAaCB := hid (HTAaC.out.keep (keep_below hbx))
                    have HFAaCB := hid (HFAaC.out.keep (keep_below hbx))
                    have HKAaCB : Hid (∀ T, T ≠ 3 → Keep T wc wAaCB) := hid (fun T hT => (HKAaC.out T hT).trans (keep_below hbx))
                    have HBAaCB : Hid (Below g wc wAaCB) := hid (HBAaC.out.trans (hbx.mono (by have h1 := HBAaC.out.size; exact Nat.le_trans hgc h1)))
                    have HOAaCBc : Hid (One wAaCB hc (ar : Int) (.slice tA2 (nt + 1) tc2) (.slice iA ni ic) (.slice kA nk kc)) := hid (by rw [← hW]; exact HOAaC.out.alloc _)
                    rw [hW]
                    (try rw [hh])
                    have hHeld := HSM.out _ (HKAaCB.out 26 (by decide))
                    clear hbx hW hh
                    refine hKK.out _ _ (fun _ => hHeld) ?_
                    clear hKK KK
                    (try simp only [Act.put, List.setIfInBounds_toArray, List.set_cons_zero, List.set_cons_succ])
                    refine wpAnyT_all (l := [8]) (by kernel_rfl) (by decide) ?_
                    intro i hi
                    simp only [List.mem_cons, List.not_mem_nil, or_false] at hi
                    subst hi
                    refine ⟨_, by (simp only [List.getElem?_toArray, List.getElem?_cons_zero, List.getElem?_cons_succ]; rfl), fun KK hKK => ?_⟩
                    have hoo := HTAaCB.out.ob
                    rw [HNI.out] at hoo
                    refine step_append_int rfl (.tmp 76) (.tmp 79) rfl g (.slice iA ni ic) ni _ (by simp [Act.eval]) hoo idl ⟨hb, 0, none⟩ 1 (by simp [Act.eval]) (by rw [cell_of_row _ _ _ _ _ _ HOAaCB.out.1]; rfl) (by omega) (by have h1 := HBAaCB.out.size; exact Nat.le_trans hgc h1) ?_
                    intro vx wAaCBb ho hgr hat
                    obtain ⟨iA2, ic2, rfl⟩ := own_formE ho
                    have HTAaCBb := hid (HTAaCB.out.appB idl (by rw [HNI.out]; exact ho) hgr hat)
                    have HFAaCBb := hid (HFAaCB.out.appB hgr hat)
                    have HKAaCBb : Hid (∀ T, T ≠ 3 → Keep T wc wAaCBb) := hid (fun T hT => (HKAaCB.out T hT).trans (keep_grown hoo hT hgr))
                    have HBAaCBb : Hid (Below g wc wAaCBb) := hid (below_ownE HBAaCB.out hoo hgr (by have h1 := HBAaCB.out.size; exact Nat.le_trans hgc h1) (Nat.le_refl _))
                    have HOAaCBbc := hid (HOAaCBc.out.appB hgr hat)
                    have hHeld := HSM.out _ (HKAaCBb.out 26 (by decide))
                    clear hoo ho hgr hat
                    refine hKK.out _ _ (fun _ => hHeld) ?_
                    clear hKK KK
                    (try simp only [Act.put, List.setIfInBounds_toArray, List.set_cons_zero, List.set_cons_succ])
                    refine wpAnyT_all (l := [12]) (by kernel_rfl) (by decide) ?_
                    intro i hi
                    simp only [List.mem_cons, List.not_mem_nil, or_false] at hi
                    subst hi
                    refine ⟨_, by (simp only [List.getElem?_toArray, List.getElem?_cons_zero, List.getElem?_cons_succ]; rfl), fun KK hKK => ?_⟩
                    have hoo := HTAaCBb.out.oc
                    rw [HNK.out] at hoo
                    refine step_append_int rfl (.tmp 81) (.tmp 83) rfl g (.slice kA nk kc) nk _ (by simp [Act.eval]) hoo (ar : Int) ⟨hc, 0, none⟩ 1 (by simp [Act.eval]) (by rw [cell_of_row _ _ _ _ _ _ HOAaCBbc.out.1]; rfl) (by omega) (by have h1 := HBAaCBb.out.size; exact Nat.le_trans hgc h1) ?_
                    intro vx wAaCBbc ho hgr hat
                    obtain ⟨kA2, kc2, rfl⟩ := own_formE ho
                    have HTAaCBbc := hid (HTAaCBb.out.appC (ar : Int) (by rw [HNK.out]; exact ho) hgr hat)
                    have HFAaCBbc := hid (HFAaCBb.out.appC hgr hat)
                    have HKAaCBbc : Hid (∀ T, T ≠ 3 → Keep T wc wAaCBbc) := hid (fun T hT => (HKAaCBb.out T hT).trans (keep_grown hoo hT hgr))
                    have HBAaCBbc : Hid (Below g wc wAaCBbc) := hid (below_ownE HBAaCBb.out hoo hgr (by have h1 := HBAaCBb.out.size; exact Nat.le_trans hgc h1) (Nat.le_refl _))
                    have hHeld := HSM.out _ (HKAaCBbc.out 26 (by decide))
                    clear hoo ho hgr hat
                    refine hKK.out _ _ (fun _ => hHeld) ?_
                    clear hKK KK
                    (try simp only [Act.put, List.setIfInBounds_toArray, List.set_cons_zero, List.set_cons_succ])
                    refine wpAnyT_all (l := [13]) (by kernel_rfl) (by decide) ?_
                    intro i hi
                    simp only [List.mem_cons, List.not_mem_nil, or_false] at hi
                    subst hi
                    refine ⟨_, by (simp only [List.getElem?_toArray, List.getElem?_cons_zero, List.getElem?_cons_succ]; rfl), fun KK hKK => ?_⟩
                    go_simp
                    refine hKK.out _ _ (fun _ => hHeld) ?_
                    clear hKK KK
                    (try simp only [Act.put, List.setIfInBounds_toArray, List.set_cons_zero, List.set_cons_succ])
                    refine wpAnyT_all (l := [14]) (by kernel_rfl) (by decide) ?_
                    intro i hi
                    simp only [List.mem_cons, List.not_mem_nil, or_false] at hi
                    subst hi
                    refine ⟨_, by (simp only [List.getElem?_toArray, List.getElem?_cons_zero, List.getElem?_cons_succ]; rfl), fun KK hKK => ?_⟩
                    go_simp
                    refine hKK.out _ _ (fun _ => hHeld) ?_
                    clear hKK KK
                    (try simp only [Act.put, List.setIfInBounds_toArray, List.set_cons_zero, List.set_cons_succ])
                    refine wpAnyT_all (l := [15]) (by kernel_rfl) (by decide) ?_
                    intro i hi
                    simp only [List.mem_cons, List.not_mem_nil, or_false] at hi
                    subst hi
                    refine ⟨_, by (simp only [List.getElem?_toArray, List.getElem?_cons_zero, List.getElem?_cons_succ]; rfl), fun KK hKK => ?_⟩
                    go_simp
                    refine hKK.out _ _ (fun h => absurd h (by decide)) ?_
                    clear hKK KK
                    (try simp only [Act.put, List.setIfInBounds_toArray, List.set_cons_zero, List.set_cons_succ])
                    refine wpAnyT_done (by kernel_rfl) ?_ _
                    go_wp2_with fail
                    go_meet
                    exact ⟨HTAaCBbc, hid HFAaCBbc.out.ov, HKAaCBbc, HBAaCBbc⟩
                · refine ⟨_, by (simp only [List.getElem?_toArray, List.getElem?_cons_zero, List.getElem?_cons_succ]; rfl), fun KK hKK => ?_⟩
                  go_simp
                  obtain ⟨wAB, hW⟩ : ∃ X, wA.alloc (.cells #[.int .i64 idl] 3) = X := ⟨_, rfl⟩
                  have hbx : Below wA.heap.size wA wAB := by rw [← hW]; exact al1 _ _
                  have HOAB : Hid (One wAB wA.heap.size idl (.slice tA nt tc) (.slice iA ni ic) (.slice kA nk kc)) := hid (by rw [← hW]; exact one_new HTA.out _)
                  obtain ⟨hb, hh⟩ : ∃ h, wA.heap.size = h := ⟨_, rfl⟩
                  rw [hh] at HOAB
                  have HTAB := hid (HTA.out.keep (keep_below hbx))
                  have HFAB := hid (HFA.out.keep (keep_below hbx))
                  have HKAB : Hid (∀ T, T ≠ 3 → Keep T wc wAB) := hid (fun T hT => (HKA.out T hT).trans (keep_below hbx))
                  have HBAB : Hid (Below g wc wAB) := hid (HBA.out.trans (hbx.mono (by have h1 := HBA.out.size; exact Nat.le_trans hgc h1)))
                  have HOABa : Hid (One wAB ha nw2 (.slice tA nt tc) (.slice iA ni ic) (.slice kA nk kc)) := hid (by rw [← hW]; exact HOA.out.alloc _)
                  rw [hW]
                  (try rw [hh])
                  have hHeld := HSM.out _ (HKAB.out 26 (by decide))
                  clear hbx hW hh
                  refine hKK.out _ _ (fun _ => hHeld) ?_
                  clear hKK KK
                  (try simp only [Act.put, List.setIfInBounds_toArray, List.set_cons_zero, List.set_cons_succ])
                  refine wpAnyT_all (l := [3, 11]) (by kernel_rfl) (by decide) ?_
                  intro i hi
                  simp only [List.mem_cons, List.not_mem_nil, or_false] at hi
                  rcases hi with rfl | rfl
                  · refine ⟨_, by (simp only [List.getElem?_toArray, List.getElem?_cons_zero, List.getElem?_cons_succ]; rfl), fun KK hKK => ?_⟩
                    have hoo := HTAB.out.oa
                    rw [HNT.out] at hoo
                    refine step_append_int rfl (.tmp 72) (.tmp 74) rfl g (.slice tA nt tc) nt _ (by simp [Act.eval]) hoo nw2 ⟨ha, 0, none⟩ 1 (by simp [Act.eval]) (by rw [cell_of_row _ _ _ _ _ _ HOABa.out.1]; rfl) (by omega) (by have h1 := HBAB.out.size; exact Nat.le_trans hgc h1) ?_
                    intro vx wABa ho hgr hat
                    obtain ⟨tA2, tc2, rfl⟩ := own_formE ho
                    have HTABa := hid (HTAB.out.appA nw2 (by rw [HNT.out]; exact ho) hgr hat)
                    have HFABa := hid (HFAB.out.appA hgr hat)
                    have HKABa : Hid (∀ T, T ≠ 3 → Keep T wc wABa) := hid (fun T hT => (HKAB.out T hT).trans (keep_grown hoo hT hgr))
                    have HBABa : Hid (Below g wc wABa) := hid (below_ownE HBAB.out hoo hgr (by have h1 := HBAB.out.size; exact Nat.le_trans hgc h1) (Nat.le_refl _))
                    have HOABab := hid (HOAB.out.appA hgr hat)
                    have hHeld := HSM.out _ (HKABa.out 26 (by decide))
                    clear hoo ho hgr hat
                    refine hKK.out _ _ (fun _ => hHeld) ?_
                    clear hKK KK
                    (try simp only [Act.put, List.setIfInBounds_toArray, List.set_cons_zero, List.set_cons_succ])
                    refine wpAnyT_all (l := [8, 11]) (by kernel_rfl) (by decide) ?_
                    intro i hi
                    simp only [List.mem_cons, List.not_mem_nil, or_false] at hi
                    rcases hi with rfl | rfl
                    · refine ⟨_, by (simp only [List.getElem?_toArray, List.getElem?_cons_zero, List.getElem?_cons_succ]; rfl), fun KK hKK => ?_⟩
                      have hoo := HTABa.out.ob
                      rw [HNI.out] at hoo
                      refine step_append_int rfl (.tmp 76) (.tmp 79) rfl g (.slice iA ni ic) ni _ (by simp [Act.eval]) hoo idl ⟨hb, 0, none⟩ 1 (by simp [Act.eval]) (by rw [cell_of_row _ _ _ _ _ _ HOABab.out.1]; rfl) (by omega) (by have h1 := HBABa.out.size; exact Nat.le_trans hgc h1) ?_
                      intro vx wABab ho hgr hat
                      obtain ⟨iA2, ic2, rfl⟩ := own_formE ho
                      have HTABab := hid (HTABa.out.appB idl (by rw [HNI.out]; exact ho) hgr hat)
                      have HFABab := hid (HFABa.out.appB hgr hat)
                      have HKABab : Hid (∀ T, T ≠ 3 → Keep T wc wABab) := hid (fun T hT => (HKABa.out T hT).trans (keep_grown hoo hT hgr))
                      have HBABab : Hid (Below g wc wABab) := hid (below_ownE HBABa.out hoo hgr (by have h1 := HBABa.out.size; exact Nat.le_trans hgc h1) (Nat.le_refl _))
                      have hHeld := HSM.out _ (HKABab.out 26 (by decide))
                      clear hoo ho hgr hat
                      refine hKK.out _ _ (fun _ => hHeld) ?_
                      clear hKK KK
                      (try simp only [Act.put, List.setIfInBounds_toArray, List.set_cons_zero, List.set_cons_succ])
                      refine wpAnyT_all (l := [11]) (by kernel_rfl) (by decide) ?_
                      intro i hi
                      simp only [List.mem_cons, List.not_mem_nil, or_false] at hi
                      subst hi
                      refine ⟨_, by (simp only [List.getElem?_toArray, List.getElem?_cons_zero, List.getElem?_cons_succ]; rfl), fun KK hKK => ?_⟩
                      go_simp
                      obtain ⟨wABabC, hW⟩ : ∃ X, wABab.alloc (.cells #[.int .i64 (ar : Int)] 3) = X := ⟨_, rfl⟩
                      have hbx : Below wABab.heap.size wABab wABabC := by rw [← hW]; exact al1 _ _
                      have HOABabC : Hid (One wABabC wABab.heap.size (ar : Int) (.slice tA2 (nt + 1) tc2) (.slice iA2 (ni + 1) ic2) (.slice kA nk kc)) := hid (by rw [← hW]; exact one_new HTABab.out _)
                      obtain ⟨hc, hh⟩ : ∃ h, wABab.heap.size = h := ⟨_, rfl⟩
                      rw [hh] at HOABabC
                      have HTABabC := hid (HTABab.out.keep (keep_below hbx))
                      have HFABabC := hid (HFABab.out.keep (keep_below hbx))
                      have HKABabC : Hid (∀ T, T ≠ 3 → Keep T wc wABabC) := hid (fun T hT => (HKABab.out T hT).trans (keep_below hbx))
                      have HBABabC : Hid (Below g wc wABabC) := hid (HBABab.out.trans (hbx.mono (by have h1 := HBABab.out.size; exact Nat.le_trans hgc h1)))
                      rw [hW]
                      (try rw [hh])
                      have hHeld := HSM.out _ (HKABabC.out 26 (by decide))
                      clear hbx hW hh
                      refine hKK.out _ _ (fun _ => hHeld) ?_
                      clear hKK KK
                      (try simp only [Act.put, List.setIfInBounds_toArray, List.set_cons_zero, List.set_cons_succ])
                      refine wpAnyT_all (l := [12]) (by kernel_rfl) (by decide) ?_
                      intro i hi
                      simp only [List.mem_cons, List.not_mem_nil, or_false] at hi
                      subst hi
                      refine ⟨_, by (simp only [List.getElem?_toArray, List.getElem?_cons_zero, List.getElem?_cons_succ]; rfl), fun KK hKK => ?_⟩
                      have hoo := HTABabC.out.oc
                      rw [HNK.out] at hoo
                      refine step_append_int rfl (.tmp 81) (.tmp 83) rfl g (.slice kA nk kc) nk _ (by simp [Act.eval]) hoo (ar : Int) ⟨hc, 0, none⟩ 1 (by simp [Act.eval]) (by rw [cell_of_row _ _ _ _ _ _ HOABabC.out.1]; rfl) (by omega) (by have h1 := HBABabC.out.size; exact Nat.le_trans hgc h1) ?_
                      intro vx wABabCc ho hgr hat
                      obtain ⟨kA2, kc2, rfl⟩ := own_formE ho
                      have HTABabCc := hid (HTABabC.out.appC (ar : Int) (by rw [HNK.out]; exact ho) hgr hat)
                      have HFABabCc := hid (HFABabC.out.appC hgr hat)
                      have HKABabCc : Hid (∀ T, T ≠ 3 → Keep T wc wABabCc) := hid (fun T hT => (HKABabC.out T hT).trans (keep_grown hoo hT hgr))
                      have HBABabCc : Hid (Below g wc wABabCc) := hid (below_ownE HBABabC.out hoo hgr (by have h1 := HBABabC.out.size; exact Nat.le_trans hgc h1) (Nat.le_refl _))
                      have hHeld := HSM.out _ (HKABabCc.out 26 (by decide))
                      clear hoo ho hgr hat
                      refine hKK.out _ _ (fun _ => hHeld) ?_
                      clear hKK KK
                      (try simp only [Act.put, List.setIfInBounds_toArray, List.set_cons_zero, List.set_cons_succ])
                      refine wpAnyT_all (l := [13]) (by kernel_rfl) (by decide) ?_
                      intro i hi
                      simp only [List.mem_cons, List.not_mem_nil, or_false] at hi
                      subst hi
                      refine ⟨_, by (simp only [List.getElem?_toArray, List.getElem?_cons_zero, List.getElem?_cons_succ]; rfl), fun KK hKK => ?_⟩
                      go_simp
                      refine hKK.out _ _ (fun _ => hHeld) ?_
                      clear hKK KK
                      (try simp only [Act.put, List.setIfInBounds_toArray, List.set_cons_zero, List.set_cons_succ])
                      refine wpAnyT_all (l := [14]) (by kernel_rfl) (by decide) ?_
                      intro i hi
                      simp only [List.mem_cons, List.not_mem_nil, or_false] at hi
                      subst hi
                      refine ⟨_, by (simp only [List.getElem?_toArray, List.getElem?_cons_zero, List.getElem?_cons_succ]; rfl), fun KK hKK => ?_⟩
                      go_simp
                      refine hKK.out _ _ (fun _ => hHeld) ?_
                      clear hKK KK
                      (try simp only [Act.put, List.setIfInBounds_toArray, List.set_cons_zero, List.set_cons_succ])
                      refine wpAnyT_all (l := [15]) (by kernel_rfl) (by decide) ?_
                      intro i hi
                      simp only [List.mem_cons, List.not_mem_nil, or_false] at hi
                      subst hi
                      refine ⟨_, by (simp only [List.getElem?_toArray, List.getElem?_cons_zero, List.getElem?_cons_succ]; rfl), fun KK hKK => ?_⟩
                      go_simp
                      refine hKK.out _ _ (fun h => absurd h (by decide)) ?_
                      clear hKK KK
                      (try simp only [Act.put, List.setIfInBounds_toArray, List.set_cons_zero, List.set_cons_succ])
                      refine wpAnyT_done (by kernel_rfl) ?_ _
                      go_wp2_with fail
                      go_meet
                      exact ⟨HTABabCc, hid HFABabCc.out.ov, HKABabCc, HBABabCc⟩
                    · refine ⟨_, by (simp only [List.getElem?_toArray, List.getElem?_cons_zero, List.getElem?_cons_succ]; rfl), fun KK hKK => ?_⟩
                      go_simp
                      obtain ⟨wABaC, hW⟩ : ∃ X, wABa.alloc (.cells #[.int .i64 (ar : Int)] 3) = X := ⟨_, rfl⟩
                      have hbx : Below wABa.heap.size wABa wABaC := by rw [← hW]; exact al1 _ _
                      have HOABaC : Hid (One wABaC wABa.heap.size (ar : Int) (.slice tA2 (nt + 1) tc2) (.slice iA ni ic) (.slice kA nk kc)) := hid (by rw [← hW]; exact one_new HTABa.out _)
                      obtain ⟨hc, hh⟩ : ∃ h, wABa.heap.size = h := ⟨_, rfl⟩
                      rw [hh] at HOABaC
                      have HTABaC := hid (HTABa.out.keep (keep_below hbx))
                      have HFABaC := hid (HFABa.out.keep (keep_below hbx))
                      have HKABaC : Hid (∀ T, T ≠ 3 → Keep T wc wABaC) := hid (fun T hT => (HKABa.out T hT).trans (keep_below hbx))
                      have HBABaC : Hid (Below g wc wABaC) := hid (HBABa.out.trans (hbx.mono (by have h1 := HBABa.out.size; exact Nat.le_trans hgc h1)))
                      have HOABaCb : Hid (One wABaC hb idl (.slice tA2 (nt + 1) tc2) (.slice iA ni ic) (.slice kA nk kc)) := hid (by rw [← hW]; exact HOABab.out.alloc _)
                      rw [hW]
                      (try rw [hh])
                      have hHeld := HSM.out _ (HKABaC.out 26 (by decide))
                      clear hbx hW hh
                      refine hKK.out _ _ (fun _ => hHeld) ?_
                      clear hKK KK
                      (try simp only [Act.put, List.setIfInBounds_toArray, List.set_cons_zero, List.set_cons_succ])
                      refine wpAnyT_all (l := [8]) (by kernel_rfl) (by decide) ?_
                      intro i hi
                      simp only [List.mem_cons, List.not_mem_nil, or_false] at hi
                      subst hi
                      refine ⟨_, by (simp only [List.getElem?_toArray, List.getElem?_cons_zero, List.getElem?_cons_succ]; rfl), fun KK hKK => ?_⟩
                      have hoo := HTABaC.out.ob
                      rw [HNI.out] at hoo
                      refine step_append_int rfl (.tmp 76) (.tmp 79) rfl g (.slice iA ni ic) ni _ (by simp [Act.eval]) hoo idl ⟨hb, 0, none⟩ 1 (by simp [Act.eval]) (by rw [cell_of_row _ _ _ _ _ _ HOABaCb.out.1]; rfl) (by omega) (by have h1 := HBABaC.out.size; exact Nat.le_trans hgc h1) ?_
                      intro vx wABaCb ho hgr hat
                      obtain ⟨iA2, ic2, rfl⟩ := own_formE ho
                      have HTABaCb := hid (HTABaC.out.appB idl (by rw [HNI.out]; exact ho) hgr hat)
                      have HFABaCb := hid (HFABaC.out.appB hgr hat)
                      have HKABaCb : Hid (∀ T, T ≠ 3 → Keep T wc wABaCb) := hid (fun T hT => (HKABaC.out T hT).trans (keep_grown hoo hT hgr))
                      have HBABaCb : Hid (Below g wc wABaCb) := hid (below_ownE HBABaC.out hoo hgr (by have h1 := HBABaC.out.size; exact Nat.le_trans hgc h1) (Nat.le_refl _))
                      have HOABaCbc := hid (HOABaC.out.appB hgr hat)
                      have hHeld := HSM.out _ (HKABaCb.out 26 (by decide))
                      clear hoo ho hgr hat
                      refine hKK.out _ _ (fun _ => hHeld) ?_
                      clear hKK KK
                      (try simp only [Act.put, List.setIfInBounds_toArray, List.set_cons_zero, List.set_cons_succ])
                      refine wpAnyT_all (l := [12]) (by kernel_rfl) (by decide) ?_
                      intro i hi
                      simp only [List.mem_cons, List.not_mem_nil, or_false] at hi
                      subst hi
                      refine ⟨_, by (simp only [List.getElem?_toArray, List.getElem?_cons_zero, List.getElem?_cons_succ]; rfl), fun KK hKK => ?_⟩
                      have hoo := HTABaCb.out.oc
                      rw [HNK.out] at hoo
                      refine step_append_int rfl (.tmp 81) (.tmp 83) rfl g (.slice kA nk kc) nk _ (by simp [Act.eval]) hoo (ar : Int) ⟨hc, 0, none⟩ 1 (by simp [Act.eval]) (by rw [cell_of_row _ _ _ _ _ _ HOABaCbc.out.1]; rfl) (by omega) (by have h1 := HBABaCb.out.size; exact Nat.le_trans hgc h1) ?_
                      intro vx wABaCbc ho hgr hat
                      obtain ⟨kA2, kc2, rfl⟩ := own_formE ho
                      have HTABaCbc := hid (HTABaCb.out.appC (ar : Int) (by rw [HNK.out]; exact ho) hgr hat)
                      have HFABaCbc := hid (HFABaCb.out.appC hgr hat)
                      have HKABaCbc : Hid (∀ T, T ≠ 3 → Keep T wc wABaCbc) := hid (fun T hT => (HKABaCb.out T hT).trans (keep_grown hoo hT hgr))
                      have HBABaCbc : Hid (Below g wc wABaCbc) := hid (below_ownE HBABaCb.out hoo hgr (by have h1 := HBABaCb.out.size; exact Nat.le_trans hgc h1) (Nat.le_refl _))
                      have hHeld := HSM.out _ (HKABaCbc.out 26 (by decide))
                      clear hoo ho hgr hat
                      refine hKK.out _ _ (fun _ => hHeld) ?_
                      clear hKK KK
                      (try simp only [Act.put, List.setIfInBounds_toArray, List.set_cons_zero, List.set_cons_succ])
                      refine wpAnyT_all (l := [13]) (by kernel_rfl) (by decide) ?_
                      intro i hi
                      simp only [List.mem_cons, List.not_mem_nil, or_false] at hi
                      subst hi
                      refine ⟨_, by (simp only [List.getElem?_toArray, List.getElem?_cons_zero, List.getElem?_cons_succ]; rfl), fun KK hKK => ?_⟩
                      go_simp
                      refine hKK.out _ _ (fun _ => hHeld) ?_
                      clear hKK KK
                      (try simp only [Act.put, List.setIfInBounds_toArray, List.set_cons_zero, List.set_cons_succ])
                      refine wpAnyT_all (l := [14]) (by kernel_rfl) (by decide) ?_
                      intro i hi
                      simp only [List.mem_cons, List.not_mem_nil, or_false] at hi
                      subst hi
                      refine ⟨_, by (simp only [List.getElem?_toArray, List.getElem?_cons_zero, List.getElem?_cons_succ]; rfl), fun KK hKK => ?_⟩
                      go_simp
                      refine hKK.out _ _ (fun _ => hHeld) ?_
                      clear hKK KK
                      (try simp only [Act.put, List.setIfInBounds_toArray, List.set_cons_zero, List.set_cons_succ])
                      refine wpAnyT_all (l := [15]) (by kernel_rfl) (by decide) ?_
                      intro i hi
                      simp only [List.mem_cons, List.not_mem_nil, or_false] at hi
                      subst hi
                      refine ⟨_, by (simp only [List.getElem?_toArray, List.getElem?_cons_zero, List.getElem?_cons_succ]; rfl), fun KK hKK => ?_⟩
                      go_simp
                      refine hKK.out _ _ (fun h => absurd h (by decide)) ?_
                      clear hKK KK
                      (try simp only [Act.put, List.setIfInBounds_toArray, List.set_cons_zero, List.set_cons_succ])
                      refine wpAnyT_done (by kernel_rfl) ?_ _
                      go_wp2_with fail
                      go_meet
                      exact ⟨HTABaCbc, hid HFABaCbc.out.ov, HKABaCbc, HBABaCbc⟩
                  · refine ⟨_, by (simp only [List.getElem?_toArray, List.getElem?_cons_zero, List.getElem?_cons_succ]; rfl), fun KK hKK => ?_⟩
                    go_simp
                    obtain ⟨wABC, hW⟩ : ∃ X, wAB.alloc (.cells #[.int .i64 (ar : Int)] 3) = X := ⟨_, rfl⟩
                    have hbx : Below wAB.heap.size wAB wABC := by rw [← hW]; exact al1 _ _
                    have HOABC : Hid (One wABC wAB.heap.size (ar : Int) (.slice tA nt tc) (.slice iA ni ic) (.slice kA nk kc)) := hid (by rw [← hW]; exact one_new HTAB.out _)
                    obtain ⟨hc, hh⟩ : ∃ h, wAB.heap.size = h := ⟨_, rfl⟩
                    rw [hh] at HOABC
                    have HTABC := hid (HTAB.out.keep (keep_below hbx))
                    have HFABC := hid (HFAB.out.keep (keep_below hbx))
                    have HKABC : Hid (∀ T, T ≠ 3 → Keep T wc wABC) := hid (fun T hT => (HKAB.out T hT).trans (keep_below hbx))
                    have HBABC : Hid (Below g wc wABC) := hid (HBAB.out.trans (hbx.mono (by have h1 := HBAB.out.size; exact Nat.le_trans hgc h1)))
                    have HOABCa : Hid (One wABC ha nw2 (.slice tA nt tc) (.slice iA ni ic) (.slice kA nk kc)) := hid (by rw [← hW]; exact HOABa.out.alloc _)
                    have HOABCb : Hid (One wABC hb idl (.slice tA nt tc) (.slice iA ni ic) (.slice kA nk kc)) := hid (by rw [← hW]; exact HOAB.out.alloc _)
                    rw [hW]
                    (try rw [hh])
                    have hHeld := HSM.out _ (HKABC.out 26 (by decide))
                    clear hbx hW hh
                    refine hKK.out _ _ (fun _ => hHeld) ?_
                    clear hKK KK
                    (try simp only [Act.put, List.setIfInBounds_toArray, List.set_cons_zero, List.set_cons_succ])
                    refine wpAnyT_all (l := [3]) (by kernel_rfl) (by decide) ?_
                    intro i hi
                    simp only [List.mem_cons, List.not_mem_nil, or_false] at hi
                    subst hi
                    refine ⟨_, by (simp only [List.getElem?_toArray, List.getElem?_cons_zero, List.getElem?_cons_succ]; rfl), fun KK hKK => ?_⟩
                    have hoo := HTABC.out.oa
                    rw [HNT.out] at hoo
                    refine step_append_int rfl (.tmp 72) (.tmp 74) rfl g (.slice tA nt tc) nt _ (by simp [Act.eval]) hoo nw2 ⟨ha, 0, none⟩ 1 (by simp [Act.eval]) (by rw [cell_of_row _ _ _ _ _ _ HOABCa.out.1]; rfl) (by omega) (by have h1 := HBABC.out.size; exact Nat.le_trans hgc h1) ?_
                    intro vx wABCa ho hgr hat
                    obtain ⟨tA2, tc2, rfl⟩ := own_formE ho
                    have HTABCa := hid (HTABC.out.appA nw2 (by rw [HNT.out]; exact ho) hgr hat)
                    have HFABCa := hid (HFABC.out.appA hgr hat)
                    have HKABCa : Hid (∀ T, T ≠ 3 → Keep T wc wABCa) := hid (fun T hT => (HKABC.out T hT).trans (keep_grown hoo hT hgr))
                    have HBABCa : Hid (Below g wc wABCa) := hid (below_ownE HBABC.out hoo hgr (by have h1 := HBABC.out.size; exact Nat.le_trans hgc h1) (Nat.le_refl _))
                    have HOABCab := hid (HOABCb.out.appA hgr hat)
                    have HOABCac := hid (HOABC.out.appA hgr hat)
                    have hHeld := HSM.out _ (HKABCa.out 26 (by decide))
                    clear hoo ho hgr hat
                    refine hKK.out _ _ (fun _ => hHeld) ?_
                    clear hKK KK
                    (try simp only [Act.put, List.setIfInBounds_toArray, List.set_cons_zero, List.set_cons_succ])
                    refine wpAnyT_all (l := [8]) (by kernel_rfl) (by decide) ?_
                    intro i hi
                    simp only [List.mem_cons, List.not_mem_nil, or_false] at hi
                    subst hi
                    refine ⟨_, by (simp only [List.getElem?_toArray, List.getElem?_cons_zero, List.getElem?_cons_succ]; rfl), fun KK hKK => ?_⟩
                    have hoo := HTABCa.out.ob
                    rw [HNI.out] at hoo
                    refine step_append_int rfl (.tmp 76) (.tmp 79) rfl g (.slice iA ni ic) ni _ (by simp [Act.eval]) hoo idl ⟨hb, 0, none⟩ 1 (by simp [Act.eval]) (by rw [cell_of_row _ _ _ _ _ _ HOABCab.out.1]; rfl) (by omega) (by have h1 := HBABCa.out.size; exact Nat.le_trans hgc h1) ?_
                    intro vx wABCab ho hgr hat
                    obtain ⟨iA2, ic2, rfl⟩ := own_formE ho
                    have HTABCab := hid (HTABCa.out.appB idl (by rw [HNI.out]; exact ho) hgr hat)
                    have HFABCab := hid (HFABCa.out.appB hgr hat)
                    have HKABCab : Hid (∀ T, T ≠ 3 → Keep T wc wABCab) := hid (fun T hT => (HKABCa.out T hT).trans (keep_grown hoo hT hgr))
                    have HBABCab : Hid (Below g wc wABCab) := hid (below_ownE HBABCa.out hoo hgr (by have h1 := HBABCa.out.size; exact Nat.le_trans hgc h1) (Nat.le_refl _))
                    have HOABCabc := hid (HOABCac.out.appB hgr hat)
                    have hHeld := HSM.out _ (HKABCab.out 26 (by decide))
                    clear hoo ho hgr hat
                    refine hKK.out _ _ (fun _ => hHeld) ?_
                    clear hKK KK
                    (try simp only [Act.put, List.setIfInBounds_toArray, List.set_cons_zero, List.set_cons_succ])
                    refine wpAnyT_all (l := [12]) (by kernel_rfl) (by decide) ?_
                    intro i hi
                    simp only [List.mem_cons, List.not_mem_nil, or_false] at hi
                    subst hi
                    refine ⟨_, by (simp only [List.getElem?_toArray, List.getElem?_cons_zero, List.getElem?_cons_succ]; rfl), fun KK hKK => ?_⟩
                    have hoo := HTABCab.out.oc
                    rw [HNK.out] at hoo
                    refine step_append_int rfl (.tmp 81) (.tmp 83) rfl g (.slice kA nk kc) nk _ (by simp [Act.eval]) hoo (ar : Int) ⟨hc, 0, none⟩ 1 (by simp [Act.eval]) (by rw [cell_of_row _ _ _ _ _ _ HOABCabc.out.1]; rfl) (by omega) (by have h1 := HBABCab.out.size; exact Nat.le_trans hgc h1) ?_
                    intro vx wABCabc ho hgr hat
                    obtain ⟨kA2, kc2, rfl⟩ := own_formE ho
                    have HTABCabc := hid (HTABCab.out.appC (ar : Int) (by rw [HNK.out]; exact ho) hgr hat)
                    have HFABCabc := hid (HFABCab.out.appC hgr hat)
                    have HKABCabc : Hid (∀ T, T ≠ 3 → Keep T wc wABCabc) := hid (fun T hT => (HKABCab.out T hT).trans (keep_grown hoo hT hgr))
                    have HBABCabc : Hid (Below g wc wABCabc) := hid (below_ownE HBABCab.out hoo hgr (by have h1 := HBABCab.out.size; exact Nat.le_trans hgc h1) (Nat.le_refl _))
                    have hHeld := HSM.out _ (HKABCabc.out 26 (by decide))
                    clear hoo ho hgr hat
                    refine hKK.out _ _ (fun _ => hHeld) ?_
                    clear hKK KK
                    (try simp only [Act.put, List.setIfInBounds_toArray, List.set_cons_zero, List.set_cons_succ])
                    refine wpAnyT_all (l := [13]) (by kernel_rfl) (by decide) ?_
                    intro i hi
                    simp only [List.mem_cons, List.not_mem_nil, or_false] at hi
                    subst hi
                    refine ⟨_, by (simp only [List.getElem?_toArray, List.getElem?_cons_zero, List.getElem?_cons_succ]; rfl), fun KK hKK => ?_⟩
                    go_simp
                    refine hKK.out _ _ (fun _ => hHeld) ?_
                    clear hKK KK
                    (try simp only [Act.put, List.setIfInBounds_toArray, List.set_cons_zero, List.set_cons_succ])
                    refine wpAnyT_all (l := [14]) (by kernel_rfl) (by decide) ?_
                    intro i hi
                    simp only [List.mem_cons, List.not_mem_nil, or_false] at hi
                    subst hi
                    refine ⟨_, by (simp only [List.getElem?_toArray, List.getElem?_cons_zero, List.getElem?_cons_succ]; rfl), fun KK hKK => ?_⟩
                    go_simp
                    refine hKK.out _ _ (fun _ => hHeld) ?_
                    clear hKK KK
                    (try simp only [Act.put, List.setIfInBounds_toArray, List.set_cons_zero, List.set_cons_succ])
                    refine wpAnyT_all (l := [15]) (by kernel_rfl) (by decide) ?_
                    intro i hi
                    simp only [List.mem_cons, List.not_mem_nil, or_false] at hi
                    subst hi
                    refine ⟨_, by (simp only [List.getElem?_toArray, List.getElem?_cons_zero, List.getElem?_cons_succ]; rfl), fun KK hKK => ?_⟩
                    go_simp
                    refine hKK.out _ _ (fun h => absurd h (by decide)) ?_
                    clear hKK KK
                    (try simp only [Act.put, List.setIfInBounds_toArray, List.set_cons_zero, List.set_cons_succ])
                    refine wpAnyT_done (by kernel_rfl) ?_ _
                    go_wp2_with fail
                    go_meet
                    exact ⟨HTABCabc, hid HFABCabc.out.ov, HKABCabc, HBABCabc⟩
                · refine ⟨_, by (simp only [List.getElem?_toArray, List.getElem?_cons_zero, List.getElem?_cons_succ]; rfl), fun KK hKK => ?_⟩
                  go_simp
                  obtain ⟨wAC, hW⟩ : ∃ X, wA.alloc (.cells #[.int .i64 (ar : Int)] 3) = X := ⟨_, rfl⟩
                  have hbx : Below wA.heap.size wA wAC := by rw [← hW]; exact al1 _ _
                  have HOAC : Hid (One wAC wA.heap.size (ar : Int) (.slice tA nt tc) (.slice iA ni ic) (.slice kA nk kc)) := hid (by rw [← hW]; exact one_new HTA.out _)
                  obtain ⟨hc, hh⟩ : ∃ h, wA.heap.size = h := ⟨_, rfl⟩
                  rw [hh] at HOAC
                  have HTAC := hid (HTA.out.keep (keep_below hbx))
                  have HFAC := hid (HFA.out.keep (keep_below hbx))
                  have HKAC : Hid (∀ T, T ≠ 3 → Keep T wc wAC) := hid (fun T hT => (HKA.out T hT).trans (keep_below hbx))
                  have HBAC : Hid (Below g wc wAC) := hid (HBA.out.trans (hbx.mono (by have h1 := HBA.out.size; exact Nat.le_trans hgc h1)))
                  have HOACa : Hid (One wAC ha nw2 (.slice tA nt tc) (.slice iA ni ic) (.slice kA nk kc)) := hid (by rw [← hW]; exact HOA.out.alloc _)
                  rw [hW]
                  (try rw [hh])
                  have hHeld := HSM.out _ (HKAC.out 26 (by decide))
                  clear hbx hW hh
                  refine hKK.out _ _ (fun _ => hHeld) ?_
                  clear hKK KK
                  (try simp only [Act.put, List.setIfInBounds_toArray, List.set_cons_zero, List.set_cons_succ])
                  refine wpAnyT_all (l := [3, 7]) (by kernel_rfl) (by decide) ?_
                  intro i hi
                  simp only [List.mem_cons, List.not_mem_nil, or_false] at hi
                  rcases hi with rfl | rfl
                  · refine ⟨_, by (simp only [List.getElem?_toArray, List.getElem?_cons_zero, List.getElem?_cons_succ]; rfl), fun KK hKK => ?_⟩
                    have hoo := HTAC.out.oa
                    rw [HNT.out] at hoo
                    refine step_append_int rfl (.tmp 72) (.tmp 74) rfl g (.slice tA nt tc) nt _ (by simp [Act.eval]) hoo nw2 ⟨ha, 0, none⟩ 1 (by simp [Act.eval]) (by rw [cell_of_row _ _ _ _ _ _ HOACa.out.1]; rfl) (by omega) (by have h1 := HBAC.out.size; exact Nat.le_trans hgc h1) ?_
                    intro vx wACa ho hgr hat
                    obtain ⟨tA2, tc2, rfl⟩ := own_formE ho
                    have HTACa := hid (HTAC.out.appA nw2 (by rw [HNT.out]; exact ho) hgr hat)
                    have HFACa := hid (HFAC.out.appA hgr hat)
                    have HKACa : Hid (∀ T, T ≠ 3 → Keep T wc wACa) := hid (fun T hT => (HKAC.out T hT).trans (keep_grown hoo hT hgr))
                    have HBACa : Hid (Below g wc wACa) := hid (below_ownE HBAC.out hoo hgr (by have h1 := HBAC.out.size; exact Nat.le_trans hgc h1) (Nat.le_refl _))
                    have HOACac := hid (HOAC.out.appA hgr hat)
                    have hHeld := HSM.out _ (HKACa.out 26 (by decide))
                    clear hoo ho hgr hat
                    refine hKK.out _ _ (fun _ => hHeld) ?_
                    clear hKK KK
                    (try simp only [Act.put, List.setIfInBounds_toArray, List.set_cons_zero, List.set_cons_succ])
                    refine wpAnyT_all (l := [7]) (by kernel_rfl) (by decide) ?_
                    intro i hi
                    simp only [List.mem_cons, List.not_mem_nil, or_false] at hi
                    subst hi
                    refine ⟨_, by (simp only [List.getElem?_toArray, List.getElem?_cons_zero, List.getElem?_cons_succ]; rfl), fun KK hKK => ?_⟩
                    go_simp
                    obtain ⟨wACaB, hW⟩ : ∃ X, wACa.alloc (.cells #[.int .i64 idl] 3) = X := ⟨_, rfl⟩
                    have hbx : Below wACa.heap.size wACa wACaB := by rw [← hW]; exact al1 _ _
                    have HOACaB : Hid (One wACaB wACa.heap.size idl (.slice tA2 (nt + 1) tc2) (.slice iA ni ic) (.slice kA nk kc)) := hid (by rw [← hW]; exact one_new HTACa.out _)
                    obtain ⟨hb, hh⟩ : ∃ h, wACa.heap.size = h := ⟨_, rfl⟩
                    rw [hh] at HOACaB
                    have HTACaB := hid (HTACa.out.keep (keep_below hbx))
                    have HFACaB := hid (HFACa.out.keep (keep_below hbx))
                    have HKACaB : Hid (∀ T, T ≠ 3 → Keep T wc wACaB) := hid (fun T hT => (HKACa.out T hT).trans (keep_below hbx))
                    have HBACaB : Hid (Below g wc wACaB) := hid (HBACa.out.trans (hbx.mono (by have h1 := HBACa.out.size; exact Nat.le_trans hgc h1)))
                    have HOACaBc : Hid (One wACaB hc (ar : Int) (.slice tA2 (nt + 1) tc2) (.slice iA ni ic) (.slice kA nk kc)) := hid (by rw [← hW]; exact HOACac.out.alloc _)
                    rw [hW]
                    (try rw [hh])
                    have hHeld := HSM.out _ (HKACaB.out 26 (by decide))
                    clear hbx hW hh
                    refine hKK.out _ _ (fun _ => hHeld) ?_
                    clear hKK KK
                    (try simp only [Act.put, List.setIfInBounds_toArray, List.set_cons_zero, List.set_cons_succ])
                    refine wpAnyT_all (l := [8]) (by kernel_rfl) (by decide) ?_
                    intro i hi
                    simp only [List.mem_cons, List.not_mem_nil, or_false] at hi
                    subst hi
                    refine ⟨_, by (simp only [List.getElem?_toArray, List.getElem?_cons_zero, List.getElem?_cons_succ]; rfl), fun KK hKK => ?_⟩
                    have hoo := HTACaB.out.ob
                    rw [HNI.out] at hoo
                    refine step_append_int rfl (.tmp 76) (.tmp 79) rfl g (.slice iA ni ic) ni _ (by simp [Act.eval]) hoo idl ⟨hb, 0, none⟩ 1 (by simp [Act.eval]) (by rw [cell_of_row _ _ _ _ _ _ HOACaB.out.1]; rfl) (by omega) (by have h1 := HBACaB.out.size; exact Nat.le_trans hgc h1) ?_
                    intro vx wACaBb ho hgr hat
                    obtain ⟨iA2, ic2, rfl⟩ := own_formE ho
                    have HTACaBb := hid (HTACaB.out.appB idl (by rw [HNI.out]; exact ho) hgr hat)
                    have HFACaBb := hid (HFACaB.out.appB hgr hat)
                    have HKACaBb : Hid (∀ T, T ≠ 3 → Keep T wc wACaBb) := hid (fun T hT => (HKACaB.out T hT).trans (keep_grown hoo hT hgr))
                    have HBACaBb : Hid (Below g wc wACaBb) := hid (below_ownE HBACaB.out hoo hgr (by have h1 := HBACaB.out.size; exact Nat.le_trans hgc h1) (Nat.le_refl _))
                    have HOACaBbc := hid (HOACaBc.out.appB hgr hat)
                    have hHeld := HSM.out _ (HKACaBb.out 26 (by decide))
                    clear hoo ho hgr hat
                    refine hKK.out _ _ (fun _ => hHeld) ?_
                    clear hKK KK
                    (try simp only [Act.put, List.setIfInBounds_toArray, List.set_cons_zero, List.set_cons_succ])
                    refine wpAnyT_all (l := [12]) (by kernel_rfl) (by decide) ?_
                    intro i hi
                    simp only [List.mem_cons, List.not_mem_nil, or_false] at hi
                    subst hi
                    refine ⟨_, by (simp only [List.getElem?_toArray, List.getElem?_cons_zero, List.getElem?_cons_succ]; rfl), fun KK hKK => ?_⟩
                    have hoo := HTACaBb.out.oc
                    rw [HNK.out] at hoo
                    refine step_append_int rfl (.tmp 81) (.tmp 83) rfl g (.slice kA nk kc) nk _ (by simp [Act.eval]) hoo (ar : Int) ⟨hc, 0, none⟩ 1 (by simp [Act.eval]) (by rw [cell_of_row _ _ _ _ _ _ HOACaBbc.out.1]; rfl) (by omega) (by have h1 := HBACaBb.out.size; exact Nat.le_trans hgc h1) ?_
                    intro vx wACaBbc ho hgr hat
                    obtain ⟨kA2, kc2, rfl⟩ := own_formE ho
                    have HTACaBbc := hid (HTACaBb.out.appC (ar : Int) (by rw [HNK.out]; exact ho) hgr hat)
                    have HFACaBbc := hid (HFACaBb.out.appC hgr hat)
                    have HKACaBbc : Hid (∀ T, T ≠ 3 → Keep T wc wACaBbc) := hid (fun T hT => (HKACaBb.out T hT).trans (keep_grown hoo hT hgr))
                    have HBACaBbc : Hid (Below g wc wACaBbc) := hid (below_ownE HBACaBb.out hoo hgr (by have h1 := HBACaBb.out.size; exact Nat.le_trans hgc h1) (Nat.le_refl _))
                    have hHeld := HSM.out _ (HKACaBbc.out 26 (by decide))
                    clear hoo ho hgr hat
                    refine hKK.out _ _ (fun _ => hHeld) ?_
                    clear hKK KK
                    (try simp only [Act.put, List.setIfInBounds_toArray, List.set_cons_zero, List.set_cons_succ])
                    refine wpAnyT_all (l := [13]) (by kernel_rfl) (by decide) ?_
                    intro i hi
                    simp only [List.mem_cons, List.not_mem_nil, or_false] at hi
                    subst hi
                    refine ⟨_, by (simp only [List.getElem?_toArray, List.getElem?_cons_zero, List.getElem?_cons_succ]; rfl), fun KK hKK => ?_⟩
                    go_simp
                    refine hKK.out _ _ (fun _ => hHeld) ?_
                    clear hKK KK
                    (try simp only [Act.put, List.setIfInBounds_toArray, List.set_cons_zero, List.set_cons_succ])
                    refine wpAnyT_all (l := [14]) (by kernel_rfl) (by decide) ?_
                    intro i hi
                    simp only [List.mem_cons, List.not_mem_nil, or_false] at hi
                    subst hi
                    refine ⟨_, by (simp only [List.getElem?_toArray, List.getElem?_cons_zero, List.getElem?_cons_succ]; rfl), fun KK hKK => ?_⟩
                    go_simp
                    refine hKK.out _ _ (fun _ => hHeld) ?_
                    clear hKK KK
                    (try simp only [Act.put, List.setIfInBounds_toArray, List.set_cons_zero, List.set_cons_succ])
                    refine wpAnyT_all (l := [15]) (by kernel_rfl) (by decide) ?_
                    intro i hi
                    simp only [List.mem_cons, List.not_mem_nil, or_false] at hi
                    subst hi
                    refine ⟨_, by (simp only [List.getElem?_toArray, List.getElem?_cons_zero, List.getElem?_cons_succ]; rfl), fun KK hKK => ?_⟩
                    go_simp
                    refine hKK.out _ _ (fun h => absurd h (by decide)) ?_
                    clear hKK KK
                    (try simp only [Act.put, List.setIfInBounds_toArray, List.set_cons_zero, List.set_cons_succ])
                    refine wpAnyT_done (by kernel_rfl) ?_ _
                    go_wp2_with fail
                    go_meet
                    exact ⟨HTACaBbc, hid HFACaBbc.out.ov, HKACaBbc, HBACaBbc⟩
                  · refine ⟨_, by (simp only [List.getElem?_toArray, List.getElem?_cons_zero, List.getElem?_cons_succ]; rfl), fun KK hKK => ?_⟩
                    go_simp
                    obtain ⟨wACB, hW⟩ : ∃ X, wAC.alloc (.cells #[.int .i64 idl] 3) = X := ⟨_, rfl⟩
                    have hbx : Below wAC.heap.size wAC wACB := by rw [← hW]; exact al1 _ _
                    have HOACB : Hid (One wACB wAC.heap.size idl (.slice tA nt tc) (.slice iA ni ic) (.slice kA nk kc)) := hid (by rw [← hW]; exact one_new HTAC.out _)
                    obtain ⟨hb, hh⟩ : ∃ h, wAC.heap.size = h := ⟨_, rfl⟩
                    rw [hh] at HOACB
                    have HTACB := hid (HTAC.out.keep (keep_below hbx))
                    have HFACB := hid (HFAC.out.keep (keep_below hbx))
                    have HKACB : Hid (∀ T, T ≠ 3 → Keep T wc wACB) := hid (fun T hT => (HKAC.out T hT).trans (keep_below hbx))
                    have HBACB : Hid (Below g wc wACB) := hid (HBAC.out.trans (hbx.mono (by have h1 := HBAC.out.size; exact Nat.le_trans hgc h1)))
                    have HOACBa : Hid (One wACB ha nw2 (.slice tA nt tc) (.slice iA ni ic) (.slice kA nk kc)) := hid (by rw [← hW]; exact HOACa.out.alloc _)
                    have HOACBc : Hid (One wACB hc (ar : Int) (.slice tA nt tc) (.slice iA ni ic) (.slice kA nk kc)) := hid (by rw [← hW]; exact HOAC.out.alloc _)
                    rw [hW]
                    (try rw [hh])
                    have hHeld := HSM.out _ (HKACB.out 26 (by decide))
                    clear hbx hW hh
                    refine hKK.out _ _ (fun _ => hHeld) ?_
                    clear hKK KK
                    (try simp only [Act.put, List.setIfInBounds_toArray, List.set_cons_zero, List.set_cons_succ])
                    refine wpAnyT_all (l := [3]) (by kernel_rfl) (by decide) ?_
                    intro i hi
                    simp only [List.mem_cons, List.not_mem_nil, or_false] at hi
                    subst hi
                    refine ⟨_, by (simp only [List.getElem?_toArray, List.getElem?_cons_zero, List.getElem?_cons_succ]; rfl), fun KK hKK => ?_⟩
                    have hoo := HTACB.out.oa
                    rw [HNT.out] at hoo
                    refine step_append_int rfl (.tmp 72) (.tmp 74) rfl g (.slice tA nt tc) nt _ (by simp [Act.eval]) hoo nw2 ⟨ha, 0, none⟩ 1 (by simp [Act.eval]) (by rw [cell_of_row _ _ _ _ _ _ HOACBa.out.1]; rfl) (by omega) (by have h1 := HBACB.out.size; exact Nat.le_trans hgc h1) ?_
                    intro vx wACBa ho hgr hat
                    obtain ⟨tA2, tc2, rfl⟩ := own_formE ho
                    have HTACBa := hid (HTACB.out.appA nw2 (by rw [HNT.out]; exact ho) hgr hat)
                    have HFACBa := hid (HFACB.out.appA hgr hat)
                    have HKACBa : Hid (∀ T, T ≠ 3 → Keep T wc wACBa) := hid (fun T hT => (HKACB.out T hT).trans (keep_grown hoo hT hgr))
                    have HBACBa : Hid (Below g wc wACBa) := hid (below_ownE HBACB.out hoo hgr (by have h1 := HBACB.out.size; exact Nat.le_trans hgc h1) (Nat.le_refl _))
                    have HOACBac := hid (HOACBc.out.appA hgr hat)
                    have HOACBab := hid (HOACB.out.appA hgr hat)
                    have hHeld := HSM.out _ (HKACBa.out 26 (by decide))
                    clear hoo ho hgr hat
                    refine hKK.out _ _ (fun _ => hHeld) ?_
                    clear hKK KK
                    (try simp only [Act.put, List.setIfInBounds_toArray, List.set_cons_zero, List.set_cons_succ])
                    refine wpAnyT_all (l := [8]) (by kernel_rfl) (by decide) ?_
                    intro i hi
                    simp only [List.mem_cons, List.not_mem_nil, or_false] at hi
                    subst hi
                    refine ⟨_, by (simp only [List.getElem?_toArray, List.getElem?_cons_zero, List.getElem?_cons_succ]; rfl), fun KK hKK => ?_⟩
                    have hoo := HTACBa.out.ob
                    rw [HNI.out] at hoo
                    refine step_append_int rfl (.tmp 76) (.tmp 79) rfl g (.slice iA ni ic) ni _ (by simp [Act.eval]) hoo idl ⟨hb, 0, none⟩ 1 (by simp [Act.eval]) (by rw [cell_of_row _ _ _ _ _ _ HOACBab.out.1]; rfl) (by omega) (by have h1 := HBACBa.out.size; exact Nat.le_trans hgc h1) ?_
                    intro vx wACBab ho hgr hat
                    obtain ⟨iA2, ic2, rfl⟩ := own_formE ho
                    have HTACBab := hid (HTACBa.out.appB idl (by rw [HNI.out]; exact ho) hgr hat)
                    have HFACBab := hid (HFACBa.out.appB hgr hat)
                    have HKACBab : Hid (∀ T, T ≠ 3 → Keep T wc wACBab) := hid (fun T hT => (HKACBa.out T hT).trans (keep_grown hoo hT hgr))
                    have HBACBab : Hid (Below g wc wACBab) := hid (below_ownE HBACBa.out hoo hgr (by have h1 := HBACBa.out.size; exact Nat.le_trans hgc h1) (Nat.le_refl _))
                    have HOACBabc := hid (HOACBac.out.appB hgr hat)
                    have hHeld := HSM.out _ (HKACBab.out 26 (by decide))
                    clear hoo ho hgr hat
                    refine hKK.out _ _ (fun _ => hHeld) ?_
                    clear hKK KK
                    (try simp only [Act.put, List.setIfInBounds_toArray, List.set_cons_zero, List.set_cons_succ])
                    refine wpAnyT_all (l := [12]) (by kernel_rfl) (by decide) ?_
                    intro i hi
                    simp only [List.mem_cons, List.not_mem_nil, or_false] at hi
                    subst hi
                    refine ⟨_, by (simp only [List.getElem?_toArray, List.getElem?_cons_zero, List.getElem?_cons_succ]; rfl), fun KK hKK => ?_⟩
                    have hoo := HTACBab.out.oc
                    rw [HNK.out] at hoo
                    refine step_append_int rfl (.tmp 81) (.tmp 83) rfl g (.slice kA nk kc) nk _ (by simp [Act.eval]) hoo (ar : Int) ⟨hc, 0, none⟩ 1 (by simp [Act.eval]) (by rw [cell_of_row _ _ _ _ _ _ HOACBabc.out.1]; rfl) (by omega) (by have h1 := HBACBab.out.size; exact Nat.le_trans hgc h1) ?_
                    intro vx wACBabc ho hgr hat
                    obtain ⟨kA2, kc2, rfl⟩ := own_formE ho
                    have HTACBabc := hid (HTACBab.out.appC (ar : Int) (by rw [HNK.out]; exact ho) hgr hat)
                    have HFACBabc := hid (HFACBab.out.appC hgr hat)
                    have HKACBabc : Hid (∀ T, T ≠ 3 → Keep T wc wACBabc) := hid (fun T hT => (HKACBab.out T hT).trans (keep_grown hoo hT hgr))
                    have HBACBabc : Hid (Below g wc wACBabc) := hid (below_ownE HBACBab.out hoo hgr (by have h1 := HBACBab.out.size; exact Nat.le_trans hgc h1) (Nat.le_refl _))
                    have hHeld := HSM.out _ (HKACBabc.out 26 (by decide))
                    clear hoo ho hgr hat
                    refine hKK.out _ _ (fun _ => hHeld) ?_
                    clear hKK KK
                    (try simp only [Act.put, List.setIfInBounds_toArray, List.set_cons_zero, List.set_cons_succ])
                    refine wpAnyT_all (l := [13]) (by kernel_rfl) (by decide) ?_
                    intro i hi
                    simp only [List.mem_cons, List.not_mem_nil, or_false] at hi
                    subst hi
                    refine ⟨_, by (simp only [List.getElem?_toArray, List.getElem?_cons_zero, List.getElem?_cons_succ]; rfl), fun KK hKK => ?_⟩
                    go_simp
                    refine hKK.out _ _ (fun _ => hHeld) ?_
                    clear hKK KK
                    (try simp only [Act.put, List.setIfInBounds_toArray, List.set_cons_zero, List.set_cons_succ])
                    refine wpAnyT_all (l := [14]) (by kernel_rfl) (by decide) ?_
                    intro i hi
                    simp only [List.mem_cons, List.not_mem_nil, or_false] at hi
                    subst hi
                    refine ⟨_, by (simp only [List.getElem?_toArray, List.getElem?_cons_zero, List.getElem?_cons_succ]; rfl), fun KK hKK => ?_⟩
                    go_simp
                    refine hKK.out _ _ (fun _ => hHeld) ?_
                    clear hKK KK
                    (try simp only [Act.put, List.setIfInBounds_toArray, List.set_cons_zero, List.set_cons_succ])
                    refine wpAnyT_all (l := [15]) (by kernel_rfl) (by decide) ?_
                    intro i hi
                    simp only [List.mem_cons, List.not_mem_nil, or_false] at hi
                    subst hi
                    refine ⟨_, by (simp only [List.getElem?_toArray, List.getElem?_cons_zero, List.getElem?_cons_succ]; rfl), fun KK hKK => ?_⟩
                    go_simp
                    refine hKK.out _ _ (fun h => absurd h (by decide)) ?_
                    clear hKK KK
                    (try simp only [Act.put, List.setIfInBounds_toArray, List.set_cons_zero, List.set_cons_succ])
                    refine wpAnyT_done (by kernel_rfl) ?_ _
                    go_wp2_with fail
                    go_meet
                    exact ⟨HTACBabc, hid HFACBabc.out.ov, HKACBabc, HBACBabc⟩
              · refine ⟨_, by (simp only [List.getElem?_toArray, List.getElem?_cons_zero, List.getElem?_cons_succ]; rfl), fun KK hKK => ?_⟩
                go_simp
                obtain ⟨wB, hW⟩ : ∃ X, (wc.alloc (.cells #[.int .i64 idl] 3)).drew = X := ⟨_, rfl⟩
                have hbx : Below wc.drew.heap.size wc.drew wB := by rw [← hW]; exact (al1 wc.drew _)
                have HOB : Hid (One wB wc.heap.size idl (.slice tA nt tc) (.slice iA ni ic) (.slice kA nk kc)) := hid (by rw [← hW]; exact one_new HT7.out _)
                obtain ⟨hb, hh⟩ : ∃ h, wc.heap.size = h := ⟨_, rfl⟩
                rw [hh] at HOB
                have HTB := hid (HT7.out.keep (keep_below hbx))
                have HFB := hid (HF7.out.keep (keep_below hbx))
                have HKB : Hid (∀ T, T ≠ 3 → Keep T wc wB) := hid (fun T hT => (HKD.out T hT).trans (keep_below hbx))
                have HBB : Hid (Below g wc wB) := hid (HBD.out.trans (hbx.mono (by have h1 := HBD.out.size; exact Nat.le_trans hgc h1)))
                rw [hW]
                (try rw [hh])
                have hHeld := HSM.out _ (HKB.out 26 (by decide))
                clear hbx hW hh
                refine hKK.out _ _ (fun _ => hHeld) ?_
                clear hKK KK
                (try simp only [Act.put, List.setIfInBounds_toArray, List.set_cons_zero, List.set_cons_succ])
                refine wpAnyT_all (l := [2, 11]) (by kernel_rfl) (by decide) ?_
                intro i hi
                simp only [List.mem_cons, List.not_mem_nil, or_false] at hi
                rcases hi with rfl | rfl
                · refine ⟨_, by (simp only [List.getElem?_toArray, List.getElem?_cons_zero, List.getElem?_cons_succ]; rfl), fun KK hKK => ?_⟩
                  go_simp
                  obtain ⟨wBA, hW⟩ : ∃ X, wB.alloc (.cells #[.int .i64 nw2] 3) = X := ⟨_, rfl⟩
                  have hbx : Below wB.heap.size wB wBA := by rw [← hW]; exact al1 _ _
                  have HOBA : Hid (One wBA wB.heap.size nw2 (.slice tA nt tc) (.slice iA ni ic) (.slice kA nk kc)) := hid (by rw [← hW]; exact one_new HTB.out _)
                  obtain ⟨ha, hh⟩ : ∃ h, wB.heap.size = h := ⟨_, rfl⟩
                  rw [hh] at HOBA
                  have HTBA := hid (HTB.out.keep (keep_below hbx))
                  have HFBA := hid (HFB.out.keep (keep_below hbx))
                  have HKBA : Hid (∀ T, T ≠ 3 → Keep T wc wBA) := hid (fun T hT => (HKB.out T hT).trans (keep_below hbx))
                  have HBBA : Hid (Below g wc wBA) := hid (HBB.out.trans (hbx.mono (by have h1 := HBB.out.size; exact Nat.le_trans hgc h1)))
                  have HOBAb : Hid (One wBA hb idl (.slice tA nt tc) (.slice iA ni ic) (.slice kA nk kc)) := hid (by rw [← hW]; exact HOB.out.alloc _)
                  rw [hW]
                  (try rw [hh])
                  have hHeld := HSM.out _ (HKBA.out 26 (by decide))
                  clear hbx hW hh
                  refine hKK.out _ _ (fun _ => hHeld) ?_
                  clear hKK KK
                  (try simp only [Act.put, List.setIfInBounds_toArray, List.set_cons_zero, List.set_cons_succ])
                  refine wpAnyT_all (l := [3, 11]) (by kernel_rfl) (by decide) ?_
                  intro i hi
                  simp only [List.mem_cons, List.not_mem_nil, or_false] at hi
                  rcases hi with rfl | rfl
                  · refine ⟨_, by (simp only [List.getElem?_toArray, List.getElem?_cons_zero, List.getElem?_cons_succ]; rfl), fun KK hKK => ?_⟩
                    have hoo := HTBA.out.oa
                    rw [HNT.out] at hoo
                    refine step_append_int rfl (.tmp 72) (.tmp 74) rfl g (.slice tA nt tc) nt _ (by simp [Act.eval]) hoo nw2 ⟨ha, 0, none⟩ 1 (by simp [Act.eval]) (by rw [cell_of_row _ _ _ _ _ _ HOBA.out.1]; rfl) (by omega) (by have h1 := HBBA.out.size; exact Nat.le_trans hgc h1) ?_
                    intro vx wBAa ho hgr hat
                    obtain ⟨tA2, tc2, rfl⟩ := own_formE ho
                    have HTBAa := hid (HTBA.out.appA nw2 (by rw [HNT.out]; exact ho) hgr hat)
                    have HFBAa := hid (HFBA.out.appA hgr hat)
                    have HKBAa : Hid (∀ T, T ≠ 3 → Keep T wc wBAa) := hid (fun T hT => (HKBA.out T hT).trans (keep_grown hoo hT hgr))
                    have HBBAa : Hid (Below g wc wBAa) := hid (below_ownE HBBA.out hoo hgr (by have h1 := HBBA.out.size; exact Nat.le_trans hgc h1) (Nat.le_refl _))
                    have HOBAab := hid (HOBAb.out.appA hgr hat)
                    have hHeld := HSM.out _ (HKBAa.out 26 (by decide))
                    clear hoo ho hgr hat
                    refine hKK.out _ _ (fun _ => hHeld) ?_
                    clear hKK KK
                    (try simp only [Act.put, List.setIfInBounds_toArray, List.set_cons_zero, List.set_cons_succ])
                    refine wpAnyT_all (l := [8, 11]) (by kernel_rfl) (by decide) ?_
                    intro i hi
                    simp only [List.mem_cons, List.not_mem_nil, or_false] at hi
                    rcases hi with rfl | rfl
                    · refine ⟨_, by (simp only [List.getElem?_toArray, List.getElem?_cons_zero, List.getElem?_cons_succ]; rfl), fun KK hKK => ?_⟩
                      have hoo := HTBAa.out.ob
                      rw [HNI.out] at hoo
                      refine step_append_int rfl (.tmp 76) (.tmp 79) rfl g (.slice iA ni ic) ni _ (by simp [Act.eval]) hoo idl ⟨hb, 0, none⟩ 1 (by simp [Act.eval]) (by rw [cell_of_row _ _ _ _ _ _ HOBAab.out.1]; rfl) (by omega) (by have h1 := HBBAa.out.size; exact Nat.le_trans hgc h1) ?_
                      intro vx wBAab ho hgr hat
                      obtain ⟨iA2, ic2, rfl⟩ := own_formE ho
                      have HTBAab := hid (HTBAa.out.appB idl (by rw [HNI.out]; exact ho) hgr hat)
                      have HFBAab := hid (HFBAa.out.appB hgr hat)
                      have HKBAab : Hid (∀ T, T ≠ 3 → Keep T wc wBAab) := hid (fun T hT => (HKBAa.out T hT).trans (keep_grown hoo hT hgr))
                      have HBBAab : Hid (Below g wc wBAab) := hid (below_ownE HBBAa.out hoo hgr (by have h1 := HBBAa.out.size; exact Nat.le_trans hgc h1) (Nat.le_refl _))
                      have hHeld := HSM.out _ (HKBAab.out 26 (by decide))
                      clear hoo ho hgr hat
                      refine hKK.out _ _ (fun _ => hHeld) ?_
                      clear hKK KK
                      (try simp only [Act.put, List.setIfInBounds_toArray, List.set_cons_zero, List.set_cons_succ])
                      refine wpAnyT_all (l := [11]) (by kernel_rfl) (by decide) ?_
                      intro i hi
                      simp only [List.mem_cons, List.not_mem_nil, or_false] at hi
                      subst hi
                      refine ⟨_, by (simp only [List.getElem?_toArray, List.getElem?_cons_zero, List.getElem?_cons_succ]; rfl), fun KK hKK => ?_⟩
                      go_simp
                      obtain ⟨wBAabC, hW⟩ : ∃ X, wBAab.alloc (.cells #[.int .i64 (ar : Int)] 3) = X := ⟨_, rfl⟩
                      have hbx : Below wBAab.heap.size wBAab wBAabC := by rw [← hW]; exact al1 _ _
                      have HOBAabC : Hid (One wBAabC wBAab.heap.size (ar : Int) (.slice tA2 (nt + 1) tc2) (.slice iA2 (ni + 1) ic2) (.slice kA nk kc)) := hid (by rw [← hW]; exact one_new HTBAab.out _)
                      obtain ⟨hc, hh⟩ : ∃ h, wBAab.heap.size = h := ⟨_, rfl⟩
                      rw [hh] at HOBAabC
                      have HTBAabC := hid (HTBAab.out.keep (keep_below hbx))
                      have HFBAabC := hid (HFBAab.out.keep (keep_below hbx))
                      have HKBAabC : Hid (∀ T, T ≠ 3 → Keep T wc wBAabC) := hid (fun T hT => (HKBAab.out T hT).trans (keep_below hbx))
                      have HBBAabC : Hid (Below g wc wBAabC) := hid (HBBAab.out.trans (hbx.mono (by have h1 := HBBAab.out.size; exact Nat.le_trans hgc h1)))
                      rw [hW]
                      (try rw [hh])
                      have hHeld := HSM.out _ (HKBAabC.out 26 (by decide))
                      clear hbx hW hh
                      refine hKK.out _ _ (fun _ => hHeld) ?_
                      clear hKK KK
                      (try simp only [Act.put, List.setIfInBounds_toArray, List.set_cons_zero, List.set_cons_succ])
                      refine wpAnyT_all (l := [12]) (by kernel_rfl) (by decide) ?_
                      intro i hi
                      simp only [List.mem_cons, List.not_mem_nil, or_false] at hi
                      subst hi
                      refine ⟨_, by (simp only [List.getElem?_toArray, List.getElem?_cons_zero, List.getElem?_cons_succ]; rfl), fun KK hKK => ?_⟩
                      have hoo := HTBAabC.out.oc
                      rw [HNK.out] at hoo
                      refine step_append_int rfl (.tmp 81) (.tmp 83) rfl g (.slice kA nk kc) nk _ (by simp [Act.eval]) hoo (ar : Int) ⟨hc, 0, none⟩ 1 (by simp [Act.eval]) (by rw [cell_of_row _ _ _ _ _ _ HOBAabC.out.1]; rfl) (by omega) (by have h1 := HBBAabC.out.size; exact Nat.le_trans hgc h1) ?_
                      intro vx wBAabCc ho hgr hat
                      obtain ⟨kA2, kc2, rfl⟩ := own_formE ho
                      have HTBAabCc := hid (HTBAabC.out.appC (ar : Int) (by rw [HNK.out]; exact ho) hgr hat)
                      have HFBAabCc := hid (HFBAabC.out.appC hgr hat)
                      have HKBAabCc : Hid (∀ T, T ≠ 3 → Keep T wc wBAabCc) := hid (fun T hT => (HKBAabC.out T hT).trans (keep_grown hoo hT hgr))
                      have HBBAabCc : Hid (Below g wc wBAabCc) := hid (below_ownE HBBAabC.out hoo hgr (by have h1 := HBBAabC.out.size; exact Nat.le_trans hgc h1) (Nat.le_refl _))
                      have hHeld := HSM.out _ (HKBAabCc.out 26 (by decide))
                      clear hoo ho hgr hat
                      refine hKK.out _ _ (fun _ => hHeld) ?_
                      clear hKK KK
                      (try simp only [Act.put, List.setIfInBounds_toArray, List.set_cons_zero, List.set_cons_succ])
                      refine wpAnyT_all (l := [13]) (by kernel_rfl) (by decide) ?_
                      intro i hi
                      simp only [List.mem_cons, List.not_mem_nil, or_false] at hi
                      subst hi
                      refine ⟨_, by (simp only [List.getElem?_toArray, List.getElem?_cons_zero, List.getElem?_cons_succ]; rfl), fun KK hKK => ?_⟩
                      go_simp
                      refine hKK.out _ _ (fun _ => hHeld) ?_
                      clear hKK KK
                      (try simp only [Act.put, List.setIfInBounds_toArray, List.set_cons_zero, List.set_cons_succ])
                      refine wpAnyT_all (l := [14]) (by kernel_rfl) (by decide) ?_
                      intro i hi
                      simp only [List.mem_cons, List.not_mem_nil, or_false] at hi
                      subst hi
                      refine ⟨_, by (simp only [List.getElem?_toArray, List.getElem?_cons_zero, List.getElem?_cons_succ]; rfl), fun KK hKK => ?_⟩
                      go_simp
                      refine hKK.out _ _ (fun _ => hHeld) ?_
                      clear hKK KK
                      (try simp only [Act.put, List.setIfInBounds_toArray, List.set_cons_zero, List.set_cons_succ])
                      refine wpAnyT_all (l := [15]) (by kernel_rfl) (by decide) ?_
                      intro i hi
                      simp only [List.mem_cons, List.not_mem_nil, or_false] at hi
                      subst hi
                      refine ⟨_, by (simp only [List.getElem?_toArray, List.getElem?_cons_zero, List.getElem?_cons_succ]; rfl), fun KK hKK => ?_⟩
                      go_simp
                      refine hKK.out _ _ (fun h => absurd h (by decide)) ?_
                      clear hKK KK
                      (try simp only [Act.put, List.setIfInBounds_toArray, List.set_cons_zero, List.set_cons_succ])
                      refine wpAnyT_done (by kernel_rfl) ?_ _
                      go_wp2_with fail
                      go_meet
                      exact ⟨HTBAabCc, hid HFBAabCc.out.ov, HKBAabCc, HBBAabCc⟩
                    · refine ⟨_, by (simp only [List.getElem?_toArray, List.getElem?_cons_zero, List.getElem?_cons_succ]; rfl), fun KK hKK => ?_⟩
                      go_simp
                      obtain ⟨wBAaC, hW⟩ : ∃ X, wBAa.alloc (.cells #[.int .i64 (ar : Int)] 3) = X := ⟨_, rfl⟩
                      have hbx : Below wBAa.heap.size wBAa wBAaC := by rw [← hW]; exact al1 _ _
                      have HOBAaC : Hid (One wBAaC wBAa.heap.size (ar : Int) (.slice tA2 (nt + 1) tc2) (.slice iA ni ic) (.slice kA nk kc)) := hid (by rw [← hW]; exact one_new HTBAa.out _)
                      obtain ⟨hc, hh⟩ : ∃ h, wBAa.heap.size = h := ⟨_, rfl⟩
                      rw [hh] at HOBAaC
                      have HTBAaC := hid (HTBAa.out.keep (keep_below hbx))
                      have HFBAaC := hid (HFBAa.out.keep (keep_below hbx))
                      have HKBAaC : Hid (∀ T, T ≠ 3 → Keep T wc wBAaC) := hid (fun T hT => (HKBAa.out T hT).trans (keep_below hbx))
                      have HBBAaC : Hid (Below g wc wBAaC) := hid (HBBAa.out.trans (hbx.mono (by have h1 := HBBAa.out.size; exact Nat.le_trans hgc h1)))
                      have HOBAaCb : Hid (One wBAaC hb idl (.slice tA2 (nt + 1) tc2) (.slice iA ni ic) (.slice kA nk kc)) := hid (by rw [← hW]; exact HOBAab.out.alloc _)
                      rw [hW]
                      (try rw [hh])
                      have hHeld := HSM.out _ (HKBAaC.out 26 (by decide))
                      clear hbx hW hh
                      refine hKK.out _ _ (fun _ => hHeld) ?_
                      clear hKK KK
                      (try simp only [Act.put, List.setIfInBounds_toArray, List.set_cons_zero, List.set_cons_succ])
                      refine wpAnyT_all (l := [8]) (by kernel_rfl) (by decide) ?_
                      intro i hi
                      simp only [List.mem_cons, List.not_mem_nil, or_false] at hi
                      subst hi
                      refine ⟨_, by (simp only [List.getElem?_toArray, List.getElem?_cons_zero, List.getElem?_cons_succ]; rfl), fun KK hKK => ?_⟩
                      have hoo := HTBAaC.out.ob
                      rw [HNI.out] at hoo
                      refine step_append_int rfl (.tmp 76) (.tmp 79) rfl g (.slice iA ni ic) ni _ (by simp [Act.eval]) hoo idl ⟨hb, 0, none⟩ 1 (by simp [Act.eval]) (by rw [cell_of_row _ _ _ _ _ _ HOBAaCb.out.1]; rfl) (by omega) (by have h1 := HBBAaC.out.size; exact Nat.le_trans hgc h1) ?_
                      intro vx wBAaCb ho hgr hat
                      obtain ⟨iA2, ic2, rfl⟩ := own_formE ho
                      have HTBAaCb := hid (HTBAaC.out.appB idl (by rw [HNI.out]; exact ho) hgr hat)
                      have HFBAaCb := hid (HFBAaC.out.appB hgr hat)
                      have HKBAaCb : Hid (∀ T, T ≠ 3 → Keep T wc wBAaCb) := hid (fun T hT => (HKBAaC.out T hT).trans (keep_grown hoo hT hgr))
                      have HBBAaCb : Hid (Below g wc wBAaCb) := hid (below_ownE HBBAaC.out hoo hgr (by have h1 := HBBAaC.out.size; exact Nat.le_trans hgc h1) (Nat.le_refl _))
                      have HOBAaCbc := hid (HOBAaC.out.appB hgr hat)
                      have hHeld := HSM.out _ (HKBAaCb.out 26 (by decide))
                      clear hoo ho hgr hat
                      refine hKK.out _ _ (fun _ => hHeld) ?_
                      clear hKK KK
                      (try simp only [Act.put, List.setIfInBounds_toArray, List.set_cons_zero, List.set_cons_succ])
                      refine wpAnyT_all (l := [12]) (by kernel_rfl) (by decide) ?_
                      intro i hi
                      simp only [List.mem_cons, List.not_mem_nil, or_false] at hi
                      subst hi
                      refine ⟨_, by (simp only [List.getElem?_toArray, List.getElem?_cons_zero, List.getElem?_cons_succ]; rfl), fun KK hKK => ?_⟩
                      have hoo := HTBAaCb.out.oc
                      rw [HNK.out] at hoo
                      refine step_append_int rfl (.tmp 81) (.tmp 83) rfl g (.slice kA nk kc) nk _ (by simp [Act.eval]) hoo (ar : Int) ⟨hc, 0, none⟩ 1 (by simp [Act.eval]) (by rw [cell_of_row _ _ _ _ _ _ HOBAaCbc.out.1]; rfl) (by omega) (by have h1 := HBBAaCb.out.size; exact Nat.le_trans hgc h1) ?_
                      intro vx wBAaCbc ho hgr hat
                      obtain ⟨kA2, kc2, rfl⟩ := own_formE ho
                      have HTBAaCbc := hid (HTBAaCb.out.appC (ar : Int) (by rw [HNK.out]; exact ho) hgr hat)
                      have HFBAaCbc := hid (HFBAaCb.out.appC hgr hat)
                      have HKBAaCbc : Hid (∀ T, T ≠ 3 → Keep T wc wBAaCbc) := hid (fun T hT => (HKBAaCb.out T hT).trans (keep_grown hoo hT hgr))
                      have HBBAaCbc : Hid (Below g wc wBAaCbc) := hid (below_ownE HBBAaCb.out hoo hgr (by have h1 := HBBAaCb.out.size; exact Nat.le_trans hgc h1) (Nat.le_refl _))
                      have hHeld := HSM.out _ (HKBAaCbc.out 26 (by decide))
                      clear hoo ho hgr hat
                      refine hKK.out _ _ (fun _ => hHeld) ?_
                      clear hKK KK
                      (try simp only [Act.put, List.setIfInBounds_toArray, List.set_cons_zero, List.set_cons_succ])
                      refine wpAnyT_all (l := [13]) (by kernel_rfl) (by decide) ?_
                      intro i hi
                      simp only [List.mem_cons, List.not_mem_nil, or_false] at hi
                      subst hi
                      refine ⟨_, by (simp only [List.getElem?_toArray, List.getElem?_cons_zero, List.getElem?_cons_succ]; rfl), fun KK hKK => ?_⟩
                      go_simp
                      refine hKK.out _ _ (fun _ => hHeld) ?_
                      clear hKK KK
                      (try simp only [Act.put, List.setIfInBounds_toArray, List.set_cons_zero, List.set_cons_succ])
                      refine wpAnyT_all (l := [14]) (by kernel_rfl) (by decide) ?_
                      intro i hi
                      simp only [List.mem_cons, List.not_mem_nil, or_false] at hi
                      subst hi
                      refine ⟨_, by (simp only [List.getElem?_toArray, List.getElem?_cons_zero, List.getElem?_cons_succ]; rfl), fun KK hKK => ?_⟩
                      go_simp
                      refine hKK.out _ _ (fun _ => hHeld) ?_
                      clear hKK KK
                      (try simp only [Act.put, List.setIfInBounds_toArray, List.set_cons_zero, List.set_cons_succ])
                      refine wpAnyT_all (l := [15]) (by kernel_rfl) (by decide) ?_
                      intro i hi
                      simp only [List.mem_cons, List.not_mem_nil, or_false] at hi
                      subst hi
                      refine ⟨_, by (simp only [List.getElem?_toArray, List.getElem?_cons_zero, List.getElem?_cons_succ]; rfl), fun KK hKK => ?_⟩
                      go_simp
                      refine hKK.out _ _ (fun h => absurd h (by decide)) ?_
                      clear hKK KK
                      (try simp only [Act.put, List.setIfInBounds_toArray, List.set_cons_zero, List.set_cons_succ])
                      refine wpAnyT_done (by kernel_rfl) ?_ _
                      go_wp2_with fail
                      go_meet
                      exact ⟨HTBAaCbc, hid HFBAaCbc.out.ov, HKBAaCbc, HBBAaCbc⟩
                  · refine ⟨_, by (simp only [List.getElem?_toArray, List.getElem?_cons_zero, List.getElem?_cons_succ]; rfl), fun KK hKK => ?_⟩
                    go_simp
                    obtain ⟨wBAC, hW⟩ : ∃ X, wBA.alloc (.cells #[.int .i64 (ar : Int)] 3) = X := ⟨_, rfl⟩
                    have hbx : Below wBA.heap.size wBA wBAC := by rw [← hW]; exact al1 _ _
                    have HOBAC : Hid (One wBAC wBA.heap.size (ar : Int) (.slice tA nt tc) (.slice iA ni ic) (.slice kA nk kc)) := hid (by rw [← hW]; exact one_new HTBA.out _)
                    obtain ⟨hc, hh⟩ : ∃ h, wBA.heap.size = h := ⟨_, rfl⟩
                    rw [hh] at HOBAC
                    have HTBAC := hid (HTBA.out.keep (keep_below hbx))
                    have HFBAC := hid (HFBA.out.keep (keep_below hbx))
                    have HKBAC : Hid (∀ T, T ≠ 3 → Keep T wc wBAC) := hid (fun T hT => (HKBA.out T hT).trans (keep_below hbx))
                    have HBBAC : Hid (Below g wc wBAC) := hid (HBBA.out.trans (hbx.mono (by have h1 := HBBA.out.size; exact Nat.le_trans hgc h1)))
                    have HOBACb : Hid (One wBAC hb idl (.slice tA nt tc) (.slice iA ni ic) (.slice kA nk kc)) := hid (by rw [← hW]; exact HOBAb.out.alloc _)
                    have HOBACa : Hid (One wBAC ha nw2 (.slice tA nt tc) (.slice iA ni ic) (.slice kA nk kc)) := hid (by rw [← hW]; exact HOBA.out.alloc _)
                    rw [hW]
                    (try rw [hh])
                    have hHeld := HSM.out _ (HKBAC.out 26 (by decide))
                    clear hbx hW hh
                    refine hKK.out _ _ (fun _ => hHeld) ?_
                    clear hKK KK
                    (try simp only [Act.put, List.setIfInBounds_toArray, List.set_cons_zero, List.set_cons_succ])
                    refine wpAnyT_all (l := [3]) (by kernel_rfl) (by decide) ?_
                    intro i hi
                    simp only [List.mem_cons, List.not_mem_nil, or_false] at hi
                    subst hi
                    refine ⟨_, by (simp only [List.getElem?_toArray, List.getElem?_cons_zero, List.getElem?_cons_succ]; rfl), fun KK hKK => ?_⟩
                    have hoo := HTBAC.out.oa
                    rw [HNT.out] at hoo
                    refine step_append_int rfl (.tmp 72) (.tmp 74) rfl g (.slice tA nt tc) nt _ (by simp [Act.eval]) hoo nw2 ⟨ha, 0, none⟩ 1 (by simp [Act.eval]) (by rw [cell_of_row _ _ _ _ _ _ HOBACa.out.1]; rfl) (by omega) (by have h1 := HBBAC.out.size; exact Nat.le_trans hgc h1) ?_
                    intro vx wBACa ho hgr hat
                    obtain ⟨tA2, tc2, rfl⟩ := own_formE ho
                    have HTBACa := hid (HTBAC.out.appA nw2 (by rw [HNT.out]; exact ho) hgr hat)
                    have HFBACa := hid (HFBAC.out.appA hgr hat)
                    have HKBACa : Hid (∀ T, T ≠ 3 → Keep T wc wBACa) := hid (fun T hT => (HKBAC.out T hT).trans (keep_grown hoo hT hgr))
                    have HBBACa : Hid (Below g wc wBACa) := hid (below_ownE HBBAC.out hoo hgr (by have h1 := HBBAC.out.size; exact Nat.le_trans hgc h1) (Nat.le_refl _))
                    have HOBACab := hid (HOBACb.out.appA hgr hat)
                    have HOBACac := hid (HOBAC.out.appA hgr hat)
                    have hHeld := HSM.out _ (HKBACa.out 26 (by decide))
                    clear hoo ho hgr hat
                    refine hKK.out _ _ (fun _ => hHeld) ?_
                    clear hKK KK
                    (try simp only [Act.put, List.setIfInBounds_toArray, List.set_cons_zero, List.set_cons_succ])
                    refine wpAnyT_all (l := [8]) (by kernel_rfl) (by decide) ?_
                    intro i hi
                    simp only [List.mem_cons, List.not_mem_nil, or_false] at hi
                    subst hi
                    refine ⟨_, by (simp only [List.getElem?_toArray, List.getElem?_cons_zero, List.getElem?_cons_succ]; rfl), fun KK hKK => ?_⟩
                    have hoo := HTBACa.out.ob
                    rw [HNI.out] at hoo
                    refine step_append_int rfl (.tmp 76) (.tmp 79) rfl g (.slice iA ni ic) ni _ (by simp [Act.eval]) hoo idl ⟨hb, 0, none⟩ 1 (by simp [Act.eval]) (by rw [cell_of_row _ _ _ _ _ _ HOBACab.out.1]; rfl) (by omega) (by have h1 := HBBACa.out.size; exact Nat.le_trans hgc h1) ?_
                    intro vx wBACab ho hgr hat
                    obtain ⟨iA2, ic2, rfl⟩ := own_formE ho
                    have HTBACab := hid (HTBACa.out.appB idl (by rw [HNI.out]; exact ho) hgr hat)
                    have HFBACab := hid (HFBACa.out.appB hgr hat)
                    have HKBACab : Hid (∀ T, T ≠ 3 → Keep T wc wBACab) := hid (fun T hT => (HKBACa.out T hT).trans (keep_grown hoo hT hgr))
                    have HBBACab : Hid (Below g wc wBACab) := hid (below_ownE HBBACa.out hoo hgr (by have h1 := HBBACa.out.size; exact Nat.le_trans hgc h1) (Nat.le_refl _))
                    have HOBACabc := hid (HOBACac.out.appB hgr hat)
                    have hHeld := HSM.out _ (HKBACab.out 26 (by decide))
                    clear hoo ho hgr hat
                    refine hKK.out _ _ (fun _ => hHeld) ?_
                    clear hKK KK
                    (try simp only [Act.put, List.setIfInBounds_toArray, List.set_cons_zero, List.set_cons_succ])
                    refine wpAnyT_all (l := [12]) (by kernel_rfl) (by decide) ?_
                    intro i hi
                    simp only [List.mem_cons, List.not_mem_nil, or_false] at hi
                    subst hi
                    refine ⟨_, by (simp only [List.getElem?_toArray, List.getElem?_cons_zero, List.getElem?_cons_succ]; rfl), fun KK hKK => ?_⟩
                    have hoo := HTBACab.out.oc
                    rw [HNK.out] at hoo
                    refine step_append_int rfl (.tmp 81) (.tmp 83) rfl g (.slice kA nk kc) nk _ (by simp [Act.eval]) hoo (ar : Int) ⟨hc, 0, none⟩ 1 (by simp [Act.eval]) (by rw [cell_of_row _ _ _ _ _ _ HOBACabc.out.1]; rfl) (by omega) (by have h1 := HBBACab.out.size; exact Nat.le_trans hgc h1) ?_
                    intro vx wBACabc ho hgr hat
                    obtain ⟨kA2, kc2, rfl⟩ := own_formE ho
                    have HTBACabc := hid (HTBACab.out.appC (ar : Int) (by rw [HNK.out]; exact ho) hgr hat)
                    have HFBACabc := hid (HFBACab.out.appC hgr hat)
                    have HKBACabc : Hid (∀ T, T ≠ 3 → Keep T wc wBACabc) := hid (fun T hT => (HKBACab.out T hT).trans (keep_grown hoo hT hgr))
                    have HBBACabc : Hid (Below g wc wBACabc) := hid (below_ownE HBBACab.out hoo hgr (by have h1 := HBBACab.out.size; exact Nat.le_trans hgc h1) (Nat.le_refl _))
                    have hHeld := HSM.out _ (HKBACabc.out 26 (by decide))
                    clear hoo ho hgr hat
                    refine hKK.out _ _ (fun _ => hHeld) ?_
                    clear hKK KK
                    (try simp only [Act.put, List.setIfInBounds_toArray, List.set_cons_zero, List.set_cons_succ])
                    refine wpAnyT_all (l := [13]) (by kernel_rfl) (by decide) ?_
                    intro i hi
                    simp only [List.mem_cons, List.not_mem_nil, or_false] at hi
                    subst hi
                    refine ⟨_, by (simp only [List.getElem?_toArray, List.getElem?_cons_zero, List.getElem?_cons_succ]; rfl), fun KK hKK => ?_⟩
                    go_simp
                    refine hKK.out _ _ (fun _ => hHeld) ?_
                    clear hKK KK
                    (try simp only [Act.put, List.setIfInBounds_toArray, List.set_cons_zero, List.set_cons_succ])
                    refine wpAnyT_all (l := [14]) (by kernel_rfl) (by decide) ?_
                    intro i hi
                    simp only [List.mem_cons, List.not_mem_nil, or_false] at hi
                    subst hi
                    refine ⟨_, by (simp only [List.getElem?_toArray, List.getElem?_cons_zero, List.getElem?_cons_succ]; rfl), fun KK hKK => ?_⟩
                    go_simp
                    refine hKK.out _ _ (fun _ => hHeld) ?_
                    clear hKK KK
                    (try simp only [Act.put, List.setIfInBounds_toArray, List.set_cons_zero, List.set_cons_succ])
                    refine wpAnyT_all (l := [15]) (by kernel_rfl) (by decide) ?_
                    intro i hi
                    simp only [List.mem_cons, List.not_mem_nil, or_false] at hi
                    subst hi
                    refine ⟨_, by (simp only [List.getElem?_toArray, List.getElem?_cons_zero, List.getElem?_cons_succ]; rfl), fun KK hKK => ?_⟩
                    go_simp
                    refine hKK.out _ _ (fun h => absurd h (by decide)) ?_
                    clear hKK KK
                    (try simp only [Act.put, List.setIfInBounds_toArray, List.set_cons_zero, List.set_cons_succ])
                    refine wpAnyT_done (by kernel_rfl) ?_ _
                    go_wp2_with fail
                    go_meet
                    exact ⟨HTBACabc, hid HFBACabc.out.ov, HKBACabc, HBBACabc⟩
                · refine ⟨_, by (simp only [List.getElem?_toArray, List.getElem?_cons_zero, List.getElem?_cons_succ]; rfl), fun KK hKK => ?_⟩
                  go_simp
                  obtain ⟨wBC, hW⟩ : ∃ X, wB.alloc (.cells #[.int .i64 (ar : Int)] 3) = X := ⟨_, rfl⟩
                  have hbx : Below wB.heap.size wB wBC := by rw [← hW]; exact al1 _ _
                  have HOBC : Hid (One wBC wB.heap.size (ar : Int) (.slice tA nt tc) (.slice iA ni ic) (.slice kA nk kc)) := hid (by rw [← hW]; exact one_new HTB.out _)
                  obtain ⟨hc, hh⟩ : ∃ h, wB.heap.size = h := ⟨_, rfl⟩
                  rw [hh] at HOBC
                  have HTBC := hid (HTB.out.keep (keep_below hbx))
                  have HFBC := hid (HFB.out.keep (keep_below hbx))
                  have HKBC : Hid (∀ T, T ≠ 3 → Keep T wc wBC) := hid (fun T hT => (HKB.out T hT).trans (keep_below hbx))
                  have HBBC : Hid (Below g wc wBC) := hid (HBB.out.trans (hbx.mono (by have h1 := HBB.out.size; exact Nat.le_trans hgc h1)))
                  have HOBCb : Hid (One wBC hb idl (.slice tA nt tc) (.slice iA ni ic) (.slice kA nk kc)) := hid (by rw [← hW]; exact HOB.out.alloc _)
                  rw [hW]
                  (try rw [hh])
                  have hHeld := HSM.out _ (HKBC.out 26 (by decide))
                  clear hbx hW hh
                  refine hKK.out _ _ (fun _ => hHeld) ?_
                  clear hKK KK
                  (try simp only [Act.put, List.setIfInBounds_toArray, List.set_cons_zero, List.set_cons_succ])
                  refine wpAnyT_all (l := [2]) (by kernel_rfl) (by decide) ?_
                  intro i hi
                  simp only [List.mem_cons, List.not_mem_nil, or_false] at hi
                  subst hi
                  refine ⟨_, by (simp only [List.getElem?_toArray, List.getElem?_cons_zero, List.getElem?_cons_succ]; rfl), fun KK hKK => ?_⟩
                  go_simp
                  obtain ⟨wBCA, hW⟩ : ∃ X, wBC.alloc (.cells #[.int .i64 nw2] 3) = X := ⟨_, rfl⟩
                  have hbx : Below wBC.heap.size wBC wBCA := by rw [← hW]; exact al1 _ _
                  have HOBCA : Hid (One wBCA wBC.heap.size nw2 (.slice tA nt tc) (.slice iA ni ic) (.slice kA nk kc)) := hid (by rw [← hW]; exact one_new HTBC.out _)
                  obtain ⟨ha, hh⟩ : ∃ h, wBC.heap.size = h := ⟨_, rfl⟩
                  rw [hh] at HOBCA
                  have HTBCA := hid (HTBC.out.keep (keep_below hbx))
                  have HFBCA := hid (HFBC.out.keep (keep_below hbx))
                  have HKBCA : Hid (∀ T, T ≠ 3 → Keep T wc wBCA) := hid (fun T hT => (HKBC.out T hT).trans (keep_below hbx))
                  have HBBCA : Hid (Below g wc wBCA) := hid (HBBC.out.trans (hbx.mono (by have h1 := HBBC.out.size; exact Nat.le_trans hgc h1)))
                  have HOBCAb : Hid (One wBCA hb idl (.slice tA nt tc) (.slice iA ni ic) (.slice kA nk kc)) := hid (by rw [← hW]; exact HOBCb.out.alloc _)
                  have HOBCAc : Hid (One wBCA hc (ar : Int) (.slice tA nt tc) (.slice iA ni ic) (.slice kA nk kc)) := hid (by rw [← hW]; exact HOBC.out.alloc _)
                  rw [hW]
                  (try rw [hh])
                  have hHeld := HSM.out _ (HKBCA.out 26 (by decide))
                  clear hbx hW hh
                  refine hKK.out _ _ (fun _ => hHeld) ?_
                  clear hKK KK
                  (try simp only [Act.put, List.setIfInBounds_toArray, List.set_cons_zero, List.set_cons_succ])
                  refine wpAnyT_all (l := [3]) (by kernel_rfl) (by decide) ?_
                  intro i hi
                  simp only [List.mem_cons, List.not_mem_nil, or_false] at hi
                  subst hi
                  refine ⟨_, by (simp only [List.getElem?_toArray, List.getElem?_cons_zero, List.getElem?_cons_succ]; rfl), fun KK hKK => ?_⟩
                  have hoo := HTBCA.out.oa
                  rw [HNT.out] at hoo
                  refine step_append_int rfl (.tmp 72) (.tmp 74) rfl g (.slice tA nt tc) nt _ (by simp [Act.eval]) hoo nw2 ⟨ha, 0, none⟩ 1 (by simp [Act.eval]) (by rw [cell_of_row _ _ _ _ _ _ HOBCA.out.1]; rfl) (by omega) (by have h1 := HBBCA.out.size; exact Nat.le_trans hgc h1) ?_
                  intro vx wBCAa ho hgr hat
                  obtain ⟨tA2, tc2, rfl⟩ := own_formE ho
                  have HTBCAa := hid (HTBCA.out.appA nw2 (by rw [HNT.out]; exact ho) hgr hat)
                  have HFBCAa := hid (HFBCA.out.appA hgr hat)
                  have HKBCAa : Hid (∀ T, T ≠ 3 → Keep T wc wBCAa) := hid (fun T hT => (HKBCA.out T hT).trans (keep_grown hoo hT hgr))
                  have HBBCAa : Hid (Below g wc wBCAa) := hid (below_ownE HBBCA.out hoo hgr (by have h1 := HBBCA.out.size; exact Nat.le_trans hgc h1) (Nat.le_refl _))
                  have HOBCAab := hid (HOBCAb.out.appA hgr hat)
                  have HOBCAac := hid (HOBCAc.out.appA hgr hat)
                  have hHeld := HSM.out _ (HKBCAa.out 26 (by decide))
                  clear hoo ho hgr hat
                  refine hKK.out _ _ (fun _ => hHeld) ?_
                  clear hKK KK
                  (try simp only [Act.put, List.setIfInBounds_toArray, List.set_cons_zero, List.set_cons_succ])
                  refine wpAnyT_all (l := [8]) (by kernel_rfl) (by decide) ?_
                  intro i hi
                  simp only [List.mem_cons, List.not_mem_nil, or_false] at hi
                  subst hi
                  refine ⟨_, by (simp only [List.getElem?_toArray, List.getElem?_cons_zero, List.getElem?_cons_succ]; rfl), fun KK hKK => ?_⟩
                  have hoo := HTBCAa.out.ob
                  rw [HNI.out] at hoo
                  refine step_append_int rfl (.tmp 76) (.tmp 79) rfl g (.slice iA ni ic) ni _ (by simp [Act.eval]) hoo idl ⟨hb, 0, none⟩ 1 (by simp [Act.eval]) (by rw [cell_of_row _ _ _ _ _ _ HOBCAab.out.1]; rfl) (by omega) (by have h1 := HBBCAa.out.size; exact Nat.le_trans hgc h1) ?_
                  intro vx wBCAab ho hgr hat
                  obtain ⟨iA2, ic2, rfl⟩ := own_formE ho
                  have HTBCAab := hid (HTBCAa.out.appB idl (by rw [HNI.out]; exact ho) hgr hat)
                  have HFBCAab := hid (HFBCAa.out.appB hgr hat)
                  have HKBCAab : Hid (∀ T, T ≠ 3 → Keep T wc wBCAab) := hid (fun T hT => (HKBCAa.out T hT).trans (keep_grown hoo hT hgr))
                  have HBBCAab : Hid (Below g wc wBCAab) := hid (below_ownE HBBCAa.out hoo hgr (by have h1 := HBBCAa.out.size; exact Nat.le_trans hgc h1) (Nat.le_refl _))
                  have HOBCAabc := hid (HOBCAac.out.appB hgr hat)
                  have hHeld := HSM.out _ (HKBCAab.out 26 (by decide))
                  clear hoo ho hgr hat
                  refine hKK.out _ _ (fun _ => hHeld) ?_
                  clear hKK KK
                  (try simp only [Act.put, List.setIfInBounds_toArray, List.set_cons_zero, List.set_cons_succ])
                  refine wpAnyT_all (l := [12]) (by kernel_rfl) (by decide) ?_
                  intro i hi
                  simp only [List.mem_cons, List.not_mem_nil, or_false] at hi
                  subst hi
                  refine ⟨_, by (simp only [List.getElem?_toArray, List.getElem?_cons_zero, List.getElem?_cons_succ]; rfl), fun KK hKK => ?_⟩
                  have hoo := HTBCAab.out.oc
                  rw [HNK.out] at hoo
                  refine step_append_int rfl (.tmp 81) (.tmp 83) rfl g (.slice kA nk kc) nk _ (by simp [Act.eval]) hoo (ar : Int) ⟨hc, 0, none⟩ 1 (by simp [Act.eval]) (by rw [cell_of_row _ _ _ _ _ _ HOBCAabc.out.1]; rfl) (by omega) (by have h1 := HBBCAab.out.size; exact Nat.le_trans hgc h1) ?_
                  intro vx wBCAabc ho hgr hat
                  obtain ⟨kA2, kc2, rfl⟩ := own_formE ho
                  have HTBCAabc := hid (HTBCAab.out.appC (ar : Int) (by rw [HNK.out]; exact ho) hgr hat)
                  have HFBCAabc := hid (HFBCAab.out.appC hgr hat)
                  have HKBCAabc : Hid (∀ T, T ≠ 3 → Keep T wc wBCAabc) := hid (fun T hT => (HKBCAab.out T hT).trans (keep_grown hoo hT hgr))
                  have HBBCAabc : Hid (Below g wc wBCAabc) := hid (below_ownE HBBCAab.out hoo hgr (by have h1 := HBBCAab.out.size; exact Nat.le_trans hgc h1) (Nat.le_refl _))
                  have hHeld := HSM.out _ (HKBCAabc.out 26 (by decide))
                  clear hoo ho hgr hat
                  refine hKK.out _ _ (fun _ => hHeld) ?_
                  clear hKK KK
                  (try simp only [Act.put, List.setIfInBounds_toArray, List.set_cons_zero, List.set_cons_succ])
                  refine wpAnyT_all (l := [13]) (by kernel_rfl) (by decide) ?_
                  intro i hi
                  simp only [List.mem_cons, List.not_mem_nil, or_false] at hi
                  subst hi
                  refine ⟨_, by (simp only [List.getElem?_toArray, List.getElem?_cons_zero, List.getElem?_cons_succ]; rfl), fun KK hKK => ?_⟩
                  go_simp
                  refine hKK.out _ _ (fun _ => hHeld) ?_
                  clear hKK KK
                  (try simp only [Act.put, List.setIfInBounds_toArray, List.set_cons_zero, List.set_cons_succ])
                  refine wpAnyT_all (l := [14]) (by kernel_rfl) (by decide) ?_
                  intro i hi
                  simp only [List.mem_cons, List.not_mem_nil, or_false] at hi
                  subst hi
                  refine ⟨_, by (simp only [List.getElem?_toArray, List.getElem?_cons_zero, List.getElem?_cons_succ]; rfl), fun KK hKK => ?_⟩
                  go_simp
                  refine hKK.out _ _ (fun _ => hHeld) ?_
                  clear hKK KK
                  (try simp only [Act.put, List.setIfInBounds_toArray, List.set_cons_zero, List.set_cons_succ])
                  refine wpAnyT_all (l := [15]) (by kernel_rfl) (by decide) ?_
                  intro i hi
                  simp only [List.mem_cons, List.not_mem_nil, or_false] at hi
                  subst hi
                  refine ⟨_, by (simp only [List.getElem?_toArray, List.getElem?_cons_zero, List.getElem?_cons_succ]; rfl), fun KK hKK => ?_⟩
                  go_simp
                  refine hKK.out _ _ (fun h => absurd h (by decide)) ?_
                  clear hKK KK
                  (try simp only [Act.put, List.setIfInBounds_toArray, List.set_cons_zero, List.set_cons_succ])
                  refine wpAnyT_done (by kernel_rfl) ?_ _
                  go_wp2_with fail
                  go_meet
                  exact ⟨HTBCAabc, hid HFBCAabc.out.ov, HKBCAabc, HBBCAabc⟩
              · refine ⟨_, by (simp only [List.getElem?_toArray, List.getElem?_cons_zero, List.getElem?_cons_succ]; rfl), fun KK hKK => ?_⟩
                go_simp
                obtain ⟨wC, hW⟩ : ∃ X, (wc.alloc (.cells #[.int .i64 (ar : Int)] 3)).drew = X := ⟨_, rfl⟩
                have hbx : Below wc.drew.heap.size wc.drew wC := by rw [← hW]; exact (al1 wc.drew _)
                have HOC : Hid (One wC wc.heap.size (ar : Int) (.slice tA nt tc) (.slice iA ni ic) (.slice kA nk kc)) := hid (by rw [← hW]; exact one_new HT7.out _)
                obtain ⟨hc, hh⟩ : ∃ h, wc.heap.size = h := ⟨_, rfl⟩
                rw [hh] at HOC
                have HTC := hid (HT7.out.keep (keep_below hbx))
                have HFC := hid (HF7.out.keep (keep_below hbx))
                have HKC : Hid (∀ T, T ≠ 3 → Keep T wc wC) := hid (fun T hT => (HKD.out T hT).trans (keep_below hbx))
                have HBC : Hid (Below g wc wC) := hid (HBD.out.trans (hbx.mono (by have h1 := HBD.out.size; exact Nat.le_trans hgc h1)))
                rw [hW]
                (try rw [hh])
                have hHeld := HSM.out _ (HKC.out 26 (by decide))
                clear hbx hW hh
                refine hKK.out _ _ (fun _ => hHeld) ?_
                clear hKK KK
                (try simp only [Act.put, List.setIfInBounds_toArray, List.set_cons_zero, List.set_cons_succ])
                refine wpAnyT_all (l := [2, 7]) (by kernel_rfl) (by decide) ?_
                intro i hi
                simp only [List.mem_cons, List.not_mem_nil, or_false] at hi
                rcases hi with rfl | rfl
                · refine ⟨_, by (simp only [List.getElem?_toArray, List.getElem?_cons_zero, List.getElem?_cons_succ]; rfl), fun KK hKK => ?_⟩
                  go_simp
                  obtain ⟨wCA, hW⟩ : ∃ X, wC.alloc (.cells #[.int .i64 nw2] 3) = X := ⟨_, rfl⟩
                  have hbx : Below wC.heap.size wC wCA := by rw [← hW]; exact al1 _ _
                  have HOCA : Hid (One wCA wC.heap.size nw2 (.slice tA nt tc) (.slice iA ni ic) (.slice kA nk kc)) := hid (by rw [← hW]; exact one_new HTC.out _)
                  obtain ⟨ha, hh⟩ : ∃ h, wC.heap.size = h := ⟨_, rfl⟩
                  rw [hh] at HOCA
                  have HTCA := hid (HTC.out.keep (keep_below hbx))
                  have HFCA := hid (HFC.out.keep (keep_below hbx))
                  have HKCA : Hid (∀ T, T ≠ 3 → Keep T wc wCA) := hid (fun T hT => (HKC.out T hT).trans (keep_below hbx))
                  have HBCA : Hid (Below g wc wCA) := hid (HBC.out.trans (hbx.mono (by have h1 := HBC.out.size; exact Nat.le_trans hgc h1)))
                  have HOCAc : Hid (One wCA hc (ar : Int) (.slice tA nt tc) (.slice iA ni ic) (.slice kA nk kc)) := hid (by rw [← hW]; exact HOC.out.alloc _)
                  rw [hW]
                  (try rw [hh])
                  have hHeld := HSM.out _ (HKCA.out 26 (by decide))
                  clear hbx hW hh
                  refine hKK.out _ _ (fun _ => hHeld) ?_
                  clear hKK KK
                  (try simp only [Act.put, List.setIfInBounds_toArray, List.set_cons_zero, List.set_cons_succ])
                  refine wpAnyT_all (l := [3, 7]) (by kernel_rfl) (by decide) ?_
                  intro i hi
                  simp only [List.mem_cons, List.not_mem_nil, or_false] at hi
                  rcases hi with rfl | rfl
                  · refine ⟨_, by (simp only [List.getElem?_toArray, List.getElem?_cons_zero, List.getElem?_cons_succ]; rfl), fun KK hKK => ?_⟩
                    have hoo := HTCA.out.oa
                    rw [HNT.out] at hoo
                    refine step_append_int rfl (.tmp 72) (.tmp 74) rfl g (.slice tA nt tc) nt _ (by simp [Act.eval]) hoo nw2 ⟨ha, 0, none⟩ 1 (by simp [Act.eval]) (by rw [cell_of_row _ _ _ _ _ _ HOCA.out.1]; rfl) (by omega) (by have h1 := HBCA.out.size; exact Nat.le_trans hgc h1) ?_
                    intro vx wCAa ho hgr hat
                    obtain ⟨tA2, tc2, rfl⟩ := own_formE ho
                    have HTCAa := hid (HTCA.out.appA nw2 (by rw [HNT.out]; exact ho) hgr hat)
                    have HFCAa := hid (HFCA.out.appA hgr hat)
                    have HKCAa : Hid (∀ T, T ≠ 3 → Keep T wc wCAa) := hid (fun T hT => (HKCA.out T hT).trans (keep_grown hoo hT hgr))
                    have HBCAa : Hid (Below g wc wCAa) := hid (below_ownE HBCA.out hoo hgr (by have h1 := HBCA.out.size; exact Nat.le_trans hgc h1) (Nat.le_refl _))
                    have HOCAac := hid (HOCAc.out.appA hgr hat)
                    have hHeld := HSM.out _ (HKCAa.out 26 (by decide))
                    clear hoo ho hgr hat
                    refine hKK.out _ _ (fun _ => hHeld) ?_
                    clear hKK KK
                    (try simp only [Act.put, List.setIfInBounds_toArray, List.set_cons_zero, List.set_cons_succ])
                    refine wpAnyT_all (l := [7]) (by kernel_rfl) (by decide) ?_
                    intro i hi
                    simp only [List.mem_cons, List.not_mem_nil, or_false] at hi
                    subst hi
                    refine ⟨_, by (simp only [List.getElem?_toArray, List.getElem?_cons_zero, List.getElem?_cons_succ]; rfl), fun KK hKK => ?_⟩
                    go_simp
                    obtain ⟨wCAaB, hW⟩ : ∃ X, wCAa.alloc (.cells #[.int .i64 idl] 3) = X := ⟨_, rfl⟩
                    have hbx : Below wCAa.heap.size wCAa wCAaB := by rw [← hW]; exact al1 _ _
                    have HOCAaB : Hid (One wCAaB wCAa.heap.size idl (.slice tA2 (nt + 1) tc2) (.slice iA ni ic) (.slice kA nk kc)) := hid (by rw [← hW]; exact one_new HTCAa.out _)
                    obtain ⟨hb, hh⟩ : ∃ h, wCAa.heap.size = h := ⟨_, rfl⟩
                    rw [hh] at HOCAaB
                    have HTCAaB := hid (HTCAa.out.keep (keep_below hbx))
                    have HFCAaB := hid (HFCAa.out.keep (keep_below hbx))
                    have HKCAaB : Hid (∀ T, T ≠ 3 → Keep T wc wCAaB) := hid (fun T hT => (HKCAa.out T hT).trans (keep_below hbx))
                    have HBCAaB : Hid (Below g wc wCAaB) := hid (HBCAa.out.trans (hbx.mono (by have h1 := HBCAa.out.size; exact Nat.le_trans hgc h1)))
                    have HOCAaBc : Hid (One wCAaB hc (ar : Int) (.slice tA2 (nt + 1) tc2) (.slice iA ni ic) (.slice kA nk kc)) := hid (by rw [← hW]; exact HOCAac.out.alloc _)
                    rw [hW]
                    (try rw [hh])
                    have hHeld := HSM.out _ (HKCAaB.out 26 (by decide))
                    clear hbx hW hh
                    refine hKK.out _ _ (fun _ => hHeld) ?_
                    clear hKK KK
                    (try simp only [Act.put, List.setIfInBounds_toArray, List.set_cons_zero, List.set_cons_succ])
                    refine wpAnyT_all (l := [8]) (by kernel_rfl) (by decide) ?_
                    intro i hi
                    simp only [List.mem_cons, List.not_mem_nil, or_false] at hi
                    subst hi
                    refine ⟨_, by (simp only [List.getElem?_toArray, List.getElem?_cons_zero, List.getElem?_cons_succ]; rfl), fun KK hKK => ?_⟩
                    have hoo := HTCAaB.out.ob
                    rw [HNI.out] at hoo
                    refine step_append_int rfl (.tmp 76) (.tmp 79) rfl g (.slice iA ni ic) ni _ (by simp [Act.eval]) hoo idl ⟨hb, 0, none⟩ 1 (by simp [Act.eval]) (by rw [cell_of_row _ _ _ _ _ _ HOCAaB.out.1]; rfl) (by omega) (by have h1 := HBCAaB.out.size; exact Nat.le_trans hgc h1) ?_
                    intro vx wCAaBb ho hgr hat
                    obtain ⟨iA2, ic2, rfl⟩ := own_formE ho
                    have HTCAaBb := hid (HTCAaB.out.appB idl (by rw [HNI.out]; exact ho) hgr hat)
                    have HFCAaBb := hid (HFCAaB.out.appB hgr hat)
                    have HKCAaBb : Hid (∀ T, T ≠ 3 → Keep T wc wCAaBb) := hid (fun T hT => (HKCAaB.out T hT).trans (keep_grown hoo hT hgr))
                    have HBCAaBb : Hid (Below g wc wCAaBb) := hid (below_ownE HBCAaB.out hoo hgr (by have h1 := HBCAaB.out.size; exact Nat.le_trans hgc h1) (Nat.le_refl _))
                    have HOCAaBbc := hid (HOCAaBc.out.appB hgr hat)
                    have hHeld := HSM.out _ (HKCAaBb.out 26 (by decide))
                    clear hoo ho hgr hat
                    refine hKK.out _ _ (fun _ => hHeld) ?_
                    clear hKK KK
                    (try simp only [Act.put, List.setIfInBounds_toArray, List.set_cons_zero, List.set_cons_succ])
                    refine wpAnyT_all (l := [12]) (by kernel_rfl) (by decide) ?_
                    intro i hi
                    simp only [List.mem_cons, List.not_mem_nil, or_false] at hi
                    subst hi
                    refine ⟨_, by (simp only [List.getElem?_toArray, List.getElem?_cons_zero, List.getElem?_cons_succ]; rfl), fun KK hKK => ?_⟩
                    have hoo := HTCAaBb.out.oc
                    rw [HNK.out] at hoo
                    refine step_append_int rfl (.tmp 81) (.tmp 83) rfl g (.slice kA nk kc) nk _ (by simp [Act.eval]) hoo (ar : Int) ⟨hc, 0, none⟩ 1 (by simp [Act.eval]) (by rw [cell_of_row _ _ _ _ _ _ HOCAaBbc.out.1]; rfl) (by omega) (by have h1 := HBCAaBb.out.size; exact Nat.le_trans hgc h1) ?_
                    intro vx wCAaBbc ho hgr hat
                    obtain ⟨kA2, kc2, rfl⟩ := own_formE ho
                    have HTCAaBbc := hid (HTCAaBb.out.appC (ar : Int) (by rw [HNK.out]; exact ho) hgr hat)
                    have HFCAaBbc := hid (HFCAaBb.out.appC hgr hat)
                    have HKCAaBbc : Hid (∀ T, T ≠ 3 → Keep T wc wCAaBbc) := hid (fun T hT => (HKCAaBb.out T hT).trans (keep_grown hoo hT hgr))
                    have HBCAaBbc : Hid (Below g wc wCAaBbc) := hid (below_ownE HBCAaBb.out hoo hgr (by have h1 := HBCAaBb.out.size; exact Nat.le_trans hgc h1) (Nat.le_refl _))
                    have hHeld := HSM.out _ (HKCAaBbc.out 26 (by decide))
                    clear hoo ho hgr hat
                    refine hKK.out _ _ (fun _ => hHeld) ?_
                    clear hKK KK
                    (try simp only [Act.put, List.setIfInBounds_toArray, List.set_cons_zero, List.set_cons_succ])
                    refine wpAnyT_all (l := [13]) (by kernel_rfl) (by decide) ?_
                    intro i hi
                    simp only [List.mem_cons, List.not_mem_nil, or_false] at hi
                    subst hi
                    refine ⟨_, by (simp only [List.getElem?_toArray, List.getElem?_cons_zero, List.getElem?_cons_succ]; rfl), fun KK hKK => ?_⟩
                    go_simp
                    refine hKK.out _ _ (fun _ => hHeld) ?_
                    clear hKK KK
                    (try simp only [Act.put, List.setIfInBounds_toArray, List.set_cons_zero, List.set_cons_succ])
                    refine wpAnyT_all (l := [14]) (by kernel_rfl) (by decide) ?_
                    intro i hi
                    simp only [List.mem_cons, List.not_mem_nil, or_false] at hi
                    subst hi
                    refine ⟨_, by (simp only [List.getElem?_toArray, List.getElem?_cons_zero, List.getElem?_cons_succ]; rfl), fun KK hKK => ?_⟩
                    go_simp
                    refine hKK.out _ _ (fun _ => hHeld) ?_
                    clear hKK KK
                    (try simp only [Act.put, List.setIfInBounds_toArray, List.set_cons_zero, List.set_cons_succ])
                    refine wpAnyT_all (l := [15]) (by kernel_rfl) (by decide) ?_
                    intro i hi
                    simp only [List.mem_cons, List.not_mem_nil, or_false] at hi
                    subst hi
                    refine ⟨_, by (simp only [List.getElem?_toArray, List.getElem?_cons_zero, List.getElem?_cons_succ]; rfl), fun KK hKK => ?_⟩
                    go_simp
                    refine hKK.out _ _ (fun h => absurd h (by decide)) ?_
                    clear hKK KK
                    (try simp only [Act.put, List.setIfInBounds_toArray, List.set_cons_zero, List.set_cons_succ])
                    refine wpAnyT_done (by kernel_rfl) ?_ _
                    go_wp2_with fail
                    go_meet
                    exact ⟨HTCAaBbc, hid HFCAaBbc.out.ov, HKCAaBbc, HBCAaBbc⟩
                  · refine ⟨_, by (simp only [List.getElem?_toArray, List.getElem?_cons_zero, List.getElem?_cons_succ]; rfl), fun KK hKK => ?_⟩
                    go_simp
                    obtain ⟨wCAB, hW⟩ : ∃ X, wCA.alloc (.cells #[.int .i64 idl] 3) = X := ⟨_, rfl⟩
                    have hbx : Below wCA.heap.size wCA wCAB := by rw [← hW]; exact al1 _ _
                    have HOCAB : Hid (One wCAB wCA.heap.size idl (.slice tA nt tc) (.slice iA ni ic) (.slice kA nk kc)) := hid (by rw [← hW]; exact one_new HTCA.out _)
                    obtain ⟨hb, hh⟩ : ∃ h, wCA.heap.size = h := ⟨_, rfl⟩
                    rw [hh] at HOCAB
                    have HTCAB := hid (HTCA.out.keep (keep_below hbx))
                    have HFCAB := hid (HFCA.out.keep (keep_below hbx))
                    have HKCAB : Hid (∀ T, T ≠ 3 → Keep T wc wCAB) := hid (fun T hT => (HKCA.out T hT).trans (keep_below hbx))
                    have HBCAB : Hid (Below g wc wCAB) := hid (HBCA.out.trans (hbx.mono (by have h1 := HBCA.out.size; exact Nat.le_trans hgc h1)))
                    have HOCABc : Hid (One wCAB hc (ar : Int) (.slice tA nt tc) (.slice iA ni ic) (.slice kA nk kc)) := hid (by rw [← hW]; exact HOCAc.out.alloc _)
                    have HOCABa : Hid (One wCAB ha nw2 (.slice tA nt tc) (.slice iA ni ic) (.slice kA nk kc)) := hid (by rw [← hW]; exact HOCA.out.alloc _)
                    rw [hW]
                    (try rw [hh])
                    have hHeld := HSM.out _ (HKCAB.out 26 (by decide))
                    clear hbx hW hh
                    refine hKK.out _ _ (fun _ => hHeld) ?_
                    clear hKK KK
                    (try simp only [Act.put, List.setIfInBounds_toArray, List.set_cons_zero, List.set_cons_succ])
                    refine wpAnyT_all (l := [3]) (by kernel_rfl) (by decide) ?_
                    intro i hi
                    simp only [List.mem_cons, List.not_mem_nil, or_false] at hi
                    subst hi
                    refine ⟨_, by (simp only [List.getElem?_toArray, List.getElem?_cons_zero, List.getElem?_cons_succ]; rfl), fun KK hKK => ?_⟩
                    have hoo := HTCAB.out.oa
                    rw [HNT.out] at hoo
                    refine step_append_int rfl (.tmp 72) (.tmp 74) rfl g (.slice tA nt tc) nt _ (by simp [Act.eval]) hoo nw2 ⟨ha, 0, none⟩ 1 (by simp [Act.eval]) (by rw [cell_of_row _ _ _ _ _ _ HOCABa.out.1]; rfl) (by omega) (by have h1 := HBCAB.out.size; exact Nat.le_trans hgc h1) ?_
                    intro vx wCABa ho hgr hat
                    obtain ⟨tA2, tc2, rfl⟩ := own_formE ho
                    have HTCABa := hid (HTCAB.out.appA nw2 (by rw [HNT.out]; exact ho) hgr hat)
                    have HFCABa := hid (HFCAB.out.appA hgr hat)
                    have HKCABa : Hid (∀ T, T ≠ 3 → Keep T wc wCABa) := hid (fun T hT => (HKCAB.out T hT).trans (keep_grown hoo hT hgr))
                    have HBCABa : Hid (Below g wc wCABa) := hid (below_ownE HBCAB.out hoo hgr (by have h1 := HBCAB.out.size; exact Nat.le_trans hgc h1) (Nat.le_refl _))
                    have HOCABac := hid (HOCABc.out.appA hgr hat)
                    have HOCABab := hid (HOCAB.out.appA hgr hat)
                    have hHeld := HSM.out _ (HKCABa.out 26 (by decide))
                    clear hoo ho hgr hat
                    refine hKK.out _ _ (fun _ => hHeld) ?_
                    clear hKK KK
                    (try simp only [Act.put, List.setIfInBounds_toArray, List.set_cons_zero, List.set_cons_succ])
                    refine wpAnyT_all (l := [8]) (by kernel_rfl) (by decide) ?_
                    intro i hi
                    simp only [List.mem_cons, List.not_mem_nil, or_false] at hi
                    subst hi
                    refine ⟨_, by (simp only [List.getElem?_toArray, List.getElem?_cons_zero, List.getElem?_cons_succ]; rfl), fun KK hKK => ?_⟩
                    have hoo := HTCABa.out.ob
                    rw [HNI.out] at hoo
                    refine step_append_int rfl (.tmp 76) (.tmp 79) rfl g (.slice iA ni ic) ni _ (by simp [Act.eval]) hoo idl ⟨hb, 0, none⟩ 1 (by simp [Act.eval]) (by rw [cell_of_row _ _ _ _ _ _ HOCABab.out.1]; rfl) (by omega) (by have h1 := HBCABa.out.size; exact Nat.le_trans hgc h1) ?_
                    intro vx wCABab ho hgr hat
                    obtain ⟨iA2, ic2, rfl⟩ := own_formE ho
                    have HTCABab := hid (HTCABa.out.appB idl (by rw [HNI.out]; exact ho) hgr hat)
                    have HFCABab := hid (HFCABa.out.appB hgr hat)
                    have HKCABab : Hid (∀ T, T ≠ 3 → Keep T wc wCABab) := hid (fun T hT => (HKCABa.out T hT).trans (keep_grown hoo hT hgr))
                    have HBCABab : Hid (Below g wc wCABab) := hid (below_ownE HBCABa.out hoo hgr (by have h1 := HBCABa.out.size; exact Nat.le_trans hgc h1) (Nat.le_refl _))
                    have HOCABabc := hid (HOCABac.out.appB hgr hat)
                    have hHeld := HSM.out _ (HKCABab.out 26 (by decide))
                    clear hoo ho hgr hat
                    refine hKK.out _ _ (fun _ => hHeld) ?_
                    clear hKK KK
                    (try simp only [Act.put, List.setIfInBounds_toArray, List.set_cons_zero, List.set_cons_succ])
                    refine wpAnyT_all (l := [12]) (by kernel_rfl) (by decide) ?_
                    intro i hi
                    simp only [List.mem_cons, List.not_mem_nil, or_false] at hi
                    subst hi
                    refine ⟨_, by (simp only [List.getElem?_toArray, List.getElem?_cons_zero, List.getElem?_cons_succ]; rfl), fun KK hKK => ?_⟩
                    have hoo := HTCABab.out.oc
                    rw [HNK.out] at hoo
                    refine step_append_int rfl (.tmp 81) (.tmp 83) rfl g (.slice kA nk kc) nk _ (by simp [Act.eval]) hoo (ar : Int) ⟨hc, 0, none⟩ 1 (by simp [Act.eval]) (by rw [cell_of_row _ _ _ _ _ _ HOCABabc.out.1]; rfl) (by omega) (by have h1 := HBCABab.out.size; exact Nat.le_trans hgc h1) ?_
                    intro vx wCABabc ho hgr hat
                    obtain ⟨kA2, kc2, rfl⟩ := own_formE ho
                    have HTCABabc := hid (HTCABab.out.appC (ar : Int) (by rw [HNK.out]; exact ho) hgr hat)
                    have HFCABabc := hid (HFCABab.out.appC hgr hat)
                    have HKCABabc : Hid (∀ T, T ≠ 3 → Keep T wc wCABabc) := hid (fun T hT => (HKCABab.out T hT).trans (keep_grown hoo hT hgr))
                    have HBCABabc : Hid (Below g wc wCABabc) := hid (below_ownE HBCABab.out hoo hgr (by have h1 := HBCABab.out.size; exact Nat.le_trans hgc h1) (Nat.le_refl _))
                    have hHeld := HSM.out _ (HKCABabc.out 26 (by decide))
                    clear hoo ho hgr hat
                    refine hKK.out _ _ (fun _ => hHeld) ?_
                    clear hKK KK
                    (try simp only [Act.put, List.setIfInBounds_toArray, List.set_cons_zero, List.set_cons_succ])
                    refine wpAnyT_all (l := [13]) (by kernel_rfl) (by decide) ?_
                    intro i hi
                    simp only [List.mem_cons, List.not_mem_nil, or_false] at hi
                    subst hi
                    refine ⟨_, by (simp only [List.getElem?_toArray, List.getElem?_cons_zero, List.getElem?_cons_succ]; rfl), fun KK hKK => ?_⟩
                    go_simp
                    refine hKK.out _ _ (fun _ => hHeld) ?_
                    clear hKK KK
                    (try simp only [Act.put, List.setIfInBounds_toArray, List.set_cons_zero, List.set_cons_succ])
                    refine wpAnyT_all (l := [14]) (by kernel_rfl) (by decide) ?_
                    intro i hi
                    simp only [List.mem_cons, List.not_mem_nil, or_false] at hi
                    subst hi
                    refine ⟨_, by (simp only [List.getElem?_toArray, List.getElem?_cons_zero, List.getElem?_cons_succ]; rfl), fun KK hKK => ?_⟩
                    go_simp
                    refine hKK.out _ _ (fun _ => hHeld) ?_
                    clear hKK KK
                    (try simp only [Act.put, List.setIfInBounds_toArray, List.set_cons_zero, List.set_cons_succ])
                    refine wpAnyT_all (l := [15]) (by kernel_rfl) (by decide) ?_
                    intro i hi
                    simp only [List.mem_cons, List.not_mem_nil, or_false] at hi
                    subst hi
                    refine ⟨_, by (simp only [List.getElem?_toArray, List.getElem?_cons_zero, List.getElem?_cons_succ]; rfl), fun KK hKK => ?_⟩
                    go_simp
                    refine hKK.out _ _ (fun h => absurd h (by decide)) ?_
                    clear hKK KK
                    (try simp only [Act.put, List.setIfInBounds_toArray, List.set_cons_zero, List.set_cons_succ])
                    refine wpAnyT_done (by kernel_rfl) ?_ _
                    go_wp2_with fail
                    go_meet
                    exact ⟨HTCABabc, hid HFCABabc.out.ov, HKCABabc, HBCABabc⟩
                · refine ⟨_, by (simp only [List.getElem?_toArray, List.getElem?_cons_zero, List.getElem?_cons_succ]; rfl), fun KK hKK => ?_⟩
                  go_simp
                  obtain ⟨wCB, hW⟩ : ∃ X, wC.alloc (.cells #[.int .i64 idl] 3) = X := ⟨_, rfl⟩
                  have hbx : Below wC.heap.size wC wCB := by rw [← hW]; exact al1 _ _
                  have HOCB : Hid (One wCB wC.heap.size idl (.slice tA nt tc) (.slice iA ni ic) (.slice kA nk kc)) := hid (by rw [← hW]; exact one_new HTC.out _)
                  obtain ⟨hb, hh⟩ : ∃ h, wC.heap.size = h := ⟨_, rfl⟩
                  rw [hh] at HOCB
                  have HTCB := hid (HTC.out.keep (keep_below hbx))
                  have HFCB := hid (HFC.out.keep (keep_below hbx))
                  have HKCB : Hid (∀ T, T ≠ 3 → Keep T wc wCB) := hid (fun T hT => (HKC.out T hT).trans (keep_below hbx))
                  have HBCB : Hid (Below g wc wCB) := hid (HBC.out.trans (hbx.mono (by have h1 := HBC.out.size; exact Nat.le_trans hgc h1)))
                  have HOCBc : Hid (One wCB hc (ar : Int) (.slice tA nt tc) (.slice iA ni ic) (.slice kA nk kc)) := hid (by rw [← hW]; exact HOC.out.alloc _)
                  rw [hW]
                  (try rw [hh])
                  have hHeld := HSM.out _ (HKCB.out 26 (by decide))
                  clear hbx hW hh
                  refine hKK.out _ _ (fun _ => hHeld) ?_
                  clear hKK KK
                  (try simp only [Act.put, List.setIfInBounds_toArray, List.set_cons_zero, List.set_cons_succ])
                  refine wpAnyT_all (l := [2]) (by kernel_rfl) (by decide) ?_
                  intro i hi
                  simp only [List.mem_cons, List.not_mem_nil, or_false] at hi
                  subst hi
                  refine ⟨_, by (simp only [List.getElem?_toArray, List.getElem?_cons_zero, List.getElem?_cons_succ]; rfl), fun KK hKK => ?_⟩
                  go_simp
                  obtain ⟨wCBA, hW⟩ : ∃ X, wCB.alloc (.cells #[.int .i64 nw2] 3) = X := ⟨_, rfl⟩
                  have hbx : Below wCB.heap.size wCB wCBA := by rw [← hW]; exact al1 _ _
                  have HOCBA : Hid (One wCBA wCB.heap.size nw2 (.slice tA nt tc) (.slice iA ni ic) (.slice kA nk kc)) := hid (by rw [← hW]; exact one_new HTCB.out _)
                  obtain ⟨ha, hh⟩ : ∃ h, wCB.heap.size = h := ⟨_, rfl⟩
                  rw [hh] at HOCBA
                  have HTCBA := hid (HTCB.out.keep (keep_below hbx))
                  have HFCBA := hid (HFCB.out.keep (keep_below hbx))
                  have HKCBA : Hid (∀ T, T ≠ 3 → Keep T wc wCBA) := hid (fun T hT => (HKCB.out T hT).trans (keep_below hbx))
                  have HBCBA : Hid (Below g wc wCBA) := hid (HBCB.out.trans (hbx.mono (by have h1 := HBCB.out.size; exact Nat.le_trans hgc h1)))
                  have HOCBAc : Hid (One wCBA hc (ar : Int) (.slice tA nt tc) (.slice iA ni ic) (.slice kA nk kc)) := hid (by rw [← hW]; exact HOCBc.out.alloc _)
                  have HOCBAb : Hid (One wCBA hb idl (.slice tA nt tc) (.slice iA ni ic) (.slice kA nk kc)) := hid (by rw [← hW]; exact HOCB.out.alloc _)
                  rw [hW]
                  (try rw [hh])
                  have hHeld := HSM.out _ (HKCBA.out 26 (by decide))
                  clear hbx hW hh
                  refine hKK.out _ _ (fun _ => hHeld) ?_
                  clear hKK KK
                  (try simp only [Act.put, List.setIfInBounds_toArray, List.set_cons_zero, List.set_cons_succ])
                  refine wpAnyT_all (l := [3]) (by kernel_rfl) (by decide) ?_
                  intro i hi
                  simp only [List.mem_cons, List.not_mem_nil, or_false] at hi
                  subst hi
                  refine ⟨_, by (simp only [List.getElem?_toArray, List.getElem?_cons_zero, List.getElem?_cons_succ]; rfl), fun KK hKK => ?_⟩
                  have hoo := HTCBA.out.oa
                  rw [HNT.out] at hoo
                  refine step_append_int rfl (.tmp 72) (.tmp 74) rfl g (.slice tA nt tc) nt _ (by simp [Act.eval]) hoo nw2 ⟨ha, 0, none⟩ 1 (by simp [Act.eval]) (by rw [cell_of_row _ _ _ _ _ _ HOCBA.out.1]; rfl) (by omega) (by have h1 := HBCBA.out.size; exact Nat.le_trans hgc h1) ?_
                  intro vx wCBAa ho hgr hat
                  obtain ⟨tA2, tc2, rfl⟩ := own_formE ho
                  have HTCBAa := hid (HTCBA.out.appA nw2 (by rw [HNT.out]; exact ho) hgr hat)
                  have HFCBAa := hid (HFCBA.out.appA hgr hat)
                  have HKCBAa : Hid (∀ T, T ≠ 3 → Keep T wc wCBAa) := hid (fun T hT => (HKCBA.out T hT).trans (keep_grown hoo hT hgr))
                  have HBCBAa : Hid (Below g wc wCBAa) := hid (below_ownE HBCBA.out hoo hgr (by have h1 := HBCBA.out.size; exact Nat.le_trans hgc h1) (Nat.le_refl _))
                  have HOCBAac := hid (HOCBAc.out.appA hgr hat)
                  have HOCBAab := hid (HOCBAb.out.appA hgr hat)
                  have hHeld := HSM.out _ (HKCBAa.out 26 (by decide))
                  clear hoo ho hgr hat
                  refine hKK.out _ _ (fun _ => hHeld) ?_
                  clear hKK KK
                  (try simp only [Act.put, List.setIfInBounds_toArray, List.set_cons_zero, List.set_cons_succ])
                  refine wpAnyT_all (l := [8]) (by kernel_rfl) (by decide) ?_
                  intro i hi
                  simp only [List.mem_cons, List.not_mem_nil, or_false] at hi
                  subst hi
                  refine ⟨_, by (simp only [List.getElem?_toArray, List.getElem?_cons_zero, List.getElem?_cons_succ]; rfl), fun KK hKK => ?_⟩
                  have hoo := HTCBAa.out.ob
                  rw [HNI.out] at hoo
                  refine step_append_int rfl (.tmp 76) (.tmp 79) rfl g (.slice iA ni ic) ni _ (by simp [Act.eval]) hoo idl ⟨hb, 0, none⟩ 1 (by simp [Act.eval]) (by rw [cell_of_row _ _ _ _ _ _ HOCBAab.out.1]; rfl) (by omega) (by have h1 := HBCBAa.out.size; exact Nat.le_trans hgc h1) ?_
                  intro vx wCBAab ho hgr hat
                  obtain ⟨iA2, ic2, rfl⟩ := own_formE ho
                  have HTCBAab := hid (HTCBAa.out.appB idl (by rw [HNI.out]; exact ho) hgr hat)
                  have HFCBAab := hid (HFCBAa.out.appB hgr hat)
                  have HKCBAab : Hid (∀ T, T ≠ 3 → Keep T wc wCBAab) := hid (fun T hT => (HKCBAa.out T hT).trans (keep_grown hoo hT hgr))
                  have HBCBAab : Hid (Below g wc wCBAab) := hid (below_ownE HBCBAa.out hoo hgr (by have h1 := HBCBAa.out.size; exact Nat.le_trans hgc h1) (Nat.le_refl _))
                  have HOCBAabc := hid (HOCBAac.out.appB hgr hat)
                  have hHeld := HSM.out _ (HKCBAab.out 26 (by decide))
                  clear hoo ho hgr hat
                  refine hKK.out _ _ (fun _ => hHeld) ?_
                  clear hKK KK
                  (try simp only [Act.put, List.setIfInBounds_toArray, List.set_cons_zero, List.set_cons_succ])
                  refine wpAnyT_all (l := [12]) (by kernel_rfl) (by decide) ?_
                  intro i hi
                  simp only [List.mem_cons, List.not_mem_nil, or_false] at hi
                  subst hi
                  refine ⟨_, by (simp only [List.getElem?_toArray, List.getElem?_cons_zero, List.getElem?_cons_succ]; rfl), fun KK hKK => ?_⟩
                  have hoo := HTCBAab.out.oc
                  rw [HNK.out] at hoo
                  refine step_append_int rfl (.tmp 81) (.tmp 83) rfl g (.slice kA nk kc) nk _ (by simp [Act.eval]) hoo (ar : Int) ⟨hc, 0, none⟩ 1 (by simp [Act.eval]) (by rw [cell_of_row _ _ _ _ _ _ HOCBAabc.out.1]; rfl) (by omega) (by have h1 := HBCBAab.out.size; exact Nat.le_trans hgc h1) ?_
                  intro vx wCBAabc ho hgr hat
                  obtain ⟨kA2, kc2, rfl⟩ := own_formE ho
                  have HTCBAabc := hid (HTCBAab.out.appC (ar : Int) (by rw [HNK.out]; exact ho) hgr hat)
                  have HFCBAabc := hid (HFCBAab.out.appC hgr hat)
                  have HKCBAabc : Hid (∀ T, T ≠ 3 → Keep T wc wCBAabc) := hid (fun T hT => (HKCBAab.out T hT).trans (keep_grown hoo hT hgr))
                  have HBCBAabc : Hid (Below g wc wCBAabc) := hid (below_ownE HBCBAab.out hoo hgr (by have h1 := HBCBAab.out.size; exact Nat.le_trans hgc h1) (Nat.le_refl _))
                  have hHeld := HSM.out _ (HKCBAabc.out 26 (by decide))
                  clear hoo ho hgr hat
                  refine hKK.out _ _ (fun _ => hHeld) ?_
                  clear hKK KK
                  (try simp only [Act.put, List.setIfInBounds_toArray, List.set_cons_zero, List.set_cons_succ])
                  refine wpAnyT_all (l := [13]) (by kernel_rfl) (by decide) ?_
                  intro i hi
                  simp only [List.mem_cons, List.not_mem_nil, or_false] at hi
                  subst hi
                  refine ⟨_, by (simp only [List.getElem?_toArray, List.getElem?_cons_zero, List.getElem?_cons_succ]; rfl), fun KK hKK => ?_⟩
                  go_simp
                  refine hKK.out _ _ (fun _ => hHeld) ?_
                  clear hKK KK
                  (try simp only [Act.put, List.setIfInBounds_toArray, List.set_cons_zero, List.set_cons_succ])
                  refine wpAnyT_all (l := [14]) (by kernel_rfl) (by decide) ?_
                  intro i hi
                  simp only [List.mem_cons, List.not_mem_nil, or_false] at hi
                  subst hi
                  refine ⟨_, by (simp only [List.getElem?_toArray, List.getElem?_cons_zero, List.getElem?_cons_succ]; rfl), fun KK hKK => ?_⟩
                  go_simp
                  refine hKK.out _ _ (fun _ => hHeld) ?_
                  clear hKK KK
                  (try simp only [Act.put, List.setIfInBounds_toArray, List.set_cons_zero, List.set_cons_succ])
                  refine wpAnyT_all (l := [15]) (by kernel_rfl) (by decide) ?_
                  intro i hi
                  simp only [List.mem_cons, List.not_mem_nil, or_false] at hi
                  subst hi
                  refine ⟨_, by (simp only [List.getElem?_toArray, List.getElem?_cons_zero, List.getElem?_cons_succ]; rfl), fun KK hKK => ?_⟩
                  go_simp
                  refine hKK.out _ _ (fun h => absurd h (by decide)) ?_
                  clear hKK KK
                  (try simp only [Act.put, List.setIfInBounds_toArray, List.set_cons_zero, List.set_cons_succ])
                  refine wpAnyT_done (by kernel_rfl) ?_ _
                  go_wp2_with fail
                  go_meet
                  exact ⟨HTCBAabc, hid HFCBAabc.out.ov, HKCBAabc, HBCBAabc⟩
            case rest =>
              obtain ⟨HT8, HRV8, HK8, HB8⟩ := hcut
              have HX8 := hid (HK8.out 58 (by decide) _ _ HX6.out)
              have HY8 := hid (HK8.out 26 (by decide) _ _ HY6.out)
              have HM8 := hid (HK8.out 26 (by decide) _ _ HM6.out)
              have HFO8 := hid (own_keep HFO6.out (HK8.out 69 (by decide)))
              have HFP8 := hid (fun x hx => (HFP6.out x hx).keep (HK8.out 5 (by decide)))
              have HBW8 := hid (HBW6.out.trans (HB8.out.mono (by rw [HG.out]; exact Nat.le_refl _)))
              have gmm : g + 1 ≠ m := by have h1 := HMG.out; omega
              clear hHeld
              have z0 := cell_of_row _ _ 0 _ _ _ HM8.out
              have z1 := cell_of_row _ _ 1 _ _ _ HM8.out
              have z2 := cell_of_row _ _ 2 _ _ _ HM8.out
              have z3 := cell_of_row _ _ 3 _ _ _ HM8.out
              have z4 := cell_of_row _ _ 4 _ _ _ HM8.out
              have z5 := cell_of_row _ _ 5 _ _ _ HM8.out
              have z6 := cell_of_row _ _ 6 _ _ _ HM8.out
              have y0 := cell_of_row _ _ 0 _ _ _ HY8.out
              have y1 := cell_of_row _ _ 1 _ _ _ HY8.out
              have y2 := cell_of_row _ _ 2 _ _ _ HY8.out
              have y3 := cell_of_row _ _ 3 _ _ _ HY8.out
              have y4 := cell_of_row _ _ 4 _ _ _ HY8.out
              have y5 := cell_of_row _ _ 5 _ _ _ HY8.out
              have y6 := cell_of_row _ _ 6 _ _ _ HY8.out
              have fy0 := box_fr HY8.out 0
              have fy1 := box_fr HY8.out 1
              have fy2 := box_fr HY8.out 2
              have fy3 := box_fr HY8.out 3
              have fy4 := box_fr HY8.out 4
              have fy5 := box_fr HY8.out 5
              have fy6 := box_fr HY8.out 6
              obtain ⟨W9, hW⟩ : ∃ X, (((((((wc.setCell ⟨g + 1, 0, none⟩ (.int .i64 r2.s.mn)).setCell ⟨g + 1, 1, none⟩ (.int .i64 r2.s.mx)).setCell ⟨g + 1, 2, none⟩ (.int .i64 r2.s.rt)).setCell ⟨g + 1, 3, none⟩ (.bool r2.s.dn)).setCell ⟨g + 1, 4, none⟩ (.int .i64 r2.s.idle)).setCell ⟨g + 1, 5, none⟩ (.int .i64 r2.s.next)).setCell ⟨g + 1, 6, none⟩ (.slice fA2 vs2.length fc2)) = X := ⟨_, rfl⟩
              have HY9 : Hid (W9.heap[g + 1]? = some (.cells #[.int .i64 r2.s.mn, .int .i64 r2.s.mx, .int .i64 r2.s.rt, .bool r2.s.dn, .int .i64 r2.s.idle, .int .i64 r2.s.next, .slice fA2 vs2.length fc2] 26)) := hid (by rw [← hW]; exact set7h _ _ _ _ _ _ _ HY8.out)
              have hk9 : ∀ T, T ≠ 26 → Keep T wc W9 := fun T hT => by rw [← hW]; exact set7k HY8.out hT _ _ _ _ _ _ _
              have HX9 := hid (hk9 58 (by decide) _ _ HX8.out)
              have HT9 := hid (HT8.out.keep (hk9 3 (by decide)))
              have HRV9 := hid (own_keep HRV8.out (hk9 3 (by decide)))
              have HFO9 := hid (own_keep HFO8.out (hk9 69 (by decide)))
              have HFP9 := hid (fun x hx => (HFP8.out x hx).keep (hk9 5 (by decide)))
              have HB9 : Hid (Below w.heap.size w W9) := hid (by rw [← hW]; exact set7b _ _ _ _ _ _ _ HBW8.out (by rw [HG.out]; omega))
              have HW9 := hid hW
              have hi2 := (inv_step HI.out H0.out.1 H0.out.2.1 H0.out.2.2.1 H0.out.2.2.2 (by omega) (sz, wt)).1
              rw [HR2.out] at hi2
              have HI2 := hid hi2
              have HNOW : Hid (r2.now = nw2) := hid (by rw [← HR2.out]; exact HNW2.out)
              have HTS : Hid (r2.ts = r.ts ++ [nw2]) := hid (by rw [← HR2.out, ← HNW2.out]; rfl)
              have HIS : Hid (r2.ids = r.ids ++ [idl]) := hid (by rw [← HIDL.out, ← HR2.out]; rfl)
              have HCS : Hid (r2.cps = r.cps ++ [(ar : Int)]) := hid (by rw [← HAR.out, ← HR2.out]; rfl)
              have HRK : Hid (runK mn mx rt ch sts (k + 1) = r2) := hid (by rw [HSTK.out, HR.out]; exact HR2.out)
              clear hW hk9 hi2
              go_upto_region 7 with fail
              rw [HW9.out]
              clear z0 z1 z2 z3 z4 z5 z6 y0 y1 y2 y3 y4 y5 y6 fy0 fy1 fy2 fy3 fy4 fy5 fy6
              go_wp2_with fail
              go_roundw
              case rel => exact ⟨k + 1, r2, .slice fA2 vs2.length fc2, vs2, by omega, by go_num, by rw [HNOW.out], HRK, hid (ints_of_own HRV9.out (fun x hx => HC.out.1 x (HI2.out.rest2 x hx))), HX9, HY9, HFO9, HFC6, HFP9, hid (by rw [HTS.out, HIS.out, HCS.out]; exact HT9.out), HB9⟩
              case measure => simp [Lib.intOf]; omega
    · obtain rfl : k = N := by omega
      have dk : decide ((k : Int) < (k : Int)) = false := decide_eq_false (by omega)
      have dk' : decide (k < k) = false := decide_eq_false (by omega)
      have y0 := cell_of_row _ _ 0 _ _ _ HY.out
      have y1 := cell_of_row _ _ 1 _ _ _ HY.out
      have y2 := cell_of_row _ _ 2 _ _ _ HY.out
      have y3 := cell_of_row _ _ 3 _ _ _ HY.out
      have y4 := cell_of_row _ _ 4 _ _ _ HY.out
      have y5 := cell_of_row _ _ 5 _ _ _ HY.out
      have y6 := cell_of_row _ _ 6 _ _ _ HY.out
      have fy0 := box_fr HY.out 0
      have fy1 := box_fr HY.out 1
      have fy2 := box_fr HY.out 2
      have fy3 := box_fr HY.out 3
      have fy4 := box_fr HY.out 4
      have fy5 := box_fr HY.out 5
      have fy6 := box_fr HY.out 6
      go_wp2_with fail
      refine bodyPost_ret (results_v4 rfl _ _ (g + 1) _ rfl (lv26 (set7h _ _ _ _ _ _ _ HY.out)) _ rfl _ rfl _ rfl _ rfl) rfl ?_
      have hk9 := fun (T : TypeId) (hT : T ≠ 26) => set7k HY.out hT (.int .i64 r.s.mn) (.int .i64 r.s.mx) (.int .i64 r.s.rt) (.bool r.s.dn) (.int .i64 r.s.idle) (.int .i64 r.s.next) (.slice fA vs.length fc)
      rw [HR.out]
      refine ⟨_, _, _, _, rfl, ⟨_, vs, rfl, by rw [HG.out]; exact own_keep HO.out (hk9 69 (by decide)), HV.out, fun x hx => (HP.out x hx).keep (hk9 5 (by decide))⟩, by rw [HG.out]; exact HT.out.keep (hk9 3 (by decide)), set7b _ _ _ _ _ _ _ HB.out (by rw [HG.out]; omega)⟩
end Go.Proofs.Ytacpejoablcffaa
