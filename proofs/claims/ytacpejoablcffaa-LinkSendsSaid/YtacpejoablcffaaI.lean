/- launch: flights are inserted. -/
import Derived.Test.YtacpejoablcffaaH
import Derived.Test.YtacpejoablcffaaRe
import Derived.Deep.LoopGhost
namespace Go.Proofs.Ytacpejoablcffaa
open Go.RowKit Go.Lib

abbrev set3 (w : World) (g : Nat) (v0 v1 v2 : Value) : World := ((w.setCell ⟨g, 0, none⟩ v0).setCell ⟨g, 1, none⟩ v1).setCell ⟨g, 2, none⟩ v2
theorem set3h {w : World} {g : Nat} {T : TypeId} {a0 a1 a2 : Value} (v0 v1 v2 : Value) (h : w.heap[g]? = some (.cells #[a0, a1, a2] T)) : (set3 w g v0 v1 v2).heap[g]? = some (.cells #[v0, v1, v2] T) :=
  box_set (box_set (box_set (cs := [a0, a1, a2]) h 0 v0) 1 v1) 2 v2
theorem set3o {w : World} {g k : Nat} (v0 v1 v2 : Value) (h : k ≠ g) : (set3 w g v0 v1 v2).heap[k]? = w.heap[k]? := by
  unfold set3
  rw [Below.heap_setCell _ _ _ _ h, Below.heap_setCell _ _ _ _ h, Below.heap_setCell _ _ _ _ h]
theorem set3b {B : Nat} {w0 w : World} {g : Nat} (v0 v1 v2 : Value) (h : Below B w0 w) (hg : B ≤ g) : Below B w0 (set3 w g v0 v1 v2) :=
  ((h.setCell (p := ⟨g, 0, none⟩) hg _).setCell (p := ⟨g, 1, none⟩) hg _).setCell (p := ⟨g, 2, none⟩) hg _
theorem own_ne {w : World} {B E st n g : Nat} {v : Value} {xs : List Value} {cs : Array Value} {T : TypeId} (h : w.ownsRow B E st v n xs) (hg : w.heap[g]? = some (.cells cs T)) (hT : T ≠ E) : ∀ k, v.ownBlock = some k → k ≠ g := fun k e => by
  rcases h.2 with ⟨rfl, _⟩ | ⟨q, cap, cur, rfl, _, hq, _⟩
  · cases e
  · obtain rfl : q = k := by simpa [Value.ownBlock] using e
    intro e2
    rw [e2, hg] at hq
    cases hq
    exact hT rfl
theorem step_append_own {P : Program} {ops : Array Oper} {o : Oper} {a : Act} {w : World} {K : Act → World → Prop} {Q : Exit → Act → World → Prop} {E : Prop}
    (hg : o.guard = none) (s x : Operand) (t : TypeId) (hop : o.op = Op.call { callee := Callee.builtin Builtin.append, args := #[s, x], argTypes := #[t, t] })
    (base : Nat) (e : TypeId) (i : TypeInfo) (z : Value) (size bytes : Nat) (h1 : P.underlying t = some (.slice e)) (h2 : P.info? e = some i) (h3 : i.zero = some z) (h4 : i.size = size) (h5 : i.bytes = bytes) (h6 : z.cells.size = size) (h7 : 0 < size)
    (v : Value) (n : Nat) (olds : List Value) (hs : a.eval s = v) (hown : w.ownsRow base e size v n olds)
    (ad : Addr) (m c : Nat) (news : List Value) (hx : a.eval x = .slice (some ad) m c) (hn : news.length = m * size) (hc : ∀ j u, news[j]? = some u → w.cell? (ad.add j) = some u) (h1c : ∀ u ∈ news, u.oneCell' = true)
    (b1 : n + m ≤ maxLen) (b2 : (n + m) * bytes ≤ 140737488355328) (hbase : base ≤ w.heap.size)
    (hK : ∀ v' w', w'.ownsRow base e size v' (n + m) (olds ++ news) → w.grownBy w' v.ownBlock → K (a.put o.dst v') w') :
    if Region.wanted o (yielded ops a.tmps) = true then Oper.wp P o a w K Q else E := by
  have hw : Region.wanted o (yielded ops a.tmps) = true := by simp [Region.wanted, hg]
  rw [if_pos hw]
  obtain ⟨v', w', hrun, r1, r2, _⟩ := run_append_own (P := P) w base t o.type e i z size bytes h1 h2 h3 h4 h5 h6 h7 v n olds hown ad m c news hn hc h1c b1 b2 hbase
  unfold Oper.wp
  simp [execOp, hop, resolve, invoke, builtin, hs, hx, hrun, Result.andThen]
  exact hK v' w' r1 r2
set_option maxRecDepth 100000 in
theorem step_append_one {ops : Array Oper} {o : Oper} {a : Act} {w : World} {K : Act → World → Prop} {Q : Exit → Act → World → Prop} {E : Prop} (hgd : o.guard = none) (s x : Operand) (ho : o.op = .call { callee := .builtin .append, args := #[s, x], argTypes := #[24, 24] })
    (base : Nat) (v : Value) (n : Nat) (olds : List Value) (hs : a.eval s = v) (hown : w.ownsRow base 69 3 v n olds) (y0 y1 : Int) (A : Option Addr) (m c0 : Nat) (ad : Addr) (c : Nat) (hx : a.eval x = .slice (some ad) 1 c)
    (hc : ∀ j u, [Value.int .i64 y0, .int .i64 y1, .slice A m c0][j]? = some u → w.cell? (ad.add j) = some u) (b1 : n + 1 ≤ 1000000) (hbase : base ≤ w.heap.size)
    (h : ∀ v' w', w'.ownsRow base 69 3 v' (n + 1) (olds ++ [Value.int .i64 y0, .int .i64 y1, .slice A m c0]) → w.grownBy w' v.ownBlock → K (a.put o.dst v') w') :
    if Region.wanted o (yielded ops a.tmps) = true then Oper.wp Try.prog o a w K Q else E := by
  obtain ⟨i0, hi, hz0, hz1, hz2⟩ := info_parts info69
  exact step_append_own hgd s x 24 ho base 69 i0 _ 3 40 Try.underlying24 hi hz0 hz1 hz2 rfl (by decide) v n olds hs hown ad 1 c _ hx rfl hc (fl_one _ _ _ _ _) (by unfold maxLen; omega) (by omega) hbase (fun v' w' h1 h2 => h v' w' h1 h2)
theorem cell3 (W : World) (a b c : Value) (T : TypeId) : ∀ (j : Nat) (u : Value), [a, b, c][j]? = some u → (W.alloc (.cells #[a, b, c] T)).cell? ((⟨W.heap.size, 0, none⟩ : Addr).add j) = some u := fun j u hu => by
  rw [add_at', cell_of_row _ _ _ _ _ _ (heap_alloc_new W _)]
  simpa using hu
/-- How many flights stand ahead of a time: those whose time is not greater. -/
def unt : List Fc → Int → Nat
  | [], _ => 0
  | x :: r, t => if t < x.1 then 0 else unt r t + 1
theorem unt_le (l : List Fc) (t : Int) : unt l t ≤ l.length := by
  induction l with
  | nil => exact Nat.le_refl _
  | cons x r ih => unfold unt; split <;> simp <;> omega
theorem unt_drop {l : List Fc} {i : Nat} {x : Fc} (h : l[i]? = some x) (t : Int) : unt (l.drop i) t = if t < x.1 then 0 else unt (l.drop (i + 1)) t + 1 := by
  obtain ⟨hi, rfl⟩ := List.getElem?_eq_some_iff.1 h
  rw [List.drop_eq_getElem_cons hi]
  rfl
def insF (l : List Fc) (f : Fc) : List Fc := l.take (unt l f.1) ++ [f] ++ l.drop (unt l f.1)
/-- The flights with one more for each delay. -/
def lau (idle : Int) (p : List Nat) : List Int → Int → List Fc → List Fc
  | [], _, l => l
  | d :: ds, next, l => lau idle p ds (next + 1) (insF l (idle + d, next, p))
theorem lau_snoc (idle : Int) (p : List Nat) (ds : List Int) (d next : Int) (l : List Fc) : lau idle p (ds ++ [d]) next l = insF (lau idle p ds next l) (idle + d, next + ds.length, p) := by
  induction ds generalizing next l with
  | nil => simp [lau]
  | cons a ds ih => rw [List.cons_append, lau, ih, lau, List.length_cons]; congr 3; omega
theorem insF_len (l : List Fc) (f : Fc) : (insF l f).length = l.length + 1 := by
  have := unt_le l f.1
  unfold insF
  rw [List.length_append, List.length_append, List.length_take, List.length_drop, List.length_singleton]; omega
/-- What launch does. -/
def LauQ (B L : Nat) (mn mx rt : Int) (dn : Bool) (idle next : Int) (l : List Fc) (w : World) (e : Ending) (w' : World) : Prop :=
  e = .returned (.tuple #[]) ∧ ∃ (fv : Value) (vs : List Fl), w'.heap[L]? = some (.cells #[.int .i64 mn, .int .i64 mx, .int .i64 rt, .bool dn, .int .i64 idle, .int .i64 next, fv] 26) ∧ w'.ownsRow B 69 3 fv vs.length (vs.map cFl).flatten ∧ vs.map core = l ∧ (∀ x ∈ vs, Pay w' x) ∧ (∀ T, T ≠ 26 → T ≠ 69 → Keep T w w') ∧ Below B w w'
set_option maxHeartbeats 4000000 in
set_option maxRecDepth 100000 in
theorem launch_any (B L : Nat) (mn mx rt : Int) (dn : Bool) (idle next : Int) (fv pv dv : Value) (l : List Fl) (p : List Nat) (ds : List Int) (Bd : Nat) (w0 w : World)
    (hL : w.heap[L]? = some (.cells #[.int .i64 mn, .int .i64 mx, .int .i64 rt, .bool dn, .int .i64 idle, .int .i64 next, fv] 26)) (hBL : B ≤ L) (hBw : B ≤ w.heap.size) (hown : w.ownsRow B 69 3 fv l.length (l.map cFl).flatten) (hpay : ∀ x ∈ l, Pay w x)
    (hp : Byt w0 pv p) (hpn : NilOk pv) (hpl : p.length ≤ 100000) (hw0 : Below w0.heap.size w0 w) (hB0 : w0.heap.size ≤ B) (hd : w.ownsRow Bd 3 1 dv ds.length (ds.map intV)) (hdl : ds.length ≤ 2)
    (hdr : ∀ x ∈ ds, 0 ≤ x ∧ x ≤ 1073741824) (hi0 : 0 ≤ idle) (hi1 : idle ≤ 1073741824) (hn0 : 0 ≤ next) (hn1 : next ≤ 1073741824) (hl : l.length ≤ 10000) :
    Calls Try.prog 42 #[.pointer (some ⟨L, 0, none⟩), pv, dv] w (LauQ B L mn mx rt dn idle (next + ds.length) (lau idle p ds next (l.map core)) w) := by
  obtain ⟨K, hK⟩ : ∃ K, ds.length = K := ⟨_, rfl⟩
  obtain ⟨N, hN⟩ : ∃ N, l.length = N := ⟨_, rfl⟩
  obtain ⟨M, hM⟩ : ∃ M, p.length = M := ⟨_, rfl⟩
  obtain ⟨pA, pc, rfl⟩ := byt_form hp
  obtain ⟨dA, dc, rfl⟩ := own_formE hd
  rw [hK] at hd hdl ⊢
  rw [hN] at hown hl
  rw [hM] at hp hpn hpl ⊢
  have HP := hid hp
  have HPN := hid hpn
  have HM := hid hM
  have HK := hid hK
  have HD := hid hd
  have HDR := hid hdr
  have HL0 := hid hL
  have HO0 := hid hown
  have HPY0 := hid hpay
  have HW0 := hid hw0
  have HN := hid hN
  clear hp hpn hM hK hd hdr hL hown hpay hw0 hN
  go_enter Try.func42, Try.ntmps42
  go_wp2_with fail
  go_step3
  go_wp2_with fail
  go_step3
  go_wp2_with fail
  go_loopg [13] K (fun r i wr => ∃ (k : Nat) (gv : Value) (vs : List Fl), k + r = K ∧ i = .int .i64 (k : Int) ∧ Hid (vs.length = N + k) ∧ Hid (vs.map core = lau idle p (ds.take k) next (l.map core)) ∧ Hid (wr.heap[L]? = some (.cells #[.int .i64 mn, .int .i64 mx, .int .i64 rt, .bool dn, .int .i64 idle, .int .i64 (next + (k : Int)), gv] 26)) ∧ Hid (wr.ownsRow B 69 3 gv (N + k) (vs.map cFl).flatten) ∧ Hid (∀ x ∈ vs, Pay wr x) ∧ Hid (∀ T, T ≠ 26 → T ≠ 69 → Keep T w wr) ∧ Hid (Below B w wr) ∧ Hid (w.heap.size ≤ wr.heap.size))
  case atStart => exact ⟨0, fv, l, Nat.zero_add _, rfl, hid HN.out, hid rfl, hid (by simpa using HL0.out), hid (by simpa using HO0.out), HPY0, hid (fun T _ _ k cs h => h), hid (Below.refl _ _), hid (Nat.le_refl _)⟩
  case round =>
    obtain ⟨k, gv, vs, hkr, rfl, HVL, HVC, HX, HO, HPY, HKP, HB, HSZ⟩ := hrel
    obtain ⟨wo, hwo⟩ : ∃ x, x = wr := ⟨_, rfl⟩
    subst hwo
    obtain ⟨Q, hQ⟩ : ∃ Q, N + k = Q := ⟨_, rfl⟩
    have HQQ := hid hQ
    have hQl : Q ≤ 10002 := by omega
    rw [hQ] at HO HVL
    clear hQ
    obtain ⟨gA, gc, rfl⟩ := own_form69 HO.out
    by_cases hkK : k < K
    · obtain ⟨r0, rfl⟩ : ∃ r0, gk = r0 + 1 := ⟨gk - 1, by omega⟩
      have hkK' : (k : Int) < (K : Int) := by omega
      have hod := own_keep HD.out (HKP.out 3 (by decide) (by decide))
      obtain ⟨bd, rfl⟩ : ∃ bd, dA = some ⟨bd, 0, none⟩ := by
        rcases hod.2 with ⟨e, h0⟩ | ⟨q, _, _, e, _⟩
        · omega
        · injection e with e1; exact ⟨q, e1⟩
      obtain ⟨d, hdx⟩ : ∃ d, ds[k]? = some d := ⟨ds[k]'(by rw [HK.out]; exact hkK), List.getElem?_eq_getElem _⟩
      have q0 : wo.cell? ⟨bd, k, none⟩ = some (.int .i64 d) := by
        have h := hod.cellAt k (by omega)
        rw [h, List.getElem?_map, hdx]; rfl
      obtain ⟨hd0, hd1⟩ := HDR.out d (List.mem_of_getElem? hdx)
      have HDT := hid (take_succ'' hdx)
      obtain ⟨nk, hnk⟩ : ∃ nk, next + (k : Int) = nk := ⟨_, rfl⟩
      have HNK := hid hnk
      rw [hnk] at HX
      have hnk0 : 0 ≤ nk := by omega
      have hnk1 : nk ≤ 1073741826 := by omega
      have e1 : IntKind.i64.wrap (idle + d) = idle + d := by rw [IntKind.wrap_i64]; omega
      have e2 : IntKind.i64.wrap (nk + 1) = nk + 1 := by rw [IntKind.wrap_i64]; omega
      have x4 := cell_of_row _ _ 4 _ _ _ HX.out
      have x5 := cell_of_row _ _ 5 _ _ _ HX.out
      obtain ⟨h0, hh⟩ : ∃ h, wo.heap.size = h := ⟨_, rfl⟩
      have HCL := hid (fun (X : World) (hX : Below wo.heap.size wo X) => clone_any p (.slice pA M pc) X ((HP.out.below (HW0.out.trans (HB.out.mono hB0))).below hX) HPN.out (by rw [HM.out]; omega))
      have hLw := box_lt HX.out
      have HS : Hid (∀ X, Below wo.heap.size wo X → X.cell? ⟨L, 4, none⟩ = some (.int .i64 idle) ∧ X.cell? ⟨L, 5, none⟩ = some (.int .i64 nk)) := hid (fun X hX => ⟨(hX.cell (p := ⟨L, 4, none⟩) hLw).trans x4, (hX.cell (p := ⟨L, 5, none⟩) hLw).trans x5⟩)
      have HB1 : Hid (Below wo.heap.size wo wo.drew) := hid (Below.refl _ _).drew
      have hHeld := HS.out _ HB1.out
      have HH := hid hh
      clear hod hdx hnk hh x4 x5
      go_wp2_with fail
      refine region_tail 14 (fun X => X.cell? ⟨L, 4, none⟩ = some (.int .i64 idle) ∧ X.cell? ⟨L, 5, none⟩ = some (.int .i64 nk)) (by kernel_rfl) ?_
      refine' wpAnyT_take (i := 0) (oi := ?oia0) (v := ?va0) ?hia0 (by kernel_rfl) (by kernel_rfl) ?hqa0 ?hya0 hHeld ?resta0
      case hia0 => (simp only [List.getElem?_toArray, List.getElem?_cons_zero]; rfl)
      case hqa0 => exact fun _ _ _ h => h
      case hya0 => (refine Or.inl ⟨by rfl, ?_⟩; intro w' hSw; (try dsimp only at hSw); go_simp; try with_reducible rfl)
      (try simp only [Act.put, List.setIfInBounds_toArray, List.set_cons_zero, List.set_cons_succ])
      refine' wpAnyT_take (i := 1) (oi := ?oia1) (v := ?va1) ?hia1 (by kernel_rfl) (by kernel_rfl) ?hqa1 ?hya1 hHeld ?resta1
      case hia1 => (simp only [List.getElem?_toArray, List.getElem?_cons_zero, List.getElem?_cons_succ]; rfl)
      case hqa1 => exact fun _ _ _ h => h
      case hya1 => (refine Or.inl ⟨by rfl, ?_⟩; intro w' hSw; (try dsimp only at hSw); go_simp; try with_reducible rfl)
      (try simp only [Act.put, List.setIfInBounds_toArray, List.set_cons_zero, List.set_cons_succ])
      refine' wpAnyT_take (i := 2) (oi := ?oia2) (v := ?va2) ?hia2 (by kernel_rfl) (by kernel_rfl) ?hqa2 ?hya2 hHeld ?resta2
      case hia2 => (simp only [List.getElem?_toArray, List.getElem?_cons_zero, List.getElem?_cons_succ]; rfl)
      case hqa2 => exact fun _ _ _ h => h
      case hya2 => (refine Or.inl ⟨by rfl, ?_⟩; intro w' hSw; (try dsimp only at hSw); go_simp; try with_reducible rfl)
      (try simp only [Act.put, List.setIfInBounds_toArray, List.set_cons_zero, List.set_cons_succ])
      refine' wpAnyT_take (i := 3) (oi := ?oia3) (v := ?va3) ?hia3 (by kernel_rfl) (by kernel_rfl) ?hqa3 ?hya3 hHeld ?resta3
      case hia3 => (simp only [List.getElem?_toArray, List.getElem?_cons_zero, List.getElem?_cons_succ]; rfl)
      case hqa3 => exact fun _ _ _ h => h
      case hya3 => (refine Or.inl ⟨by rfl, ?_⟩; intro w' hSw; (try dsimp only at hSw); go_simp; try with_reducible rfl)
      (try simp only [Act.put, List.setIfInBounds_toArray, List.set_cons_zero, List.set_cons_succ])
      refine' wpAnyT_take (i := 4) (oi := ?oia4) (v := ?va4) ?hia4 (by kernel_rfl) (by kernel_rfl) ?hqa4 ?hya4 hHeld ?resta4
      case hia4 => (simp only [List.getElem?_toArray, List.getElem?_cons_zero, List.getElem?_cons_succ]; rfl)
      case hqa4 => exact fun _ _ _ h => h
      case hya4 => (refine Or.inl ⟨by rfl, ?_⟩; intro w' hSw; (try dsimp only at hSw); go_simp; try with_reducible rfl)
      (try simp only [Act.put, List.setIfInBounds_toArray, List.set_cons_zero, List.set_cons_succ])
      refine' wpAnyT_take (i := 5) (oi := ?oia5) (v := ?va5) ?hia5 (by kernel_rfl) (by kernel_rfl) ?hqa5 ?hya5 hHeld ?resta5
      case hia5 => (simp only [List.getElem?_toArray, List.getElem?_cons_zero, List.getElem?_cons_succ]; rfl)
      case hqa5 => exact fun _ _ _ h => h
      case hya5 => (refine Or.inl ⟨by rfl, ?_⟩; intro w' hSw; (try dsimp only at hSw); go_simp; try with_reducible rfl)
      (try simp only [Act.put, List.setIfInBounds_toArray, List.set_cons_zero, List.set_cons_succ])
      refine' wpAnyT_take (i := 6) (oi := ?oia6) (v := ?va6) ?hia6 (by kernel_rfl) (by kernel_rfl) ?hqa6 ?hya6 hHeld ?resta6
      case hia6 => (simp only [List.getElem?_toArray, List.getElem?_cons_zero, List.getElem?_cons_succ]; rfl)
      case hqa6 => exact fun _ _ _ h => h
      case hya6 => (refine Or.inl ⟨by rfl, ?_⟩; intro w' hSw; (try dsimp only at hSw); go_simp; try with_reducible rfl)
      (try simp only [Act.put, List.setIfInBounds_toArray, List.set_cons_zero, List.set_cons_succ])
      refine' wpAnyT_take (i := 7) (oi := ?oia7) (v := ?va7) ?hia7 (by kernel_rfl) (by kernel_rfl) ?hqa7 ?hya7 hHeld ?resta7
      case hia7 => (simp only [List.getElem?_toArray, List.getElem?_cons_zero, List.getElem?_cons_succ]; rfl)
      case hqa7 => exact fun _ _ _ h => h
      case hya7 => (refine Or.inl ⟨by rfl, ?_⟩; intro w' hSw; (try dsimp only at hSw); go_simp; try with_reducible rfl)
      (try simp only [Act.put, List.setIfInBounds_toArray, List.set_cons_zero, List.set_cons_succ])
      refine' wpAnyT_take (i := 8) (oi := ?oia8) (v := ?va8) ?hia8 (by kernel_rfl) (by kernel_rfl) ?hqa8 ?hya8 hHeld ?resta8
      case hia8 => (simp only [List.getElem?_toArray, List.getElem?_cons_zero, List.getElem?_cons_succ]; rfl)
      case hqa8 => exact fun _ _ _ h => h
      case hya8 => (refine Or.inl ⟨by rfl, ?_⟩; intro w' hSw; (try dsimp only at hSw); go_simp; try with_reducible rfl)
      (try simp only [Act.put, List.setIfInBounds_toArray, List.set_cons_zero, List.set_cons_succ])
      refine' wpAnyT_take (i := 9) (oi := ?oia9) (v := ?va9) ?hia9 (by kernel_rfl) (by kernel_rfl) ?hqa9 ?hya9 hHeld ?resta9
      case hia9 => (simp only [List.getElem?_toArray, List.getElem?_cons_zero, List.getElem?_cons_succ]; rfl)
      case hqa9 => exact fun _ _ _ h => h
      case hya9 => (refine Or.inl ⟨by rfl, ?_⟩; intro w' hSw; (try dsimp only at hSw); go_simp; try with_reducible rfl)
      (try simp only [Act.put, List.setIfInBounds_toArray, List.set_cons_zero, List.set_cons_succ])
      refine' wpAnyT_take (i := 10) (oi := ?oia10) (v := ?va10) ?hia10 (by kernel_rfl) (by kernel_rfl) ?hqa10 ?hya10 hHeld ?resta10
      case hia10 => (simp only [List.getElem?_toArray, List.getElem?_cons_zero, List.getElem?_cons_succ]; rfl)
      case hqa10 => exact fun _ _ _ h => h
      case hya10 => (refine Or.inl ⟨by rfl, ?_⟩; intro w' hSw; (try dsimp only at hSw); go_simp; try with_reducible rfl)
      (try simp only [Act.put, List.setIfInBounds_toArray, List.set_cons_zero, List.set_cons_succ])
      refine wpAnyT_all (l := [11, 13]) (by kernel_rfl) (by decide) ?_
      intro i hi
      simp only [List.mem_cons, List.not_mem_nil, or_false] at hi
      rcases hi with rfl | rfl
      · refine ⟨_, by (simp only [List.getElem?_toArray, List.getElem?_cons_zero, List.getElem?_cons_succ]; rfl), fun KK hKK => ?_⟩
        go_simp
        go_at_call 49
        refine (HCL.out wo.drew HB1.out).mono ?_
        rintro e w3 ⟨v3, rfl, ho3, hb3⟩
        obtain ⟨cA, cc, rfl⟩ := own_form ho3
        rw [HM.out] at ho3 ⊢
        have HB3 := hid (HB1.out.trans (hb3.mono HB1.out.size))
        have HQ3 := hid (own_base ho3 HB1.out.size)
        have hHeld := HS.out _ HB3.out
        clear ho3 hb3
        refine hKK.out _ _ (fun _ => hHeld) ?_
        clear hKK KK
        (try simp only [Act.put, List.setIfInBounds_toArray, List.set_cons_zero, List.set_cons_succ])
        refine' wpAnyT_take (i := 12) (oi := ?oib12) (v := ?vb12) ?hib12 (by kernel_rfl) (by kernel_rfl) ?hqb12 ?hyb12 hHeld ?restb12
        case hib12 => (simp only [List.getElem?_toArray, List.getElem?_cons_zero, List.getElem?_cons_succ]; rfl)
        case hqb12 => exact fun _ _ _ h => h
        case hyb12 => (refine Or.inl ⟨by rfl, ?_⟩; intro w' hSw; (try dsimp only at hSw); go_simp; try with_reducible rfl)
        (try simp only [Act.put, List.setIfInBounds_toArray, List.set_cons_zero, List.set_cons_succ])
        refine wpAnyT_all (l := [13]) (by kernel_rfl) (by decide) ?_
        intro i hi
        simp only [List.mem_cons, List.not_mem_nil, or_false] at hi
        subst hi
        refine ⟨_, by (simp only [List.getElem?_toArray, List.getElem?_cons_zero, List.getElem?_cons_succ]; rfl), fun KK hKK => ?_⟩
        go_simp
        obtain ⟨w4, hW⟩ : ∃ X, w3.alloc (.cells #[.int .i64 0, .int .i64 0, .slice none 0 0] 69) = X := ⟨_, rfl⟩
        obtain ⟨h, hh⟩ : ∃ h, w3.heap.size = h := ⟨_, rfl⟩
        have hb5 : Below w3.heap.size w3 w4 := by rw [← hW]; exact al1 _ _
        have HF3 : Hid (w4.heap[h]? = some (.cells #[.int .i64 0, .int .i64 0, .slice none 0 0] 69)) := hid (by rw [← hW, ← hh]; exact heap_alloc_new _ _)
        have HB4 := hid (HB3.out.trans (hb5.mono HB3.out.size))
        have hgh : wo.heap.size ≤ h := by rw [← hh]; exact HB3.out.size
        rw [hW]
        (try rw [hh])
        have hHeld := HS.out _ HB4.out
        have HQ4 := hid (own_keep HQ3.out (keep_below hb5))
        clear hb5 hW hh
        refine hKK.out _ _ (fun _ => hHeld) ?_
        clear hKK KK
        (try simp only [Act.put, List.setIfInBounds_toArray, List.set_cons_zero, List.set_cons_succ])
        have f0 := box_fr HF3.out 0
        have f1 := box_fr HF3.out 1
        have f2 := box_fr HF3.out 2
        have y0 := cell_of_row _ _ 0 _ _ _ HF3.out
        have y1 := cell_of_row _ _ 1 _ _ _ HF3.out
        have y2 := cell_of_row _ _ 2 _ _ _ HF3.out
        refine wpAnyT_all (l := [14]) (by kernel_rfl) (by decide) ?_
        intro i hi
        simp only [List.mem_cons, List.not_mem_nil, or_false] at hi
        subst hi
        refine ⟨_, by (simp only [List.getElem?_toArray, List.getElem?_cons_zero, List.getElem?_cons_succ]; rfl), fun KK hKK => ?_⟩
        go_simp
        refine hKK.out _ _ (fun h => absurd h (by decide)) ?_
        clear hKK KK
        (try simp only [Act.put, List.setIfInBounds_toArray, List.set_cons_zero, List.set_cons_succ])
        refine wpAnyT_done (by kernel_rfl) ?_ _
        obtain ⟨W5, hW5⟩ : ∃ X, ((w4.setCell ⟨h, 0, none⟩ (.int .i64 (idle + d))).setCell ⟨h, 1, none⟩ (.int .i64 nk)).setCell ⟨h, 2, none⟩ (.slice cA M cc) = X := ⟨_, rfl⟩
        have HF5 : Hid (W5.heap[h]? = some (.cells #[.int .i64 (idle + d), .int .i64 nk, .slice cA M cc] 69)) := hid (by rw [← hW5]; exact set3h _ _ _ HF3.out)
        have HB5 : Hid (Below wo.heap.size wo W5) := hid (by rw [← hW5]; exact set3b _ _ _ HB4.out hgh)
        have HQ5 := hid (show W5.ownsRow wo.heap.size 5 1 (.slice cA M cc) M (p.map byteV) by rw [← hW5]; exact own_keep HQ4.out (fun q cs hq => (set3o _ _ _ (fun e => by rw [e, HF3.out] at hq; cases hq)).trans hq))
        have hX5 := (HB5.out.block _ hLw).trans HX.out
        have HO5 := hid (own_keep HO.out (keep_below HB5.out))
        have x5 := cell_of_row _ _ 5 _ _ _ hX5
        have fx5 := box_fr hX5 5
        have x6 := cell_of_row _ _ 6 _ _ _ hX5
        have hX6 := box_set (cs := [Value.int .i64 mn, Value.int .i64 mx, .int .i64 rt, .bool dn, .int .i64 idle, .int .i64 nk, .slice gA Q gc]) hX5 5 (.int .i64 (nk + 1))
        have HX6 : Hid ((W5.setCell ⟨L, 5, none⟩ (.int .i64 (nk + 1))).heap[L]? = some (.cells #[.int .i64 mn, .int .i64 mx, .int .i64 rt, .bool dn, .int .i64 idle, .int .i64 (nk + 1), .slice gA Q gc] 26)) := hid hX6
        obtain ⟨W6, hW6⟩ : ∃ X, W5.setCell ⟨L, 5, none⟩ (.int .i64 (nk + 1)) = X := ⟨_, rfl⟩
        have hkp6 : ∀ T, T ≠ 26 → Keep T W5 W6 := fun T hT q cs hq => by
          rw [← hW6]
          refine (Below.heap_setCell _ _ _ _ (fun e => ?_)).trans hq
          have e' : q = L := e
          rw [e', hX5] at hq
          cases hq
          exact hT rfl
        have HO6 := hid (own_keep HO5.out (hkp6 69 (by decide)))
        have HQ6 := hid (own_keep HQ5.out (hkp6 5 (by decide)))
        have HF6 := hid (hkp6 69 (by decide) _ _ HF5.out)
        have HB6 : Hid (Below B w W6) := hid (by rw [← hW6]; exact (HB.out.trans (HB5.out.mono (Nat.le_trans hBw HB.out.size))).setCell (p := ⟨L, 5, none⟩) (by show _ ≤ L; omega) _)
        have HP6 := hid (fun x hx => ((HPY.out x hx).keep (keep_below HB5.out)).keep (hkp6 5 (by decide)))
        have HK6 : Hid (∀ T, T ≠ 26 → T ≠ 69 → Keep T w W6) := hid (fun T h1 h2 => ((HKP.out T h1 h2).trans (keep_below HB5.out)).trans (hkp6 T h1))
        have hs6 : w.heap.size ≤ W6.heap.size := by rw [← hW6]; have h1 := HSZ.out; have h2 := HB5.out.size; have h3 := ((Below.refl 0 W5).setCell (p := ⟨L, 5, none⟩) (Nat.zero_le _) (.int .i64 (nk + 1))).size; omega
        have HW6 := hid hW6
        rw [hW6] at HX6
        rw [hW5]
        clear hW5 hX5 hX6 hW6 hkp6 f0 f1 f2 y0 y1 y2 HF3 HQ3 HQ4 hHeld HB4
        go_wp2_with fail
        rw [HW6.out]
        clear x5 fx5 x6
        obtain ⟨tt, htt⟩ : ∃ tt, idle + d = tt := ⟨_, rfl⟩
        rw [htt] at HF6
        have HTT := hid htt
        clear htt
        go_loopg [42] Q (fun r i wq => ∃ u : Nat, u + r = Q ∧ i = .int .i64 (u : Int) ∧ Hid (unt (vs.map core) tt = u + unt ((vs.map core).drop u) tt) ∧ Hid (Below W6.heap.size W6 wq))
        case atStart => exact ⟨0, Nat.zero_add _, rfl, hid (by simp), hid (Below.refl _ _)⟩
        case round =>
          obtain ⟨u, hur, rfl, HU, HBQ⟩ := hrel
          have HXq := hid ((HBQ.out.block _ (box_lt HX6.out)).trans HX6.out)
          have HFq := hid ((HBQ.out.block _ (box_lt HF6.out)).trans HF6.out)
          have HOq := hid (own_keep HO6.out (keep_below HBQ.out))
          have HPq := hid (fun x hx => (HP6.out x hx).keep (keep_below HBQ.out))
          have HQq := hid (own_keep HQ6.out (keep_below HBQ.out))
          have hgL := box_lt HXq.out
          have hgh2 := box_lt HFq.out
          have x6 := cell_of_row _ _ 6 _ _ _ HXq.out
          have fx6 := box_fr HXq.out 6
          have y0 := cell_of_row _ _ 0 _ _ _ HFq.out
          have y1 := cell_of_row _ _ 1 _ _ _ HFq.out
          have y2 := cell_of_row _ _ 2 _ _ _ HFq.out
          by_cases huQ : u < Q
          · obtain ⟨r1, rfl⟩ : ∃ r1, gk = r1 + 1 := ⟨gk - 1, by omega⟩
            have huQ' : (u : Int) < (Q : Int) := by omega
            obtain ⟨x, hx⟩ : ∃ x, vs[u]? = some x := ⟨vs[u]'(by rw [HVL.out]; exact huQ), List.getElem?_eq_getElem _⟩
            obtain ⟨ga, rfl⟩ : ∃ ga, gA = some ⟨ga, 0, none⟩ := by
              rcases HOq.out.2 with ⟨e, h0⟩ | ⟨q, _, _, e, _⟩
              · omega
              · injection e with e1; exact ⟨q, e1⟩
            have hfl : ∀ j z, (cFl x)[j]? = some z → (vs.map cFl).flatten[u * 3 + j]? = some z := fun j z hz => by
              have hr : (vs.map cFl)[u]? = some (cFl x) := by rw [List.getElem?_map, hx]; rfl
              exact (flat_getG (st := 3) (fun r hr => by obtain ⟨s, hs, rfl⟩ := List.mem_map.1 hr; rfl) hr (by have := (List.getElem?_eq_some_iff.1 hz).1; exact this)).trans hz
            have q0 : wr.cell? ⟨ga, u * 3, none⟩ = some (.int .i64 x.t) := (HOq.out.cellAt (u * 3) (by omega)).trans (hfl 0 _ rfl)
            have q1 : wr.cell? ⟨ga, u * 3 + 1, none⟩ = some (.int .i64 x.n) := (HOq.out.cellAt (u * 3 + 1) (by omega)).trans (hfl 1 _ rfl)
            have q2 : wr.cell? ⟨ga, u * 3 + 2, none⟩ = some x.d := (HOq.out.cellAt (u * 3 + 2) (by omega)).trans (hfl 2 _ rfl)
            have HUD := hid (unt_drop (l := vs.map core) (i := u) (x := core x) (by rw [List.getElem?_map, hx]; rfl) tt)
            have hxd : ∃ xA xm xc, x.d = .slice xA xm xc := by
              obtain ⟨xA, xc, e⟩ := byt_form (HPq.out x (List.mem_of_getElem? hx)).byt.1
              exact ⟨_, _, _, e⟩
            clear hfl hx
            obtain ⟨xt, xn, xd, xp⟩ := x
            dsimp only at q0 q1 q2 hxd
            obtain ⟨xA, xm, xc, rfl⟩ := hxd
            obtain ⟨W7, hW7⟩ : ∃ X, wr.alloc (.cells #[.int .i64 xt, .int .i64 xn, .slice xA xm xc] 69) = X := ⟨_, rfl⟩
            have hb7 : Below wr.heap.size wr W7 := by rw [← hW7]; exact al1 _ _
            have HW7 := hid hW7
            have HB7 := hid hb7
            have y0' : (wr.alloc (.cells #[.int .i64 xt, .int .i64 xn, .slice xA xm xc] 69)).cell? ⟨h, 0, none⟩ = some (.int .i64 tt) := by rw [hW7]; exact (hb7.cell (p := ⟨h, 0, none⟩) hgh2).trans y0
            clear hb7 hW7
            by_cases hlt : tt < xt
            · have dlt : decide (tt < xt) = true := decide_eq_true hlt
              have HUU : Hid (unt (vs.map core) tt = u) := hid (HU.out.trans (by rw [HUD.out]; show u + (if tt < xt then 0 else _) = u; rw [if_pos hlt]; rfl))
              clear hlt
              go_wp2_with fail
              rw [HW7.out]
              clear x6 fx6 y0 y1 y2 y0' q0 q1 q2
              have HX7 := hid ((HB7.out.block _ hgL).trans HXq.out)
              have HF7 := hid ((HB7.out.block _ hgh2).trans HFq.out)
              have HO7 := hid (own_keep HOq.out (keep_below HB7.out))
              have HP7 := hid (fun x hx => (HPq.out x hx).keep (keep_below HB7.out))
              have HQ7 := hid (own_keep HQq.out (keep_below HB7.out))
              have HB8 := hid (HBQ.out.trans (HB7.out.mono HBQ.out.size))
              have hgL7 := box_lt HX7.out
              have hgh7 := box_lt HF7.out
              have hBw7 : B ≤ W7.heap.size := by have h1 := HB8.out.size; omega
              have x6 := cell_of_row _ _ 6 _ _ _ HX7.out
              have y0 := cell_of_row _ _ 0 _ _ _ HF7.out
              have y1 := cell_of_row _ _ 1 _ _ _ HF7.out
              have y2 := cell_of_row _ _ 2 _ _ _ HF7.out
              have hHeld : W7.drew.cell? ⟨L, 6, none⟩ = some (.slice (some ⟨ga, 0, none⟩) Q gc) ∧ W7.drew.cell? ⟨h, 0, none⟩ = some (.int .i64 tt) ∧ W7.drew.cell? ⟨h, 1, none⟩ = some (.int .i64 nk) ∧ W7.drew.cell? ⟨h, 2, none⟩ = some (.slice cA M cc) := ⟨x6, y0, y1, y2⟩
              obtain ⟨W8, hW8⟩ : ∃ X, (W7.alloc (.cells #[.int .i64 tt, .int .i64 nk, .slice cA M cc] 69)).drew = X := ⟨_, rfl⟩
              have hb8 : Below W7.heap.size W7 W8 := by rw [← hW8]; exact (al1 W7 _).drew
              have hv8 : W8.heap[W7.heap.size]? = some (.cells #[.int .i64 tt, .int .i64 nk, .slice cA M cc] 69) := by rw [← hW8]; exact heap_alloc_new W7 _
              have hoo8 := own_keep HO7.out (keep_below hb8)
              have hgo : ga < wo.heap.size := by have := (HO.out.lt ga rfl).2; exact this
              have hgw : ga < W7.heap.size := by have := (HO7.out.lt ga rfl).2; exact this
              have hBw8 : B ≤ W8.heap.size := Nat.le_trans hBw7 hb8.size
              have HP8 := hid (fun x hx => (HP7.out x hx).keep (keep_below hb8))
              have HIN := hid (insert_any B (.slice (some ⟨ga, 0, none⟩) Q gc) Q u vs [.int .i64 tt, .int .i64 nk, .slice cA M cc] W7.heap.size 69 W8 hoo8 HVL.out HP8.out (by omega) (by omega) rfl (fl_one _ _ _ _ _) hv8 (fun e => by simp [Value.ownBlock] at e; omega) hBw8)
              have HO8 := hid hoo8
              have HX8 := hid ((hb8.block _ hgL7).trans HX7.out)
              have HF8 := hid ((hb8.block _ hgh7).trans HF7.out)
              have HQ8 := hid (own_keep HQ7.out (keep_below hb8))
              have HBB8 := hid (HB8.out.trans (hb8.mono HB8.out.size))
              have HBK8 := hid hb8
              have HW8 := hid hW8
              clear hb8 hv8 hoo8 hW8 x6 y0 y1 y2
              refine region_tail 11 (fun X => X.cell? ⟨L, 6, none⟩ = some (.slice (some ⟨ga, 0, none⟩) Q gc) ∧ X.cell? ⟨h, 0, none⟩ = some (.int .i64 tt) ∧ X.cell? ⟨h, 1, none⟩ = some (.int .i64 nk) ∧ X.cell? ⟨h, 2, none⟩ = some (.slice cA M cc)) (by kernel_rfl) ?_
              refine' wpAnyT_take (i := 0) (oi := ?oid0) (v := ?vd0) ?hid0 (by kernel_rfl) (by kernel_rfl) ?hqd0 ?hyd0 hHeld ?restd0
              case hid0 => (simp only [List.getElem?_toArray, List.getElem?_cons_zero]; rfl)
              case hqd0 => exact fun _ _ _ h => h
              case hyd0 => (refine Or.inl ⟨by rfl, ?_⟩; intro w' hSw; (try dsimp only at hSw); go_simp; try with_reducible rfl)
              (try simp only [Act.put, List.setIfInBounds_toArray, List.set_cons_zero, List.set_cons_succ])
              refine' wpAnyT_take (i := 1) (oi := ?oid1) (v := ?vd1) ?hid1 (by kernel_rfl) (by kernel_rfl) ?hqd1 ?hyd1 hHeld ?restd1
              case hid1 => (simp only [List.getElem?_toArray, List.getElem?_cons_zero, List.getElem?_cons_succ]; rfl)
              case hqd1 => exact fun _ _ _ h => h
              case hyd1 => (refine Or.inl ⟨by rfl, ?_⟩; intro w' hSw; (try dsimp only at hSw); go_simp; try with_reducible rfl)
              (try simp only [Act.put, List.setIfInBounds_toArray, List.set_cons_zero, List.set_cons_succ])
              refine' wpAnyT_take (i := 2) (oi := ?oid2) (v := ?vd2) ?hid2 (by kernel_rfl) (by kernel_rfl) ?hqd2 ?hyd2 hHeld ?restd2
              case hid2 => (simp only [List.getElem?_toArray, List.getElem?_cons_zero, List.getElem?_cons_succ]; rfl)
              case hqd2 => exact fun _ _ _ h => h
              case hyd2 => (refine Or.inl ⟨by rfl, ?_⟩; intro w' hSw; (try dsimp only at hSw); go_simp; try with_reducible rfl)
              (try simp only [Act.put, List.setIfInBounds_toArray, List.set_cons_zero, List.set_cons_succ])
              refine' wpAnyT_take (i := 3) (oi := ?oid3) (v := ?vd3) ?hid3 (by kernel_rfl) (by kernel_rfl) ?hqd3 ?hyd3 hHeld ?restd3
              case hid3 => (simp only [List.getElem?_toArray, List.getElem?_cons_zero, List.getElem?_cons_succ]; rfl)
              case hqd3 => exact fun _ _ _ h => h
              case hyd3 => (refine Or.inl ⟨by rfl, ?_⟩; intro w' hSw; (try dsimp only at hSw); go_simp; try with_reducible rfl)
              (try simp only [Act.put, List.setIfInBounds_toArray, List.set_cons_zero, List.set_cons_succ])
              refine' wpAnyT_take (i := 4) (oi := ?oid4) (v := ?vd4) ?hid4 (by kernel_rfl) (by kernel_rfl) ?hqd4 ?hyd4 hHeld ?restd4
              case hid4 => (simp only [List.getElem?_toArray, List.getElem?_cons_zero, List.getElem?_cons_succ]; rfl)
              case hqd4 => exact fun _ _ _ h => h
              case hyd4 => (refine Or.inl ⟨by rfl, ?_⟩; intro w' hSw; (try dsimp only at hSw); go_simp; try with_reducible rfl)
              (try simp only [Act.put, List.setIfInBounds_toArray, List.set_cons_zero, List.set_cons_succ])
              refine' wpAnyT_take (i := 5) (oi := ?oid5) (v := ?vd5) ?hid5 (by kernel_rfl) (by kernel_rfl) ?hqd5 ?hyd5 hHeld ?restd5
              case hid5 => (simp only [List.getElem?_toArray, List.getElem?_cons_zero, List.getElem?_cons_succ]; rfl)
              case hqd5 => exact fun _ _ _ h => h
              case hyd5 => (refine Or.inl ⟨by rfl, ?_⟩; intro w' hSw; (try dsimp only at hSw); go_simp; try with_reducible rfl)
              (try simp only [Act.put, List.setIfInBounds_toArray, List.set_cons_zero, List.set_cons_succ])
              refine' wpAnyT_take (i := 6) (oi := ?oid6) (v := ?vd6) ?hid6 (by kernel_rfl) (by kernel_rfl) ?hqd6 ?hyd6 hHeld ?restd6
              case hid6 => (simp only [List.getElem?_toArray, List.getElem?_cons_zero, List.getElem?_cons_succ]; rfl)
              case hqd6 => exact fun _ _ _ h => h
              case hyd6 => (refine Or.inl ⟨by rfl, ?_⟩; intro w' hSw; (try dsimp only at hSw); go_simp; try with_reducible rfl)
              (try simp only [Act.put, List.setIfInBounds_toArray, List.set_cons_zero, List.set_cons_succ])
              refine wpAnyT_all (l := [7]) (by kernel_rfl) (by decide) ?_
              intro i hi
              simp only [List.mem_cons, List.not_mem_nil, or_false] at hi
              subst hi
              refine ⟨_, by (simp only [List.getElem?_toArray, List.getElem?_cons_zero, List.getElem?_cons_succ]; rfl), fun KK hKK => ?_⟩
              go_simp
              rw [HW8.out]
              have hHeld : W8.cell? ⟨L, 6, none⟩ = some (.slice (some ⟨ga, 0, none⟩) Q gc) ∧ W8.cell? ⟨h, 0, none⟩ = some (.int .i64 tt) ∧ W8.cell? ⟨h, 1, none⟩ = some (.int .i64 nk) ∧ W8.cell? ⟨h, 2, none⟩ = some (.slice cA M cc) := ⟨cell_of_row _ _ 6 _ _ _ HX8.out, cell_of_row _ _ 0 _ _ _ HF8.out, cell_of_row _ _ 1 _ _ _ HF8.out, cell_of_row _ _ 2 _ _ _ HF8.out⟩
              refine hKK.out _ _ (fun _ => hHeld) ?_
              clear hKK KK
              (try simp only [Act.put, List.setIfInBounds_toArray, List.set_cons_zero, List.set_cons_succ])
              refine wpAnyT_all (l := [8]) (by kernel_rfl) (by decide) ?_
              intro i hi
              simp only [List.mem_cons, List.not_mem_nil, or_false] at hi
              subst hi
              refine ⟨_, by (simp only [List.getElem?_toArray, List.getElem?_cons_zero, List.getElem?_cons_succ]; rfl), fun KK hKK => ?_⟩
              go_simp
              go_at_call 54
              refine HIN.out.mono ?_
              rintro e w9 ⟨v9, rfl, ho9, hg9⟩
              obtain ⟨rA, rc, rfl⟩ := own_form69 ho9
              have HX9 := hid (keep_grown (T := 26) HO8.out (by decide) hg9 _ _ HX8.out)
              have HF9 := hid ((hg9.block h (box_lt HF8.out) (by simp [Value.ownBlock]; omega)).trans HF8.out)
              have HQ9 := hid (own_keep HQ8.out (keep_grown (T := 5) HO8.out (by decide) hg9))
              have HP9 := hid (fun x hx => (HP8.out x hx).keep (keep_grown (T := 5) HO8.out (by decide) hg9))
              have HO9 := hid ho9
              have HG9 := hid hg9
              have hHeld : w9.cell? ⟨L, 6, none⟩ = some (.slice (some ⟨ga, 0, none⟩) Q gc) ∧ w9.cell? ⟨h, 0, none⟩ = some (.int .i64 tt) ∧ w9.cell? ⟨h, 1, none⟩ = some (.int .i64 nk) ∧ w9.cell? ⟨h, 2, none⟩ = some (.slice cA M cc) := ⟨cell_of_row _ _ 6 _ _ _ HX9.out, cell_of_row _ _ 0 _ _ _ HF9.out, cell_of_row _ _ 1 _ _ _ HF9.out, cell_of_row _ _ 2 _ _ _ HF9.out⟩
              have fx6 := box_fr HX9.out 6
              have x6 := cell_of_row _ _ 6 _ _ _ HX9.out
              clear ho9 hg9
              refine hKK.out _ _ (fun _ => hHeld) ?_
              clear hKK KK
              (try simp only [Act.put, List.setIfInBounds_toArray, List.set_cons_zero, List.set_cons_succ])
              refine wpAnyT_all (l := [9]) (by kernel_rfl) (by decide) ?_
              intro i hi
              simp only [List.mem_cons, List.not_mem_nil, or_false] at hi
              subst hi
              refine ⟨_, by (simp only [List.getElem?_toArray, List.getElem?_cons_zero, List.getElem?_cons_succ]; rfl), fun KK hKK => ?_⟩
              go_simp
              refine hKK.out _ _ (fun _ => hHeld) ?_
              clear hKK KK
              (try simp only [Act.put, List.setIfInBounds_toArray, List.set_cons_zero, List.set_cons_succ])
              refine wpAnyT_all (l := [10]) (by kernel_rfl) (by decide) ?_
              intro i hi
              simp only [List.mem_cons, List.not_mem_nil, or_false] at hi
              subst hi
              refine ⟨_, by (simp only [List.getElem?_toArray, List.getElem?_cons_zero, List.getElem?_cons_succ]; rfl), fun KK hKK => ?_⟩
              go_simp
              refine hKK.out _ _ (fun _ => hHeld) ?_
              clear hKK KK
              (try simp only [Act.put, List.setIfInBounds_toArray, List.set_cons_zero, List.set_cons_succ])
              refine wpAnyT_all (l := [11]) (by kernel_rfl) (by decide) ?_
              intro i hi
              simp only [List.mem_cons, List.not_mem_nil, or_false] at hi
              subst hi
              refine ⟨_, by (simp only [List.getElem?_toArray, List.getElem?_cons_zero, List.getElem?_cons_succ]; rfl), fun KK hKK => ?_⟩
              go_simp
              refine hKK.out _ _ (fun h => absurd h (by decide)) ?_
              clear hKK KK
              (try simp only [Act.put, List.setIfInBounds_toArray, List.set_cons_zero, List.set_cons_succ])
              refine wpAnyT_done (by kernel_rfl) ?_ _
              have hX10 := box_set (cs := [Value.int .i64 mn, Value.int .i64 mx, .int .i64 rt, .bool dn, .int .i64 idle, .int .i64 (nk + 1), .slice (some ⟨ga, 0, none⟩) Q gc]) HX9.out 6 (.slice rA (Q + 1) rc)
              obtain ⟨W10, hW10⟩ : ∃ X, w9.setCell ⟨L, 6, none⟩ (.slice rA (Q + 1) rc) = X := ⟨_, rfl⟩
              have hk10 : ∀ T, T ≠ 26 → Keep T w9 W10 := fun T hT q cs hq => by
                rw [← hW10]
                refine (Below.heap_setCell _ _ _ _ (fun e => ?_)).trans hq
                have e' : q = L := e
                rw [e', HX9.out] at hq
                cases hq
                exact hT rfl
              rw [hW10] at hX10
              have eN : nk + 1 = next + ((k + 1 : Nat) : Int) := by have := HNK.out; omega
              have HX10 : Hid (W10.heap[L]? = some (.cells #[.int .i64 mn, .int .i64 mx, .int .i64 rt, .bool dn, .int .i64 idle, .int .i64 (next + ((k + 1 : Nat) : Int)), .slice rA (Q + 1) rc] 26)) := hid (by rw [← eN]; exact hX10)
              have eQ : N + (k + 1) = Q + 1 := by have := HQQ.out; omega
              have HK10 : Hid (∀ T, T ≠ 26 → T ≠ 69 → Keep T w W10) := hid (fun T h1 h2 => ((((HK6.out T h1 h2).trans (keep_below HBB8.out)).trans (keep_grown HO8.out h2 HG9.out)).trans (hk10 T h1)))
              have HB10 : Hid (Below B w W10) := hid (by
                rw [← hW10]
                exact (((HB6.out.trans (HBB8.out.mono (Nat.le_trans hBw HB6.out.size))).grown HG9.out (by have h1 := HB6.out.size; have h2 := HBB8.out.size; omega) (fun q e => by have := (HO8.out.lt q e).1; omega))).setCell (p := ⟨L, 6, none⟩) (by show _ ≤ L; omega) _)
              have hs10 : w.heap.size ≤ W10.heap.size := by
                have h1 := HBB8.out.size
                have h2 := HG9.out.size
                have h3 := ((Below.refl 0 w9).setCell (p := ⟨L, 6, none⟩) (Nat.zero_le _) (.slice rA (Q + 1) rc)).size
                rw [hW10] at h3
                omega
              have HLV : Hid ((vs.take u ++ [(⟨tt, nk, .slice cA M cc, p⟩ : Fl)] ++ vs.drop u).length = N + (k + 1)) := hid (by rw [eQ]; rw [List.length_append, List.length_append, List.length_take, List.length_drop, HVL.out, List.length_singleton]; omega)
              have HO10 : Hid (W10.ownsRow B 69 3 (.slice rA (Q + 1) rc) (N + (k + 1)) ((vs.take u ++ [(⟨tt, nk, .slice cA M cc, p⟩ : Fl)] ++ vs.drop u).map cFl).flatten) := hid (by
                rw [eQ]
                have h := own_keep HO9.out (hk10 69 (by decide))
                rw [List.map_append, List.map_append, List.flatten_append, List.flatten_append]
                simpa [cFl] using h)
              have HC10 : Hid ((vs.take u ++ [(⟨tt, nk, .slice cA M cc, p⟩ : Fl)] ++ vs.drop u).map core = lau idle p (ds.take (k + 1)) next (l.map core)) := hid (by
                rw [HDT.out, lau_snoc, ← HVC.out, List.length_take, HK.out, Nat.min_eq_left (show k ≤ K by omega), HNK.out, HTT.out]
                unfold insF
                dsimp only
                rw [HUU.out]
                rw [List.map_append, List.map_append, List.map_take, List.map_drop]
                rfl)
              have HP10 : Hid (∀ x ∈ vs.take u ++ [(⟨tt, nk, .slice cA M cc, p⟩ : Fl)] ++ vs.drop u, Pay W10 x) := hid (fun x hx => by
                refine Pay.keep (w := w9) ?_ (hk10 5 (by decide))
                rcases List.mem_append.1 hx with hx | hx
                · rcases List.mem_append.1 hx with hx | hx
                  · exact HP9.out x (List.mem_of_mem_take hx)
                  · rw [List.mem_singleton] at hx
                    subst hx
                    exact ⟨⟨_, by dsimp only; rw [HM.out]; exact HQ9.out⟩, HP.out.1⟩
                · exact HP9.out x (List.mem_of_mem_drop hx))
              rw [hW10]
              clear hX10 hk10 hW10
              go_wp2_with fail
              go_roundg r0
              case rel => exact ⟨k + 1, _, vs.take u ++ [(⟨tt, nk, .slice cA M cc, p⟩ : Fl)] ++ vs.drop u, by omega, by go_num, HLV, HC10, HX10, HO10, HP10, HK10, HB10, hid hs10⟩
              omega
            · have dlt : decide (tt < xt) = false := decide_eq_false hlt
              have HUU : Hid (unt (vs.map core) tt = (u + 1 : Nat) + unt ((vs.map core).drop (u + 1)) tt) := hid (HU.out.trans (by rw [HUD.out]; show u + (if tt < xt then 0 else _) = _; rw [if_neg hlt]; omega))
              clear hlt
              go_wp2_with fail
              rw [HW7.out]
              go_roundg r1
              case rel => exact ⟨u + 1, by omega, by go_num, HUU, hid (HBQ.out.trans (HB7.out.mono HBQ.out.size))⟩
              omega
          · have HUU : Hid (unt (vs.map core) tt = Q) := hid (HU.out.trans (by rw [List.drop_of_length_le (by rw [List.length_map, HVL.out]; omega)]; show u + 0 = Q; omega))
            have hHeld : wr.drew.cell? ⟨L, 6, none⟩ = some (.slice gA Q gc) ∧ wr.drew.cell? ⟨h, 0, none⟩ = some (.int .i64 tt) ∧ wr.drew.cell? ⟨h, 1, none⟩ = some (.int .i64 nk) ∧ wr.drew.cell? ⟨h, 2, none⟩ = some (.slice cA M cc) := ⟨x6, y0, y1, y2⟩
            obtain ⟨W8, hW8⟩ : ∃ X, (wr.alloc (.cells #[.int .i64 tt, .int .i64 nk, .slice cA M cc] 69)).drew = X := ⟨_, rfl⟩
            have hb8 : Below wr.heap.size wr W8 := by rw [← hW8]; exact (al1 wr _).drew
            have hv8 : W8.heap[wr.heap.size]? = some (.cells #[.int .i64 tt, .int .i64 nk, .slice cA M cc] 69) := by rw [← hW8]; exact heap_alloc_new wr _
            have hBw8 : B ≤ W8.heap.size := by have h1 := HBQ.out.size; have h2 := hb8.size; omega
            have hBwr : B ≤ wr.heap.size := by have h1 := HBQ.out.size; omega
            have HV8 : Hid (∀ j z, [Value.int .i64 tt, .int .i64 nk, .slice cA M cc][j]? = some z → W8.cell? ((⟨wr.heap.size, 0, none⟩ : Addr).add j) = some z) := hid (fun j z hz => by
              rw [add_at', cell_of_row _ _ _ _ _ _ hv8]
              simpa using hz)
            have HP8 := hid (fun x hx => (HPq.out x hx).keep (keep_below hb8))
            have HO8 := hid (own_keep HOq.out (keep_below hb8))
            have HX8 := hid ((hb8.block _ hgL).trans HXq.out)
            have HF8 := hid ((hb8.block _ hgh2).trans HFq.out)
            have HQ8 := hid (own_keep HQq.out (keep_below hb8))
            have HBB8 := hid (HBQ.out.trans (hb8.mono HBQ.out.size))
            have HW8 := hid hW8
            have hgne : some h ≠ (Value.slice gA Q gc).ownBlock := fun e => by
              have h1 := (HO.out.lt h e.symm).2
              omega
            clear hb8 hv8 hW8 x6 y0 y1 y2 fx6
            go_wp2_with fail
            refine region_tail 10 (fun X => X.cell? ⟨L, 6, none⟩ = some (.slice gA Q gc) ∧ X.cell? ⟨h, 0, none⟩ = some (.int .i64 tt) ∧ X.cell? ⟨h, 1, none⟩ = some (.int .i64 nk) ∧ X.cell? ⟨h, 2, none⟩ = some (.slice cA M cc)) (by kernel_rfl) ?_
            refine' wpAnyT_take (i := 0) (oi := ?oif0) (v := ?vf0) ?hif0 (by kernel_rfl) (by kernel_rfl) ?hqf0 ?hyf0 hHeld ?restf0
            case hif0 => (simp only [List.getElem?_toArray, List.getElem?_cons_zero]; rfl)
            case hqf0 => exact fun _ _ _ h => h
            case hyf0 => (refine Or.inl ⟨by rfl, ?_⟩; intro w' hSw; (try dsimp only at hSw); go_simp; try with_reducible rfl)
            (try simp only [Act.put, List.setIfInBounds_toArray, List.set_cons_zero, List.set_cons_succ])
            refine' wpAnyT_take (i := 1) (oi := ?oif1) (v := ?vf1) ?hif1 (by kernel_rfl) (by kernel_rfl) ?hqf1 ?hyf1 hHeld ?restf1
            case hif1 => (simp only [List.getElem?_toArray, List.getElem?_cons_zero, List.getElem?_cons_succ]; rfl)
            case hqf1 => exact fun _ _ _ h => h
            case hyf1 => (refine Or.inl ⟨by rfl, ?_⟩; intro w' hSw; (try dsimp only at hSw); go_simp; try with_reducible rfl)
            (try simp only [Act.put, List.setIfInBounds_toArray, List.set_cons_zero, List.set_cons_succ])
            refine' wpAnyT_take (i := 2) (oi := ?oif2) (v := ?vf2) ?hif2 (by kernel_rfl) (by kernel_rfl) ?hqf2 ?hyf2 hHeld ?restf2
            case hif2 => (simp only [List.getElem?_toArray, List.getElem?_cons_zero, List.getElem?_cons_succ]; rfl)
            case hqf2 => exact fun _ _ _ h => h
            case hyf2 => (refine Or.inl ⟨by rfl, ?_⟩; intro w' hSw; (try dsimp only at hSw); go_simp; try with_reducible rfl)
            (try simp only [Act.put, List.setIfInBounds_toArray, List.set_cons_zero, List.set_cons_succ])
            refine' wpAnyT_take (i := 3) (oi := ?oif3) (v := ?vf3) ?hif3 (by kernel_rfl) (by kernel_rfl) ?hqf3 ?hyf3 hHeld ?restf3
            case hif3 => (simp only [List.getElem?_toArray, List.getElem?_cons_zero, List.getElem?_cons_succ]; rfl)
            case hqf3 => exact fun _ _ _ h => h
            case hyf3 => (refine Or.inl ⟨by rfl, ?_⟩; intro w' hSw; (try dsimp only at hSw); go_simp; try with_reducible rfl)
            (try simp only [Act.put, List.setIfInBounds_toArray, List.set_cons_zero, List.set_cons_succ])
            refine' wpAnyT_take (i := 4) (oi := ?oif4) (v := ?vf4) ?hif4 (by kernel_rfl) (by kernel_rfl) ?hqf4 ?hyf4 hHeld ?restf4
            case hif4 => (simp only [List.getElem?_toArray, List.getElem?_cons_zero, List.getElem?_cons_succ]; rfl)
            case hqf4 => exact fun _ _ _ h => h
            case hyf4 => (refine Or.inl ⟨by rfl, ?_⟩; intro w' hSw; (try dsimp only at hSw); go_simp; try with_reducible rfl)
            (try simp only [Act.put, List.setIfInBounds_toArray, List.set_cons_zero, List.set_cons_succ])
            refine' wpAnyT_take (i := 5) (oi := ?oif5) (v := ?vf5) ?hif5 (by kernel_rfl) (by kernel_rfl) ?hqf5 ?hyf5 hHeld ?restf5
            case hif5 => (simp only [List.getElem?_toArray, List.getElem?_cons_zero, List.getElem?_cons_succ]; rfl)
            case hqf5 => exact fun _ _ _ h => h
            case hyf5 => (refine Or.inl ⟨by rfl, ?_⟩; intro w' hSw; (try dsimp only at hSw); go_simp; try with_reducible rfl)
            (try simp only [Act.put, List.setIfInBounds_toArray, List.set_cons_zero, List.set_cons_succ])
            refine wpAnyT_all (l := [6]) (by kernel_rfl) (by decide) ?_
            intro i hi
            simp only [List.mem_cons, List.not_mem_nil, or_false] at hi
            subst hi
            refine ⟨_, by (simp only [List.getElem?_toArray, List.getElem?_cons_zero, List.getElem?_cons_succ]; rfl), fun KK hKK => ?_⟩
            go_simp
            rw [HW8.out]
            have hHeld : W8.cell? ⟨L, 6, none⟩ = some (.slice gA Q gc) ∧ W8.cell? ⟨h, 0, none⟩ = some (.int .i64 tt) ∧ W8.cell? ⟨h, 1, none⟩ = some (.int .i64 nk) ∧ W8.cell? ⟨h, 2, none⟩ = some (.slice cA M cc) := ⟨cell_of_row _ _ 6 _ _ _ HX8.out, cell_of_row _ _ 0 _ _ _ HF8.out, cell_of_row _ _ 1 _ _ _ HF8.out, cell_of_row _ _ 2 _ _ _ HF8.out⟩
            refine hKK.out _ _ (fun _ => hHeld) ?_
            clear hKK KK
            (try simp only [Act.put, List.setIfInBounds_toArray, List.set_cons_zero, List.set_cons_succ])
            refine wpAnyT_all (l := [7]) (by kernel_rfl) (by decide) ?_
            intro i hi
            simp only [List.mem_cons, List.not_mem_nil, or_false] at hi
            subst hi
            refine ⟨_, by (simp only [List.getElem?_toArray, List.getElem?_cons_zero, List.getElem?_cons_succ]; rfl), fun KK hKK => ?_⟩
            refine step_append_one rfl (.tmp 68) (.tmp 70) rfl B (.slice gA Q gc) Q _ (by simp [Act.eval]) HO8.out tt nk cA M cc ⟨wr.heap.size, 0, none⟩ 1 (by simp [Act.eval]) HV8.out (by omega) hBw8 ?_
            intro v9 w9 ho9 hg9
            obtain ⟨rA, rc, rfl⟩ := own_form69 ho9
            have HX9 := hid (keep_grown (T := 26) HO8.out (by decide) hg9 _ _ HX8.out)
            have HF9 := hid ((hg9.block h (box_lt HF8.out) hgne).trans HF8.out)
            have HQ9 := hid (own_keep HQ8.out (keep_grown (T := 5) HO8.out (by decide) hg9))
            have HP9 := hid (fun x hx => (HP8.out x hx).keep (keep_grown (T := 5) HO8.out (by decide) hg9))
            have HO9 := hid ho9
            have HG9 := hid hg9
            have hHeld : w9.cell? ⟨L, 6, none⟩ = some (.slice gA Q gc) ∧ w9.cell? ⟨h, 0, none⟩ = some (.int .i64 tt) ∧ w9.cell? ⟨h, 1, none⟩ = some (.int .i64 nk) ∧ w9.cell? ⟨h, 2, none⟩ = some (.slice cA M cc) := ⟨cell_of_row _ _ 6 _ _ _ HX9.out, cell_of_row _ _ 0 _ _ _ HF9.out, cell_of_row _ _ 1 _ _ _ HF9.out, cell_of_row _ _ 2 _ _ _ HF9.out⟩
            have fx6 := box_fr HX9.out 6
            have x6 := cell_of_row _ _ 6 _ _ _ HX9.out
            clear ho9 hg9
            refine hKK.out _ _ (fun _ => hHeld) ?_
            clear hKK KK
            (try simp only [Act.put, List.setIfInBounds_toArray, List.set_cons_zero, List.set_cons_succ])
            refine wpAnyT_all (l := [8]) (by kernel_rfl) (by decide) ?_
            intro i hi
            simp only [List.mem_cons, List.not_mem_nil, or_false] at hi
            subst hi
            refine ⟨_, by (simp only [List.getElem?_toArray, List.getElem?_cons_zero, List.getElem?_cons_succ]; rfl), fun KK hKK => ?_⟩
            go_simp
            refine hKK.out _ _ (fun _ => hHeld) ?_
            clear hKK KK
            (try simp only [Act.put, List.setIfInBounds_toArray, List.set_cons_zero, List.set_cons_succ])
            refine wpAnyT_all (l := [9]) (by kernel_rfl) (by decide) ?_
            intro i hi
            simp only [List.mem_cons, List.not_mem_nil, or_false] at hi
            subst hi
            refine ⟨_, by (simp only [List.getElem?_toArray, List.getElem?_cons_zero, List.getElem?_cons_succ]; rfl), fun KK hKK => ?_⟩
            go_simp
            refine hKK.out _ _ (fun _ => hHeld) ?_
            clear hKK KK
            (try simp only [Act.put, List.setIfInBounds_toArray, List.set_cons_zero, List.set_cons_succ])
            refine wpAnyT_all (l := [10]) (by kernel_rfl) (by decide) ?_
            intro i hi
            simp only [List.mem_cons, List.not_mem_nil, or_false] at hi
            subst hi
            refine ⟨_, by (simp only [List.getElem?_toArray, List.getElem?_cons_zero, List.getElem?_cons_succ]; rfl), fun KK hKK => ?_⟩
            go_simp
            refine hKK.out _ _ (fun h => absurd h (by decide)) ?_
            clear hKK KK
            (try simp only [Act.put, List.setIfInBounds_toArray, List.set_cons_zero, List.set_cons_succ])
            refine wpAnyT_done (by kernel_rfl) ?_ _
            have hX10 := box_set (cs := [Value.int .i64 mn, Value.int .i64 mx, .int .i64 rt, .bool dn, .int .i64 idle, .int .i64 (nk + 1), .slice gA Q gc]) HX9.out 6 (.slice rA (Q + 1) rc)
            obtain ⟨W10, hW10⟩ : ∃ X, w9.setCell ⟨L, 6, none⟩ (.slice rA (Q + 1) rc) = X := ⟨_, rfl⟩
            have hk10 : ∀ T, T ≠ 26 → Keep T w9 W10 := fun T hT q cs hq => by
              rw [← hW10]
              refine (Below.heap_setCell _ _ _ _ (fun e => ?_)).trans hq
              have e' : q = L := e
              rw [e', HX9.out] at hq
              cases hq
              exact hT rfl
            rw [hW10] at hX10
            have eN : nk + 1 = next + ((k + 1 : Nat) : Int) := by have := HNK.out; omega
            have HX10 : Hid (W10.heap[L]? = some (.cells #[.int .i64 mn, .int .i64 mx, .int .i64 rt, .bool dn, .int .i64 idle, .int .i64 (next + ((k + 1 : Nat) : Int)), .slice rA (Q + 1) rc] 26)) := hid (by rw [← eN]; exact hX10)
            have eQ : N + (k + 1) = Q + 1 := by have := HQQ.out; omega
            have HK10 : Hid (∀ T, T ≠ 26 → T ≠ 69 → Keep T w W10) := hid (fun T h1 h2 => ((((HK6.out T h1 h2).trans (keep_below HBB8.out)).trans (keep_grown HO8.out h2 HG9.out)).trans (hk10 T h1)))
            have HB10 : Hid (Below B w W10) := hid (by
              rw [← hW10]
              exact (((HB6.out.trans (HBB8.out.mono (Nat.le_trans hBw HB6.out.size))).grown HG9.out (by have h1 := HB6.out.size; have h2 := HBB8.out.size; omega) (fun q e => by have := (HO8.out.lt q e).1; omega))).setCell (p := ⟨L, 6, none⟩) (by show _ ≤ L; omega) _)
            have hs10 : w.heap.size ≤ W10.heap.size := by
              have h1 := HBB8.out.size
              have h2 := HG9.out.size
              have h3 := ((Below.refl 0 w9).setCell (p := ⟨L, 6, none⟩) (Nat.zero_le _) (.slice rA (Q + 1) rc)).size
              rw [hW10] at h3
              omega
            have HLV : Hid ((vs ++ [(⟨tt, nk, .slice cA M cc, p⟩ : Fl)]).length = N + (k + 1)) := hid (by rw [eQ]; rw [List.length_append, HVL.out, List.length_singleton])
            have HO10 : Hid (W10.ownsRow B 69 3 (.slice rA (Q + 1) rc) (N + (k + 1)) ((vs ++ [(⟨tt, nk, .slice cA M cc, p⟩ : Fl)]).map cFl).flatten) := hid (by
              rw [eQ]
              have h := own_keep HO9.out (hk10 69 (by decide))
              rw [List.map_append, List.flatten_append]
              simpa [cFl] using h)
            have HC10 : Hid ((vs ++ [(⟨tt, nk, .slice cA M cc, p⟩ : Fl)]).map core = lau idle p (ds.take (k + 1)) next (l.map core)) := hid (by
              rw [HDT.out, lau_snoc, ← HVC.out, List.length_take, HK.out, Nat.min_eq_left (show k ≤ K by omega), HNK.out, HTT.out]
              unfold insF
              dsimp only
              rw [HUU.out]
              rw [List.map_append, List.take_of_length_le (by rw [List.length_map, HVL.out]; exact Nat.le_refl _), List.drop_of_length_le (by rw [List.length_map, HVL.out]; exact Nat.le_refl _), List.append_nil]
              rfl)
            have HP10 : Hid (∀ x ∈ vs ++ [(⟨tt, nk, .slice cA M cc, p⟩ : Fl)], Pay W10 x) := hid (fun x hx => by
              refine Pay.keep (w := w9) ?_ (hk10 5 (by decide))
              rcases List.mem_append.1 hx with hx | hx
              · exact HP9.out x hx
              · rw [List.mem_singleton] at hx
                subst hx
                exact ⟨⟨_, by dsimp only; rw [HM.out]; exact HQ9.out⟩, HP.out.1⟩)
            rw [hW10]
            clear hX10 hk10 hW10
            go_wp2_with fail
            go_roundg r0
            case rel => exact ⟨k + 1, _, vs ++ [(⟨tt, nk, .slice cA M cc, p⟩ : Fl)], by omega, by go_num, HLV, HC10, HX10, HO10, HP10, HK10, HB10, hid hs10⟩
            omega
      · refine ⟨_, by (simp only [List.getElem?_toArray, List.getElem?_cons_zero, List.getElem?_cons_succ]; rfl), fun KK hKK => ?_⟩
        go_simp
        obtain ⟨w2, hW⟩ : ∃ X, (wo.alloc (.cells #[.int .i64 0, .int .i64 0, .slice none 0 0] 69)).drew = X := ⟨_, rfl⟩
        obtain ⟨h, hh⟩ : ∃ h, wo.heap.size = h := ⟨_, rfl⟩
        have hb5 : Below wo.drew.heap.size wo.drew w2 := by rw [← hW]; exact al1 wo.drew _
        have HF3 : Hid (w2.heap[h]? = some (.cells #[.int .i64 0, .int .i64 0, .slice none 0 0] 69)) := hid (by rw [← hW, ← hh]; exact heap_alloc_new wo _)
        have HB2 := hid (HB1.out.trans (hb5.mono HB1.out.size))
        have hgh : wo.heap.size ≤ h := by omega
        rw [hW]
        (try rw [hh])
        have hHeld := HS.out _ HB2.out
        clear hb5 hW hh
        refine hKK.out _ _ (fun _ => hHeld) ?_
        clear hKK KK
        (try simp only [Act.put, List.setIfInBounds_toArray, List.set_cons_zero, List.set_cons_succ])
        refine wpAnyT_all (l := [11]) (by kernel_rfl) (by decide) ?_
        intro i hi
        simp only [List.mem_cons, List.not_mem_nil, or_false] at hi
        subst hi
        refine ⟨_, by (simp only [List.getElem?_toArray, List.getElem?_cons_zero, List.getElem?_cons_succ]; rfl), fun KK hKK => ?_⟩
        go_simp
        go_at_call 49
        refine (HCL.out w2 HB2.out).mono ?_
        rintro e w4 ⟨v3, rfl, ho3, hb3⟩
        obtain ⟨cA, cc, rfl⟩ := own_form ho3
        rw [HM.out] at ho3 ⊢
        have HB4 := hid (HB2.out.trans (hb3.mono HB2.out.size))
        have HQ3 := hid (own_base ho3 HB2.out.size)
        have hHeld := HS.out _ HB4.out
        have HF3 := hid ((hb3.block _ (box_lt HF3.out)).trans HF3.out)
        have HQ4 := HQ3
        clear ho3 hb3
        refine hKK.out _ _ (fun _ => hHeld) ?_
        clear hKK KK
        (try simp only [Act.put, List.setIfInBounds_toArray, List.set_cons_zero, List.set_cons_succ])
        refine' wpAnyT_take (i := 12) (oi := ?oic12) (v := ?vc12) ?hic12 (by kernel_rfl) (by kernel_rfl) ?hqc12 ?hyc12 hHeld ?restc12
        case hic12 => (simp only [List.getElem?_toArray, List.getElem?_cons_zero, List.getElem?_cons_succ]; rfl)
        case hqc12 => exact fun _ _ _ h => h
        case hyc12 => (refine Or.inl ⟨by rfl, ?_⟩; intro w' hSw; (try dsimp only at hSw); go_simp; try with_reducible rfl)
        (try simp only [Act.put, List.setIfInBounds_toArray, List.set_cons_zero, List.set_cons_succ])
        have f0 := box_fr HF3.out 0
        have f1 := box_fr HF3.out 1
        have f2 := box_fr HF3.out 2
        have y0 := cell_of_row _ _ 0 _ _ _ HF3.out
        have y1 := cell_of_row _ _ 1 _ _ _ HF3.out
        have y2 := cell_of_row _ _ 2 _ _ _ HF3.out
        refine wpAnyT_all (l := [14]) (by kernel_rfl) (by decide) ?_
        intro i hi
        simp only [List.mem_cons, List.not_mem_nil, or_false] at hi
        subst hi
        refine ⟨_, by (simp only [List.getElem?_toArray, List.getElem?_cons_zero, List.getElem?_cons_succ]; rfl), fun KK hKK => ?_⟩
        go_simp
        refine hKK.out _ _ (fun h => absurd h (by decide)) ?_
        clear hKK KK
        (try simp only [Act.put, List.setIfInBounds_toArray, List.set_cons_zero, List.set_cons_succ])
        refine wpAnyT_done (by kernel_rfl) ?_ _
        obtain ⟨W5, hW5⟩ : ∃ X, ((w4.setCell ⟨h, 0, none⟩ (.int .i64 (idle + d))).setCell ⟨h, 1, none⟩ (.int .i64 nk)).setCell ⟨h, 2, none⟩ (.slice cA M cc) = X := ⟨_, rfl⟩
        have HF5 : Hid (W5.heap[h]? = some (.cells #[.int .i64 (idle + d), .int .i64 nk, .slice cA M cc] 69)) := hid (by rw [← hW5]; exact set3h _ _ _ HF3.out)
        have HB5 : Hid (Below wo.heap.size wo W5) := hid (by rw [← hW5]; exact set3b _ _ _ HB4.out hgh)
        have HQ5 := hid (show W5.ownsRow wo.heap.size 5 1 (.slice cA M cc) M (p.map byteV) by rw [← hW5]; exact own_keep HQ4.out (fun q cs hq => (set3o _ _ _ (fun e => by rw [e, HF3.out] at hq; cases hq)).trans hq))
        have hX5 := (HB5.out.block _ hLw).trans HX.out
        have HO5 := hid (own_keep HO.out (keep_below HB5.out))
        have x5 := cell_of_row _ _ 5 _ _ _ hX5
        have fx5 := box_fr hX5 5
        have x6 := cell_of_row _ _ 6 _ _ _ hX5
        have hX6 := box_set (cs := [Value.int .i64 mn, Value.int .i64 mx, .int .i64 rt, .bool dn, .int .i64 idle, .int .i64 nk, .slice gA Q gc]) hX5 5 (.int .i64 (nk + 1))
        have HX6 : Hid ((W5.setCell ⟨L, 5, none⟩ (.int .i64 (nk + 1))).heap[L]? = some (.cells #[.int .i64 mn, .int .i64 mx, .int .i64 rt, .bool dn, .int .i64 idle, .int .i64 (nk + 1), .slice gA Q gc] 26)) := hid hX6
        obtain ⟨W6, hW6⟩ : ∃ X, W5.setCell ⟨L, 5, none⟩ (.int .i64 (nk + 1)) = X := ⟨_, rfl⟩
        have hkp6 : ∀ T, T ≠ 26 → Keep T W5 W6 := fun T hT q cs hq => by
          rw [← hW6]
          refine (Below.heap_setCell _ _ _ _ (fun e => ?_)).trans hq
          have e' : q = L := e
          rw [e', hX5] at hq
          cases hq
          exact hT rfl
        have HO6 := hid (own_keep HO5.out (hkp6 69 (by decide)))
        have HQ6 := hid (own_keep HQ5.out (hkp6 5 (by decide)))
        have HF6 := hid (hkp6 69 (by decide) _ _ HF5.out)
        have HB6 : Hid (Below B w W6) := hid (by rw [← hW6]; exact (HB.out.trans (HB5.out.mono (Nat.le_trans hBw HB.out.size))).setCell (p := ⟨L, 5, none⟩) (by show _ ≤ L; omega) _)
        have HP6 := hid (fun x hx => ((HPY.out x hx).keep (keep_below HB5.out)).keep (hkp6 5 (by decide)))
        have HK6 : Hid (∀ T, T ≠ 26 → T ≠ 69 → Keep T w W6) := hid (fun T h1 h2 => ((HKP.out T h1 h2).trans (keep_below HB5.out)).trans (hkp6 T h1))
        have hs6 : w.heap.size ≤ W6.heap.size := by rw [← hW6]; have h1 := HSZ.out; have h2 := HB5.out.size; have h3 := ((Below.refl 0 W5).setCell (p := ⟨L, 5, none⟩) (Nat.zero_le _) (.int .i64 (nk + 1))).size; omega
        have HW6 := hid hW6
        rw [hW6] at HX6
        rw [hW5]
        clear hW5 hX5 hX6 hW6 hkp6 f0 f1 f2 y0 y1 y2 HF3 HQ3 HQ4 hHeld HB4
        go_wp2_with fail
        rw [HW6.out]
        clear x5 fx5 x6
        obtain ⟨tt, htt⟩ : ∃ tt, idle + d = tt := ⟨_, rfl⟩
        rw [htt] at HF6
        have HTT := hid htt
        clear htt
        go_loopg [42] Q (fun r i wq => ∃ u : Nat, u + r = Q ∧ i = .int .i64 (u : Int) ∧ Hid (unt (vs.map core) tt = u + unt ((vs.map core).drop u) tt) ∧ Hid (Below W6.heap.size W6 wq))
        case atStart => exact ⟨0, Nat.zero_add _, rfl, hid (by simp), hid (Below.refl _ _)⟩
        case round =>
          obtain ⟨u, hur, rfl, HU, HBQ⟩ := hrel
          have HXq := hid ((HBQ.out.block _ (box_lt HX6.out)).trans HX6.out)
          have HFq := hid ((HBQ.out.block _ (box_lt HF6.out)).trans HF6.out)
          have HOq := hid (own_keep HO6.out (keep_below HBQ.out))
          have HPq := hid (fun x hx => (HP6.out x hx).keep (keep_below HBQ.out))
          have HQq := hid (own_keep HQ6.out (keep_below HBQ.out))
          have hgL := box_lt HXq.out
          have hgh2 := box_lt HFq.out
          have x6 := cell_of_row _ _ 6 _ _ _ HXq.out
          have fx6 := box_fr HXq.out 6
          have y0 := cell_of_row _ _ 0 _ _ _ HFq.out
          have y1 := cell_of_row _ _ 1 _ _ _ HFq.out
          have y2 := cell_of_row _ _ 2 _ _ _ HFq.out
          by_cases huQ : u < Q
          · obtain ⟨r1, rfl⟩ : ∃ r1, gk = r1 + 1 := ⟨gk - 1, by omega⟩
            have huQ' : (u : Int) < (Q : Int) := by omega
            obtain ⟨x, hx⟩ : ∃ x, vs[u]? = some x := ⟨vs[u]'(by rw [HVL.out]; exact huQ), List.getElem?_eq_getElem _⟩
            obtain ⟨ga, rfl⟩ : ∃ ga, gA = some ⟨ga, 0, none⟩ := by
              rcases HOq.out.2 with ⟨e, h0⟩ | ⟨q, _, _, e, _⟩
              · omega
              · injection e with e1; exact ⟨q, e1⟩
            have hfl : ∀ j z, (cFl x)[j]? = some z → (vs.map cFl).flatten[u * 3 + j]? = some z := fun j z hz => by
              have hr : (vs.map cFl)[u]? = some (cFl x) := by rw [List.getElem?_map, hx]; rfl
              exact (flat_getG (st := 3) (fun r hr => by obtain ⟨s, hs, rfl⟩ := List.mem_map.1 hr; rfl) hr (by have := (List.getElem?_eq_some_iff.1 hz).1; exact this)).trans hz
            have q0 : wr.cell? ⟨ga, u * 3, none⟩ = some (.int .i64 x.t) := (HOq.out.cellAt (u * 3) (by omega)).trans (hfl 0 _ rfl)
            have q1 : wr.cell? ⟨ga, u * 3 + 1, none⟩ = some (.int .i64 x.n) := (HOq.out.cellAt (u * 3 + 1) (by omega)).trans (hfl 1 _ rfl)
            have q2 : wr.cell? ⟨ga, u * 3 + 2, none⟩ = some x.d := (HOq.out.cellAt (u * 3 + 2) (by omega)).trans (hfl 2 _ rfl)
            have HUD := hid (unt_drop (l := vs.map core) (i := u) (x := core x) (by rw [List.getElem?_map, hx]; rfl) tt)
            have hxd : ∃ xA xm xc, x.d = .slice xA xm xc := by
              obtain ⟨xA, xc, e⟩ := byt_form (HPq.out x (List.mem_of_getElem? hx)).byt.1
              exact ⟨_, _, _, e⟩
            clear hfl hx
            obtain ⟨xt, xn, xd, xp⟩ := x
            dsimp only at q0 q1 q2 hxd
            obtain ⟨xA, xm, xc, rfl⟩ := hxd
            obtain ⟨W7, hW7⟩ : ∃ X, wr.alloc (.cells #[.int .i64 xt, .int .i64 xn, .slice xA xm xc] 69) = X := ⟨_, rfl⟩
            have hb7 : Below wr.heap.size wr W7 := by rw [← hW7]; exact al1 _ _
            have HW7 := hid hW7
            have HB7 := hid hb7
            have y0' : (wr.alloc (.cells #[.int .i64 xt, .int .i64 xn, .slice xA xm xc] 69)).cell? ⟨h, 0, none⟩ = some (.int .i64 tt) := by rw [hW7]; exact (hb7.cell (p := ⟨h, 0, none⟩) hgh2).trans y0
            clear hb7 hW7
            by_cases hlt : tt < xt
            · have dlt : decide (tt < xt) = true := decide_eq_true hlt
              have HUU : Hid (unt (vs.map core) tt = u) := hid (HU.out.trans (by rw [HUD.out]; show u + (if tt < xt then 0 else _) = u; rw [if_pos hlt]; rfl))
              clear hlt
              go_wp2_with fail
              rw [HW7.out]
              clear x6 fx6 y0 y1 y2 y0' q0 q1 q2
              have HX7 := hid ((HB7.out.block _ hgL).trans HXq.out)
              have HF7 := hid ((HB7.out.block _ hgh2).trans HFq.out)
              have HO7 := hid (own_keep HOq.out (keep_below HB7.out))
              have HP7 := hid (fun x hx => (HPq.out x hx).keep (keep_below HB7.out))
              have HQ7 := hid (own_keep HQq.out (keep_below HB7.out))
              have HB8 := hid (HBQ.out.trans (HB7.out.mono HBQ.out.size))
              have hgL7 := box_lt HX7.out
              have hgh7 := box_lt HF7.out
              have hBw7 : B ≤ W7.heap.size := by have h1 := HB8.out.size; omega
              have x6 := cell_of_row _ _ 6 _ _ _ HX7.out
              have y0 := cell_of_row _ _ 0 _ _ _ HF7.out
              have y1 := cell_of_row _ _ 1 _ _ _ HF7.out
              have y2 := cell_of_row _ _ 2 _ _ _ HF7.out
              have hHeld : W7.drew.cell? ⟨L, 6, none⟩ = some (.slice (some ⟨ga, 0, none⟩) Q gc) ∧ W7.drew.cell? ⟨h, 0, none⟩ = some (.int .i64 tt) ∧ W7.drew.cell? ⟨h, 1, none⟩ = some (.int .i64 nk) ∧ W7.drew.cell? ⟨h, 2, none⟩ = some (.slice cA M cc) := ⟨x6, y0, y1, y2⟩
              obtain ⟨W8, hW8⟩ : ∃ X, (W7.alloc (.cells #[.int .i64 tt, .int .i64 nk, .slice cA M cc] 69)).drew = X := ⟨_, rfl⟩
              have hb8 : Below W7.heap.size W7 W8 := by rw [← hW8]; exact (al1 W7 _).drew
              have hv8 : W8.heap[W7.heap.size]? = some (.cells #[.int .i64 tt, .int .i64 nk, .slice cA M cc] 69) := by rw [← hW8]; exact heap_alloc_new W7 _
              have hoo8 := own_keep HO7.out (keep_below hb8)
              have hgo : ga < wo.heap.size := by have := (HO.out.lt ga rfl).2; exact this
              have hgw : ga < W7.heap.size := by have := (HO7.out.lt ga rfl).2; exact this
              have hBw8 : B ≤ W8.heap.size := Nat.le_trans hBw7 hb8.size
              have HP8 := hid (fun x hx => (HP7.out x hx).keep (keep_below hb8))
              have HIN := hid (insert_any B (.slice (some ⟨ga, 0, none⟩) Q gc) Q u vs [.int .i64 tt, .int .i64 nk, .slice cA M cc] W7.heap.size 69 W8 hoo8 HVL.out HP8.out (by omega) (by omega) rfl (fl_one _ _ _ _ _) hv8 (fun e => by simp [Value.ownBlock] at e; omega) hBw8)
              have HO8 := hid hoo8
              have HX8 := hid ((hb8.block _ hgL7).trans HX7.out)
              have HF8 := hid ((hb8.block _ hgh7).trans HF7.out)
              have HQ8 := hid (own_keep HQ7.out (keep_below hb8))
              have HBB8 := hid (HB8.out.trans (hb8.mono HB8.out.size))
              have HBK8 := hid hb8
              have HW8 := hid hW8
              clear hb8 hv8 hoo8 hW8 x6 y0 y1 y2
              refine region_tail 11 (fun X => X.cell? ⟨L, 6, none⟩ = some (.slice (some ⟨ga, 0, none⟩) Q gc) ∧ X.cell? ⟨h, 0, none⟩ = some (.int .i64 tt) ∧ X.cell? ⟨h, 1, none⟩ = some (.int .i64 nk) ∧ X.cell? ⟨h, 2, none⟩ = some (.slice cA M cc)) (by kernel_rfl) ?_
              refine' wpAnyT_take (i := 0) (oi := ?oidx0) (v := ?vdx0) ?hidx0 (by kernel_rfl) (by kernel_rfl) ?hqdx0 ?hydx0 hHeld ?restdx0
              case hidx0 => (simp only [List.getElem?_toArray, List.getElem?_cons_zero]; rfl)
              case hqdx0 => exact fun _ _ _ h => h
              case hydx0 => (refine Or.inl ⟨by rfl, ?_⟩; intro w' hSw; (try dsimp only at hSw); go_simp; try with_reducible rfl)
              (try simp only [Act.put, List.setIfInBounds_toArray, List.set_cons_zero, List.set_cons_succ])
              refine' wpAnyT_take (i := 1) (oi := ?oidx1) (v := ?vdx1) ?hidx1 (by kernel_rfl) (by kernel_rfl) ?hqdx1 ?hydx1 hHeld ?restdx1
              case hidx1 => (simp only [List.getElem?_toArray, List.getElem?_cons_zero, List.getElem?_cons_succ]; rfl)
              case hqdx1 => exact fun _ _ _ h => h
              case hydx1 => (refine Or.inl ⟨by rfl, ?_⟩; intro w' hSw; (try dsimp only at hSw); go_simp; try with_reducible rfl)
              (try simp only [Act.put, List.setIfInBounds_toArray, List.set_cons_zero, List.set_cons_succ])
              refine' wpAnyT_take (i := 2) (oi := ?oidx2) (v := ?vdx2) ?hidx2 (by kernel_rfl) (by kernel_rfl) ?hqdx2 ?hydx2 hHeld ?restdx2
              case hidx2 => (simp only [List.getElem?_toArray, List.getElem?_cons_zero, List.getElem?_cons_succ]; rfl)
              case hqdx2 => exact fun _ _ _ h => h
              case hydx2 => (refine Or.inl ⟨by rfl, ?_⟩; intro w' hSw; (try dsimp only at hSw); go_simp; try with_reducible rfl)
              (try simp only [Act.put, List.setIfInBounds_toArray, List.set_cons_zero, List.set_cons_succ])
              refine' wpAnyT_take (i := 3) (oi := ?oidx3) (v := ?vdx3) ?hidx3 (by kernel_rfl) (by kernel_rfl) ?hqdx3 ?hydx3 hHeld ?restdx3
              case hidx3 => (simp only [List.getElem?_toArray, List.getElem?_cons_zero, List.getElem?_cons_succ]; rfl)
              case hqdx3 => exact fun _ _ _ h => h
              case hydx3 => (refine Or.inl ⟨by rfl, ?_⟩; intro w' hSw; (try dsimp only at hSw); go_simp; try with_reducible rfl)
              (try simp only [Act.put, List.setIfInBounds_toArray, List.set_cons_zero, List.set_cons_succ])
              refine' wpAnyT_take (i := 4) (oi := ?oidx4) (v := ?vdx4) ?hidx4 (by kernel_rfl) (by kernel_rfl) ?hqdx4 ?hydx4 hHeld ?restdx4
              case hidx4 => (simp only [List.getElem?_toArray, List.getElem?_cons_zero, List.getElem?_cons_succ]; rfl)
              case hqdx4 => exact fun _ _ _ h => h
              case hydx4 => (refine Or.inl ⟨by rfl, ?_⟩; intro w' hSw; (try dsimp only at hSw); go_simp; try with_reducible rfl)
              (try simp only [Act.put, List.setIfInBounds_toArray, List.set_cons_zero, List.set_cons_succ])
              refine' wpAnyT_take (i := 5) (oi := ?oidx5) (v := ?vdx5) ?hidx5 (by kernel_rfl) (by kernel_rfl) ?hqdx5 ?hydx5 hHeld ?restdx5
              case hidx5 => (simp only [List.getElem?_toArray, List.getElem?_cons_zero, List.getElem?_cons_succ]; rfl)
              case hqdx5 => exact fun _ _ _ h => h
              case hydx5 => (refine Or.inl ⟨by rfl, ?_⟩; intro w' hSw; (try dsimp only at hSw); go_simp; try with_reducible rfl)
              (try simp only [Act.put, List.setIfInBounds_toArray, List.set_cons_zero, List.set_cons_succ])
              refine' wpAnyT_take (i := 6) (oi := ?oidx6) (v := ?vdx6) ?hidx6 (by kernel_rfl) (by kernel_rfl) ?hqdx6 ?hydx6 hHeld ?restdx6
              case hidx6 => (simp only [List.getElem?_toArray, List.getElem?_cons_zero, List.getElem?_cons_succ]; rfl)
              case hqdx6 => exact fun _ _ _ h => h
              case hydx6 => (refine Or.inl ⟨by rfl, ?_⟩; intro w' hSw; (try dsimp only at hSw); go_simp; try with_reducible rfl)
              (try simp only [Act.put, List.setIfInBounds_toArray, List.set_cons_zero, List.set_cons_succ])
              refine wpAnyT_all (l := [7]) (by kernel_rfl) (by decide) ?_
              intro i hi
              simp only [List.mem_cons, List.not_mem_nil, or_false] at hi
              subst hi
              refine ⟨_, by (simp only [List.getElem?_toArray, List.getElem?_cons_zero, List.getElem?_cons_succ]; rfl), fun KK hKK => ?_⟩
              go_simp
              rw [HW8.out]
              have hHeld : W8.cell? ⟨L, 6, none⟩ = some (.slice (some ⟨ga, 0, none⟩) Q gc) ∧ W8.cell? ⟨h, 0, none⟩ = some (.int .i64 tt) ∧ W8.cell? ⟨h, 1, none⟩ = some (.int .i64 nk) ∧ W8.cell? ⟨h, 2, none⟩ = some (.slice cA M cc) := ⟨cell_of_row _ _ 6 _ _ _ HX8.out, cell_of_row _ _ 0 _ _ _ HF8.out, cell_of_row _ _ 1 _ _ _ HF8.out, cell_of_row _ _ 2 _ _ _ HF8.out⟩
              refine hKK.out _ _ (fun _ => hHeld) ?_
              clear hKK KK
              (try simp only [Act.put, List.setIfInBounds_toArray, List.set_cons_zero, List.set_cons_succ])
              refine wpAnyT_all (l := [8]) (by kernel_rfl) (by decide) ?_
              intro i hi
              simp only [List.mem_cons, List.not_mem_nil, or_false] at hi
              subst hi
              refine ⟨_, by (simp only [List.getElem?_toArray, List.getElem?_cons_zero, List.getElem?_cons_succ]; rfl), fun KK hKK => ?_⟩
              go_simp
              go_at_call 54
              refine HIN.out.mono ?_
              rintro e w9 ⟨v9, rfl, ho9, hg9⟩
              obtain ⟨rA, rc, rfl⟩ := own_form69 ho9
              have HX9 := hid (keep_grown (T := 26) HO8.out (by decide) hg9 _ _ HX8.out)
              have HF9 := hid ((hg9.block h (box_lt HF8.out) (by simp [Value.ownBlock]; omega)).trans HF8.out)
              have HQ9 := hid (own_keep HQ8.out (keep_grown (T := 5) HO8.out (by decide) hg9))
              have HP9 := hid (fun x hx => (HP8.out x hx).keep (keep_grown (T := 5) HO8.out (by decide) hg9))
              have HO9 := hid ho9
              have HG9 := hid hg9
              have hHeld : w9.cell? ⟨L, 6, none⟩ = some (.slice (some ⟨ga, 0, none⟩) Q gc) ∧ w9.cell? ⟨h, 0, none⟩ = some (.int .i64 tt) ∧ w9.cell? ⟨h, 1, none⟩ = some (.int .i64 nk) ∧ w9.cell? ⟨h, 2, none⟩ = some (.slice cA M cc) := ⟨cell_of_row _ _ 6 _ _ _ HX9.out, cell_of_row _ _ 0 _ _ _ HF9.out, cell_of_row _ _ 1 _ _ _ HF9.out, cell_of_row _ _ 2 _ _ _ HF9.out⟩
              have fx6 := box_fr HX9.out 6
              have x6 := cell_of_row _ _ 6 _ _ _ HX9.out
              clear ho9 hg9
              refine hKK.out _ _ (fun _ => hHeld) ?_
              clear hKK KK
              (try simp only [Act.put, List.setIfInBounds_toArray, List.set_cons_zero, List.set_cons_succ])
              refine wpAnyT_all (l := [9]) (by kernel_rfl) (by decide) ?_
              intro i hi
              simp only [List.mem_cons, List.not_mem_nil, or_false] at hi
              subst hi
              refine ⟨_, by (simp only [List.getElem?_toArray, List.getElem?_cons_zero, List.getElem?_cons_succ]; rfl), fun KK hKK => ?_⟩
              go_simp
              refine hKK.out _ _ (fun _ => hHeld) ?_
              clear hKK KK
              (try simp only [Act.put, List.setIfInBounds_toArray, List.set_cons_zero, List.set_cons_succ])
              refine wpAnyT_all (l := [10]) (by kernel_rfl) (by decide) ?_
              intro i hi
              simp only [List.mem_cons, List.not_mem_nil, or_false] at hi
              subst hi
              refine ⟨_, by (simp only [List.getElem?_toArray, List.getElem?_cons_zero, List.getElem?_cons_succ]; rfl), fun KK hKK => ?_⟩
              go_simp
              refine hKK.out _ _ (fun _ => hHeld) ?_
              clear hKK KK
              (try simp only [Act.put, List.setIfInBounds_toArray, List.set_cons_zero, List.set_cons_succ])
              refine wpAnyT_all (l := [11]) (by kernel_rfl) (by decide) ?_
              intro i hi
              simp only [List.mem_cons, List.not_mem_nil, or_false] at hi
              subst hi
              refine ⟨_, by (simp only [List.getElem?_toArray, List.getElem?_cons_zero, List.getElem?_cons_succ]; rfl), fun KK hKK => ?_⟩
              go_simp
              refine hKK.out _ _ (fun h => absurd h (by decide)) ?_
              clear hKK KK
              (try simp only [Act.put, List.setIfInBounds_toArray, List.set_cons_zero, List.set_cons_succ])
              refine wpAnyT_done (by kernel_rfl) ?_ _
              have hX10 := box_set (cs := [Value.int .i64 mn, Value.int .i64 mx, .int .i64 rt, .bool dn, .int .i64 idle, .int .i64 (nk + 1), .slice (some ⟨ga, 0, none⟩) Q gc]) HX9.out 6 (.slice rA (Q + 1) rc)
              obtain ⟨W10, hW10⟩ : ∃ X, w9.setCell ⟨L, 6, none⟩ (.slice rA (Q + 1) rc) = X := ⟨_, rfl⟩
              have hk10 : ∀ T, T ≠ 26 → Keep T w9 W10 := fun T hT q cs hq => by
                rw [← hW10]
                refine (Below.heap_setCell _ _ _ _ (fun e => ?_)).trans hq
                have e' : q = L := e
                rw [e', HX9.out] at hq
                cases hq
                exact hT rfl
              rw [hW10] at hX10
              have eN : nk + 1 = next + ((k + 1 : Nat) : Int) := by have := HNK.out; omega
              have HX10 : Hid (W10.heap[L]? = some (.cells #[.int .i64 mn, .int .i64 mx, .int .i64 rt, .bool dn, .int .i64 idle, .int .i64 (next + ((k + 1 : Nat) : Int)), .slice rA (Q + 1) rc] 26)) := hid (by rw [← eN]; exact hX10)
              have eQ : N + (k + 1) = Q + 1 := by have := HQQ.out; omega
              have HK10 : Hid (∀ T, T ≠ 26 → T ≠ 69 → Keep T w W10) := hid (fun T h1 h2 => ((((HK6.out T h1 h2).trans (keep_below HBB8.out)).trans (keep_grown HO8.out h2 HG9.out)).trans (hk10 T h1)))
              have HB10 : Hid (Below B w W10) := hid (by
                rw [← hW10]
                exact (((HB6.out.trans (HBB8.out.mono (Nat.le_trans hBw HB6.out.size))).grown HG9.out (by have h1 := HB6.out.size; have h2 := HBB8.out.size; omega) (fun q e => by have := (HO8.out.lt q e).1; omega))).setCell (p := ⟨L, 6, none⟩) (by show _ ≤ L; omega) _)
              have hs10 : w.heap.size ≤ W10.heap.size := by
                have h1 := HBB8.out.size
                have h2 := HG9.out.size
                have h3 := ((Below.refl 0 w9).setCell (p := ⟨L, 6, none⟩) (Nat.zero_le _) (.slice rA (Q + 1) rc)).size
                rw [hW10] at h3
                omega
              have HLV : Hid ((vs.take u ++ [(⟨tt, nk, .slice cA M cc, p⟩ : Fl)] ++ vs.drop u).length = N + (k + 1)) := hid (by rw [eQ]; rw [List.length_append, List.length_append, List.length_take, List.length_drop, HVL.out, List.length_singleton]; omega)
              have HO10 : Hid (W10.ownsRow B 69 3 (.slice rA (Q + 1) rc) (N + (k + 1)) ((vs.take u ++ [(⟨tt, nk, .slice cA M cc, p⟩ : Fl)] ++ vs.drop u).map cFl).flatten) := hid (by
                rw [eQ]
                have h := own_keep HO9.out (hk10 69 (by decide))
                rw [List.map_append, List.map_append, List.flatten_append, List.flatten_append]
                simpa [cFl] using h)
              have HC10 : Hid ((vs.take u ++ [(⟨tt, nk, .slice cA M cc, p⟩ : Fl)] ++ vs.drop u).map core = lau idle p (ds.take (k + 1)) next (l.map core)) := hid (by
                rw [HDT.out, lau_snoc, ← HVC.out, List.length_take, HK.out, Nat.min_eq_left (show k ≤ K by omega), HNK.out, HTT.out]
                unfold insF
                dsimp only
                rw [HUU.out]
                rw [List.map_append, List.map_append, List.map_take, List.map_drop]
                rfl)
              have HP10 : Hid (∀ x ∈ vs.take u ++ [(⟨tt, nk, .slice cA M cc, p⟩ : Fl)] ++ vs.drop u, Pay W10 x) := hid (fun x hx => by
                refine Pay.keep (w := w9) ?_ (hk10 5 (by decide))
                rcases List.mem_append.1 hx with hx | hx
                · rcases List.mem_append.1 hx with hx | hx
                  · exact HP9.out x (List.mem_of_mem_take hx)
                  · rw [List.mem_singleton] at hx
                    subst hx
                    exact ⟨⟨_, by dsimp only; rw [HM.out]; exact HQ9.out⟩, HP.out.1⟩
                · exact HP9.out x (List.mem_of_mem_drop hx))
              rw [hW10]
              clear hX10 hk10 hW10
              go_wp2_with fail
              go_roundg r0
              case rel => exact ⟨k + 1, _, vs.take u ++ [(⟨tt, nk, .slice cA M cc, p⟩ : Fl)] ++ vs.drop u, by omega, by go_num, HLV, HC10, HX10, HO10, HP10, HK10, HB10, hid hs10⟩
              omega
            · have dlt : decide (tt < xt) = false := decide_eq_false hlt
              have HUU : Hid (unt (vs.map core) tt = (u + 1 : Nat) + unt ((vs.map core).drop (u + 1)) tt) := hid (HU.out.trans (by rw [HUD.out]; show u + (if tt < xt then 0 else _) = _; rw [if_neg hlt]; omega))
              clear hlt
              go_wp2_with fail
              rw [HW7.out]
              go_roundg r1
              case rel => exact ⟨u + 1, by omega, by go_num, HUU, hid (HBQ.out.trans (HB7.out.mono HBQ.out.size))⟩
              omega
          · have HUU : Hid (unt (vs.map core) tt = Q) := hid (HU.out.trans (by rw [List.drop_of_length_le (by rw [List.length_map, HVL.out]; omega)]; show u + 0 = Q; omega))
            have hHeld : wr.drew.cell? ⟨L, 6, none⟩ = some (.slice gA Q gc) ∧ wr.drew.cell? ⟨h, 0, none⟩ = some (.int .i64 tt) ∧ wr.drew.cell? ⟨h, 1, none⟩ = some (.int .i64 nk) ∧ wr.drew.cell? ⟨h, 2, none⟩ = some (.slice cA M cc) := ⟨x6, y0, y1, y2⟩
            obtain ⟨W8, hW8⟩ : ∃ X, (wr.alloc (.cells #[.int .i64 tt, .int .i64 nk, .slice cA M cc] 69)).drew = X := ⟨_, rfl⟩
            have hb8 : Below wr.heap.size wr W8 := by rw [← hW8]; exact (al1 wr _).drew
            have hv8 : W8.heap[wr.heap.size]? = some (.cells #[.int .i64 tt, .int .i64 nk, .slice cA M cc] 69) := by rw [← hW8]; exact heap_alloc_new wr _
            have hBw8 : B ≤ W8.heap.size := by have h1 := HBQ.out.size; have h2 := hb8.size; omega
            have hBwr : B ≤ wr.heap.size := by have h1 := HBQ.out.size; omega
            have HV8 : Hid (∀ j z, [Value.int .i64 tt, .int .i64 nk, .slice cA M cc][j]? = some z → W8.cell? ((⟨wr.heap.size, 0, none⟩ : Addr).add j) = some z) := hid (fun j z hz => by
              rw [add_at', cell_of_row _ _ _ _ _ _ hv8]
              simpa using hz)
            have HP8 := hid (fun x hx => (HPq.out x hx).keep (keep_below hb8))
            have HO8 := hid (own_keep HOq.out (keep_below hb8))
            have HX8 := hid ((hb8.block _ hgL).trans HXq.out)
            have HF8 := hid ((hb8.block _ hgh2).trans HFq.out)
            have HQ8 := hid (own_keep HQq.out (keep_below hb8))
            have HBB8 := hid (HBQ.out.trans (hb8.mono HBQ.out.size))
            have HW8 := hid hW8
            have hgne : some h ≠ (Value.slice gA Q gc).ownBlock := fun e => by
              have h1 := (HO.out.lt h e.symm).2
              omega
            clear hb8 hv8 hW8 x6 y0 y1 y2 fx6
            go_wp2_with fail
            refine region_tail 10 (fun X => X.cell? ⟨L, 6, none⟩ = some (.slice gA Q gc) ∧ X.cell? ⟨h, 0, none⟩ = some (.int .i64 tt) ∧ X.cell? ⟨h, 1, none⟩ = some (.int .i64 nk) ∧ X.cell? ⟨h, 2, none⟩ = some (.slice cA M cc)) (by kernel_rfl) ?_
            refine' wpAnyT_take (i := 0) (oi := ?oifx0) (v := ?vfx0) ?hifx0 (by kernel_rfl) (by kernel_rfl) ?hqfx0 ?hyfx0 hHeld ?restfx0
            case hifx0 => (simp only [List.getElem?_toArray, List.getElem?_cons_zero]; rfl)
            case hqfx0 => exact fun _ _ _ h => h
            case hyfx0 => (refine Or.inl ⟨by rfl, ?_⟩; intro w' hSw; (try dsimp only at hSw); go_simp; try with_reducible rfl)
            (try simp only [Act.put, List.setIfInBounds_toArray, List.set_cons_zero, List.set_cons_succ])
            refine' wpAnyT_take (i := 1) (oi := ?oifx1) (v := ?vfx1) ?hifx1 (by kernel_rfl) (by kernel_rfl) ?hqfx1 ?hyfx1 hHeld ?restfx1
            case hifx1 => (simp only [List.getElem?_toArray, List.getElem?_cons_zero, List.getElem?_cons_succ]; rfl)
            case hqfx1 => exact fun _ _ _ h => h
            case hyfx1 => (refine Or.inl ⟨by rfl, ?_⟩; intro w' hSw; (try dsimp only at hSw); go_simp; try with_reducible rfl)
            (try simp only [Act.put, List.setIfInBounds_toArray, List.set_cons_zero, List.set_cons_succ])
            refine' wpAnyT_take (i := 2) (oi := ?oifx2) (v := ?vfx2) ?hifx2 (by kernel_rfl) (by kernel_rfl) ?hqfx2 ?hyfx2 hHeld ?restfx2
            case hifx2 => (simp only [List.getElem?_toArray, List.getElem?_cons_zero, List.getElem?_cons_succ]; rfl)
            case hqfx2 => exact fun _ _ _ h => h
            case hyfx2 => (refine Or.inl ⟨by rfl, ?_⟩; intro w' hSw; (try dsimp only at hSw); go_simp; try with_reducible rfl)
            (try simp only [Act.put, List.setIfInBounds_toArray, List.set_cons_zero, List.set_cons_succ])
            refine' wpAnyT_take (i := 3) (oi := ?oifx3) (v := ?vfx3) ?hifx3 (by kernel_rfl) (by kernel_rfl) ?hqfx3 ?hyfx3 hHeld ?restfx3
            case hifx3 => (simp only [List.getElem?_toArray, List.getElem?_cons_zero, List.getElem?_cons_succ]; rfl)
            case hqfx3 => exact fun _ _ _ h => h
            case hyfx3 => (refine Or.inl ⟨by rfl, ?_⟩; intro w' hSw; (try dsimp only at hSw); go_simp; try with_reducible rfl)
            (try simp only [Act.put, List.setIfInBounds_toArray, List.set_cons_zero, List.set_cons_succ])
            refine' wpAnyT_take (i := 4) (oi := ?oifx4) (v := ?vfx4) ?hifx4 (by kernel_rfl) (by kernel_rfl) ?hqfx4 ?hyfx4 hHeld ?restfx4
            case hifx4 => (simp only [List.getElem?_toArray, List.getElem?_cons_zero, List.getElem?_cons_succ]; rfl)
            case hqfx4 => exact fun _ _ _ h => h
            case hyfx4 => (refine Or.inl ⟨by rfl, ?_⟩; intro w' hSw; (try dsimp only at hSw); go_simp; try with_reducible rfl)
            (try simp only [Act.put, List.setIfInBounds_toArray, List.set_cons_zero, List.set_cons_succ])
            refine' wpAnyT_take (i := 5) (oi := ?oifx5) (v := ?vfx5) ?hifx5 (by kernel_rfl) (by kernel_rfl) ?hqfx5 ?hyfx5 hHeld ?restfx5
            case hifx5 => (simp only [List.getElem?_toArray, List.getElem?_cons_zero, List.getElem?_cons_succ]; rfl)
            case hqfx5 => exact fun _ _ _ h => h
            case hyfx5 => (refine Or.inl ⟨by rfl, ?_⟩; intro w' hSw; (try dsimp only at hSw); go_simp; try with_reducible rfl)
            (try simp only [Act.put, List.setIfInBounds_toArray, List.set_cons_zero, List.set_cons_succ])
            refine wpAnyT_all (l := [6]) (by kernel_rfl) (by decide) ?_
            intro i hi
            simp only [List.mem_cons, List.not_mem_nil, or_false] at hi
            subst hi
            refine ⟨_, by (simp only [List.getElem?_toArray, List.getElem?_cons_zero, List.getElem?_cons_succ]; rfl), fun KK hKK => ?_⟩
            go_simp
            rw [HW8.out]
            have hHeld : W8.cell? ⟨L, 6, none⟩ = some (.slice gA Q gc) ∧ W8.cell? ⟨h, 0, none⟩ = some (.int .i64 tt) ∧ W8.cell? ⟨h, 1, none⟩ = some (.int .i64 nk) ∧ W8.cell? ⟨h, 2, none⟩ = some (.slice cA M cc) := ⟨cell_of_row _ _ 6 _ _ _ HX8.out, cell_of_row _ _ 0 _ _ _ HF8.out, cell_of_row _ _ 1 _ _ _ HF8.out, cell_of_row _ _ 2 _ _ _ HF8.out⟩
            refine hKK.out _ _ (fun _ => hHeld) ?_
            clear hKK KK
            (try simp only [Act.put, List.setIfInBounds_toArray, List.set_cons_zero, List.set_cons_succ])
            refine wpAnyT_all (l := [7]) (by kernel_rfl) (by decide) ?_
            intro i hi
            simp only [List.mem_cons, List.not_mem_nil, or_false] at hi
            subst hi
            refine ⟨_, by (simp only [List.getElem?_toArray, List.getElem?_cons_zero, List.getElem?_cons_succ]; rfl), fun KK hKK => ?_⟩
            refine step_append_one rfl (.tmp 68) (.tmp 70) rfl B (.slice gA Q gc) Q _ (by simp [Act.eval]) HO8.out tt nk cA M cc ⟨wr.heap.size, 0, none⟩ 1 (by simp [Act.eval]) HV8.out (by omega) hBw8 ?_
            intro v9 w9 ho9 hg9
            obtain ⟨rA, rc, rfl⟩ := own_form69 ho9
            have HX9 := hid (keep_grown (T := 26) HO8.out (by decide) hg9 _ _ HX8.out)
            have HF9 := hid ((hg9.block h (box_lt HF8.out) hgne).trans HF8.out)
            have HQ9 := hid (own_keep HQ8.out (keep_grown (T := 5) HO8.out (by decide) hg9))
            have HP9 := hid (fun x hx => (HP8.out x hx).keep (keep_grown (T := 5) HO8.out (by decide) hg9))
            have HO9 := hid ho9
            have HG9 := hid hg9
            have hHeld : w9.cell? ⟨L, 6, none⟩ = some (.slice gA Q gc) ∧ w9.cell? ⟨h, 0, none⟩ = some (.int .i64 tt) ∧ w9.cell? ⟨h, 1, none⟩ = some (.int .i64 nk) ∧ w9.cell? ⟨h, 2, none⟩ = some (.slice cA M cc) := ⟨cell_of_row _ _ 6 _ _ _ HX9.out, cell_of_row _ _ 0 _ _ _ HF9.out, cell_of_row _ _ 1 _ _ _ HF9.out, cell_of_row _ _ 2 _ _ _ HF9.out⟩
            have fx6 := box_fr HX9.out 6
            have x6 := cell_of_row _ _ 6 _ _ _ HX9.out
            clear ho9 hg9
            refine hKK.out _ _ (fun _ => hHeld) ?_
            clear hKK KK
            (try simp only [Act.put, List.setIfInBounds_toArray, List.set_cons_zero, List.set_cons_succ])
            refine wpAnyT_all (l := [8]) (by kernel_rfl) (by decide) ?_
            intro i hi
            simp only [List.mem_cons, List.not_mem_nil, or_false] at hi
            subst hi
            refine ⟨_, by (simp only [List.getElem?_toArray, List.getElem?_cons_zero, List.getElem?_cons_succ]; rfl), fun KK hKK => ?_⟩
            go_simp
            refine hKK.out _ _ (fun _ => hHeld) ?_
            clear hKK KK
            (try simp only [Act.put, List.setIfInBounds_toArray, List.set_cons_zero, List.set_cons_succ])
            refine wpAnyT_all (l := [9]) (by kernel_rfl) (by decide) ?_
            intro i hi
            simp only [List.mem_cons, List.not_mem_nil, or_false] at hi
            subst hi
            refine ⟨_, by (simp only [List.getElem?_toArray, List.getElem?_cons_zero, List.getElem?_cons_succ]; rfl), fun KK hKK => ?_⟩
            go_simp
            refine hKK.out _ _ (fun _ => hHeld) ?_
            clear hKK KK
            (try simp only [Act.put, List.setIfInBounds_toArray, List.set_cons_zero, List.set_cons_succ])
            refine wpAnyT_all (l := [10]) (by kernel_rfl) (by decide) ?_
            intro i hi
            simp only [List.mem_cons, List.not_mem_nil, or_false] at hi
            subst hi
            refine ⟨_, by (simp only [List.getElem?_toArray, List.getElem?_cons_zero, List.getElem?_cons_succ]; rfl), fun KK hKK => ?_⟩
            go_simp
            refine hKK.out _ _ (fun h => absurd h (by decide)) ?_
            clear hKK KK
            (try simp only [Act.put, List.setIfInBounds_toArray, List.set_cons_zero, List.set_cons_succ])
            refine wpAnyT_done (by kernel_rfl) ?_ _
            have hX10 := box_set (cs := [Value.int .i64 mn, Value.int .i64 mx, .int .i64 rt, .bool dn, .int .i64 idle, .int .i64 (nk + 1), .slice gA Q gc]) HX9.out 6 (.slice rA (Q + 1) rc)
            obtain ⟨W10, hW10⟩ : ∃ X, w9.setCell ⟨L, 6, none⟩ (.slice rA (Q + 1) rc) = X := ⟨_, rfl⟩
            have hk10 : ∀ T, T ≠ 26 → Keep T w9 W10 := fun T hT q cs hq => by
              rw [← hW10]
              refine (Below.heap_setCell _ _ _ _ (fun e => ?_)).trans hq
              have e' : q = L := e
              rw [e', HX9.out] at hq
              cases hq
              exact hT rfl
            rw [hW10] at hX10
            have eN : nk + 1 = next + ((k + 1 : Nat) : Int) := by have := HNK.out; omega
            have HX10 : Hid (W10.heap[L]? = some (.cells #[.int .i64 mn, .int .i64 mx, .int .i64 rt, .bool dn, .int .i64 idle, .int .i64 (next + ((k + 1 : Nat) : Int)), .slice rA (Q + 1) rc] 26)) := hid (by rw [← eN]; exact hX10)
            have eQ : N + (k + 1) = Q + 1 := by have := HQQ.out; omega
            have HK10 : Hid (∀ T, T ≠ 26 → T ≠ 69 → Keep T w W10) := hid (fun T h1 h2 => ((((HK6.out T h1 h2).trans (keep_below HBB8.out)).trans (keep_grown HO8.out h2 HG9.out)).trans (hk10 T h1)))
            have HB10 : Hid (Below B w W10) := hid (by
              rw [← hW10]
              exact (((HB6.out.trans (HBB8.out.mono (Nat.le_trans hBw HB6.out.size))).grown HG9.out (by have h1 := HB6.out.size; have h2 := HBB8.out.size; omega) (fun q e => by have := (HO8.out.lt q e).1; omega))).setCell (p := ⟨L, 6, none⟩) (by show _ ≤ L; omega) _)
            have hs10 : w.heap.size ≤ W10.heap.size := by
              have h1 := HBB8.out.size
              have h2 := HG9.out.size
              have h3 := ((Below.refl 0 w9).setCell (p := ⟨L, 6, none⟩) (Nat.zero_le _) (.slice rA (Q + 1) rc)).size
              rw [hW10] at h3
              omega
            have HLV : Hid ((vs ++ [(⟨tt, nk, .slice cA M cc, p⟩ : Fl)]).length = N + (k + 1)) := hid (by rw [eQ]; rw [List.length_append, HVL.out, List.length_singleton])
            have HO10 : Hid (W10.ownsRow B 69 3 (.slice rA (Q + 1) rc) (N + (k + 1)) ((vs ++ [(⟨tt, nk, .slice cA M cc, p⟩ : Fl)]).map cFl).flatten) := hid (by
              rw [eQ]
              have h := own_keep HO9.out (hk10 69 (by decide))
              rw [List.map_append, List.flatten_append]
              simpa [cFl] using h)
            have HC10 : Hid ((vs ++ [(⟨tt, nk, .slice cA M cc, p⟩ : Fl)]).map core = lau idle p (ds.take (k + 1)) next (l.map core)) := hid (by
              rw [HDT.out, lau_snoc, ← HVC.out, List.length_take, HK.out, Nat.min_eq_left (show k ≤ K by omega), HNK.out, HTT.out]
              unfold insF
              dsimp only
              rw [HUU.out]
              rw [List.map_append, List.take_of_length_le (by rw [List.length_map, HVL.out]; exact Nat.le_refl _), List.drop_of_length_le (by rw [List.length_map, HVL.out]; exact Nat.le_refl _), List.append_nil]
              rfl)
            have HP10 : Hid (∀ x ∈ vs ++ [(⟨tt, nk, .slice cA M cc, p⟩ : Fl)], Pay W10 x) := hid (fun x hx => by
              refine Pay.keep (w := w9) ?_ (hk10 5 (by decide))
              rcases List.mem_append.1 hx with hx | hx
              · exact HP9.out x hx
              · rw [List.mem_singleton] at hx
                subst hx
                exact ⟨⟨_, by dsimp only; rw [HM.out]; exact HQ9.out⟩, HP.out.1⟩)
            rw [hW10]
            clear hX10 hk10 hW10
            go_wp2_with fail
            go_roundg r0
            case rel => exact ⟨k + 1, _, vs ++ [(⟨tt, nk, .slice cA M cc, p⟩ : Fl)], by omega, by go_num, HLV, HC10, HX10, HO10, HP10, HK10, HB10, hid hs10⟩
            omega
    · obtain rfl : k = K := by omega
      go_wp2_with fail
      go_end0
      refine ⟨rfl, _, vs, HX.out, by rw [HVL.out]; exact HO.out, ?_, HPY.out, HKP.out, HB.out⟩
      rw [HVC.out, List.take_of_length_le (by rw [HK.out]; exact Nat.le_refl _)]
end Go.Proofs.Ytacpejoablcffaa
