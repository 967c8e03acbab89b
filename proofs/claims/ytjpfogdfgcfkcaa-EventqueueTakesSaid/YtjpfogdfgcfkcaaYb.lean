/- The reference's without. -/
import Derived.Test.YtjpfogdfgcfkcaaYa
import Derived.Test.YtjpfogdfgcfkcaaSj
import Derived.Test.YtjpfogdfgcfkcaaSf
namespace Go.Proofs.Ytjpfogdfgcfkcaa
open Go.RowKit Go.Lib

theorem step_append_own {P : Program} {ops : Array Oper} {o : Oper} {a : Act} {w : World} {K : Act → World → Prop} {Q : Exit → Act → World → Prop} {E : Prop}
    (hg : o.guard = none) (s x : Operand) (t : TypeId) (hop : o.op = Op.call { callee := Callee.builtin Builtin.append, args := #[s, x], argTypes := #[t, t] })
    (base : Nat) (e : TypeId) (i : TypeInfo) (z : Value) (size bytes : Nat) (h1 : P.underlying t = some (.slice e)) (h2 : P.info? e = some i) (h3 : i.zero = some z) (h4 : i.size = size) (h5 : i.bytes = bytes) (h6 : z.cells.size = size) (h7 : 0 < size)
    (v : Value) (n : Nat) (olds : List Value) (hs : a.eval s = v) (hown : w.ownsRow base e size v n olds)
    (ad : Addr) (m c : Nat) (news : List Value) (hx : a.eval x = .slice (some ad) m c) (hn : news.length = m * size) (hc : ∀ j u, news[j]? = some u → w.cell? (ad.add j) = some u) (h1c : ∀ u ∈ news, u.oneCell' = true)
    (b1 : n + m ≤ maxLen) (b2 : (n + m) * bytes ≤ 140737488355328) (hbase : base ≤ w.heap.size)
    (hK : ∀ v' w', w'.ownsRow base e size v' (n + m) (olds ++ news) → w.grownBy w' v.ownBlock → K (a.put o.dst v') w') :
    if Region.wanted o (yielded ops a.tmps) = true then Oper.wp P o a w K Q else E := by
  have hw : Region.wanted o (yielded ops a.tmps) = true := by simp [Region.wanted, hg]
  rw [if_pos hw]
  obtain ⟨v', w', hrun, r1, r2, _⟩ := run_append_own (P := P) w base t o.type e i z size bytes h1 h2 h3 h4 h5 h6 h7 v n olds hown ad m c news hn hc h1c b1 b2 hbase
  unfold Oper.wp
  simp [execOp, hop, resolve, invoke, builtin, hs, hx, hrun, Result.andThen]
  exact hK v' w' r1 r2
set_option maxRecDepth 100000 in
theorem step_append_ev {ops : Array Oper} {o : Oper} {a : Act} {w : World} {K : Act → World → Prop} {Q : Exit → Act → World → Prop} {E : Prop} (hgd : o.guard = none) (s x : Operand) (ho : o.op = .call { callee := .builtin .append, args := #[s, x], argTypes := #[22, 22] })
    (base : Nat) (v : Value) (n : Nat) (olds : List Value) (hs : a.eval s = v) (hown : w.ownsRow base 32 5 v n olds) (cs : List Value) (hcs : cs.length = 5) (hc1 : ∀ u ∈ cs, u.oneCell' = true) (ad : Addr) (c : Nat) (hx : a.eval x = .slice (some ad) 1 c)
    (hc : ∀ j u, cs[j]? = some u → w.cell? (ad.add j) = some u) (b1 : n + 1 ≤ 1000000) (hbase : base ≤ w.heap.size)
    (h : ∀ v' w', w'.ownsRow base 32 5 v' (n + 1) (olds ++ cs) → w.grownBy w' v.ownBlock → K (a.put o.dst v') w') :
    if Region.wanted o (yielded ops a.tmps) = true then Oper.wp Try.prog o a w K Q else E := by
  obtain ⟨i0, hi, hz0, hz1, hz2⟩ := info_parts info32
  exact step_append_own hgd s x 22 ho base 32 i0 _ 5 56 Try.underlying22 hi hz0 hz1 hz2 rfl (by decide) v n olds hs hown ad 1 c _ hx (by rw [hcs]) hc hc1 (by unfold maxLen; omega) (by omega) hbase h
theorem erase_step {α : Type} {l : List α} {x : α} {k i : Nat} (hx : l[k]? = some x) (h : k ≠ i) : (l.take (k + 1)).eraseIdx i = (l.take k).eraseIdx i ++ [x] := by
  have hk : (l.take k).length = k := by rw [List.length_take]; have := (List.getElem?_eq_some_iff.1 hx).1; omega
  rw [take_succ'' hx]
  rcases Nat.lt_or_gt_of_ne h with h | h
  · rw [List.eraseIdx_of_length_le (by simp [hk]; omega), List.eraseIdx_of_length_le (by omega)]
  · rw [List.eraseIdx_append_of_lt_length (by omega)]
theorem erase_skip {α : Type} {l : List α} {x : α} {k : Nat} (hx : l[k]? = some x) : (l.take (k + 1)).eraseIdx k = (l.take k).eraseIdx k := by
  have hk : (l.take k).length = k := by rw [List.length_take]; have := (List.getElem?_eq_some_iff.1 hx).1; omega
  rw [take_succ'' hx, List.eraseIdx_append_of_length_le (by omega), hk, Nat.sub_self, List.eraseIdx_of_length_le (l := l.take k) (by omega)]
  simp

set_option maxHeartbeats 4000000 in
set_option maxRecDepth 100000 in
theorem without_any (l : List Ev) (v : Value) (next : Int) (ii : Nat) (w : World) (hv : EL w v l) (hl : l.length ≤ 100000) (hb : ∀ x ∈ l, x.p.length ≤ 100000) :
    Calls Try.prog 38 #[.agg #[v, .int .i64 next], .int .i64 (ii : Int)] w fun e w' => ∃ q, e = .returned q ∧ QuQ w ((l.eraseIdx ii).map core) next q w' := by
  obtain ⟨A, c, rfl⟩ := el_form hv
  obtain ⟨N, hN⟩ : ∃ N, l.length = N := ⟨_, rfl⟩
  rw [hN] at hv hl ⊢
  obtain ⟨W1, hW1⟩ : ∃ W1, ((w.alloc (.cells #[.slice A N c, .int .i64 next] 24)).alloc (.cells #[.slice none 0 0, .int .i64 0] 24)).alloc (.cells #[.slice none 0 0, .int .i64 next] 24) = W1 := ⟨_, rfl⟩
  obtain ⟨g, hg⟩ : ∃ g, w.heap.size = g := ⟨_, rfl⟩
  have hb1 : Below w.heap.size w W1 := by rw [← hW1]; exact (((Below.refl _ w).alloc (Nat.le_refl _) _).alloc (by simp) _).alloc (by simp; omega) _
  have hx1 : W1.heap[g]? = some (.cells #[.slice A N c, .int .i64 next] 24) := by rw [← hW1, ← hg]; exact (Below.heap_alloc _ _ _ (by simp; omega)).trans ((Below.heap_alloc _ _ _ (by simp)).trans (heap_alloc_new w _))
  have hr1 : W1.heap[g + 1]? = some (.cells #[.slice none 0 0, .int .i64 0] 24) := by
    rw [← hW1, ← hg]
    have h := heap_alloc_new (w.alloc (.cells #[.slice A N c, .int .i64 next] 24)) (.cells #[.slice none 0 0, .int .i64 0] 24)
    exact (Below.heap_alloc _ _ _ (by simp)).trans (by simpa using h)
  have hy1 : W1.heap[g + 2]? = some (.cells #[.slice none 0 0, .int .i64 next] 24) := by
    rw [← hW1, ← hg]
    have h := heap_alloc_new ((w.alloc (.cells #[.slice A N c, .int .i64 next] 24)).alloc (.cells #[.slice none 0 0, .int .i64 0] 24)) (.cells #[.slice none 0 0, .int .i64 next] 24)
    simpa using h
  have HV := hid hv
  have HN := hid hN
  have HPB := hid hb
  have HB1 := hid hb1
  have HX1 := hid hx1
  have HR1 := hid hr1
  have HY1 := hid hy1
  have HW1 := hid hW1
  have HG := hid hg
  have x1 : (((w.alloc (.cells #[.slice A N c, .int .i64 next] 24)).alloc (.cells #[.slice none 0 0, .int .i64 0] 24))).cell? ⟨w.heap.size, 1, none⟩ = some (.int .i64 next) := cell_of_row _ _ 1 _ _ _ ((Below.heap_alloc _ _ _ (by simp)).trans (heap_alloc_new w _))
  clear hv hN hb hb1 hx1 hr1 hy1 hW1 hg
  go_enter Try.func38, Try.ntmps38
  go_wp2_with fail
  rw [HW1.out, HG.out]
  clear x1
  go_loopw [6] (fun i wr => ∃ (k m : Nat) (uA : Option Addr) (uc : Nat) (vs : List Ev), k ≤ N ∧ i = .int .i64 (k : Int) ∧ Hid (vs.length = m) ∧ Hid (m ≤ k) ∧ Hid (vs.map core = ((l.take k).eraseIdx ii).map core) ∧ Hid (wr.heap[g]? = some (.cells #[.slice A N c, .int .i64 next] 24)) ∧ Hid (wr.heap[g + 1]? = some (.cells #[.slice none 0 0, .int .i64 0] 24)) ∧ Hid (wr.heap[g + 2]? = some (.cells #[.slice uA m uc, .int .i64 next] 24)) ∧ Hid (wr.ownsRow w.heap.size 32 5 (.slice uA m uc) m (vs.map cEv).flatten) ∧ Hid (∀ x ∈ vs, Pay wr x) ∧ Hid (Below w.heap.size w wr)) (fun i _ => N - (Lib.intOf i).toNat)
  case atStart => exact ⟨0, 0, none, 0, [], Nat.zero_le _, rfl, hid rfl, hid (Nat.le_refl _), hid (by simp), HX1, HR1, HY1, hid (World.ownsRow_nil _ _ _ _), hid (fun x hx => by cases hx), HB1⟩
  case round =>
    obtain ⟨k, m, uA, uc, vs, hk, rfl, HM, HMK, HVS, HX, HR, HY, HO, HP, HB⟩ := hrel
    have x0 := cell_of_row _ _ 0 _ _ _ HX.out
    have y0 := cell_of_row _ _ 0 _ _ _ HY.out
    have y1 := cell_of_row _ _ 1 _ _ _ HY.out
    by_cases hkn : k < N
    · have hkn' : (k : Int) < (N : Int) := by omega
      obtain ⟨b, off, rfl, hbl, hc⟩ := el_cells (HV.out.below HB.out) (by rw [HN.out]; omega)
      obtain ⟨x, hx⟩ : ∃ x, l[k]? = some x := ⟨l[k]'(by rw [HN.out]; exact hkn), List.getElem?_eq_getElem _⟩
      by_cases hki : k = ii
      · have HE := hid (show vs.map core = ((l.take (k + 1)).eraseIdx ii).map core by rw [HVS.out, ← hki, erase_skip hx])
        have e1 : (((k : Nat) : Int) == ((ii : Nat) : Int)) = true := by rw [beq_iff_eq]; omega
        clear hc hx hki
        go_wp2_with fail
        go_roundw
        case rel => exact ⟨k + 1, m, uA, uc, vs, by omega, by go_num, HM, hid (by have := HMK.out; omega), HE, HX, HR, HY, HO, HP, HB⟩
        case measure => simp [Lib.intOf]; omega
      · obtain ⟨q0, q1, q2, q3, q4⟩ := hc k x hx
        have hxb := (HV.out.below HB.out).1 x (List.mem_of_getElem? hx)
        have hxl := HPB.out x (List.mem_of_getElem? hx)
        have e1 : (((k : Nat) : Int) == ((ii : Nat) : Int)) = false := by rw [beq_eq_false_iff_ne]; omega
        have HTK := hid (show vs.map core ++ [core x] = ((l.take (k + 1)).eraseIdx ii).map core by rw [HVS.out, erase_step hx hki, List.map_append]; rfl)
        clear hc hx hki
        obtain ⟨xt, xn, xk, xo, xd, xp⟩ := x
        dsimp only at q0 q1 q2 q3 q4 hxb hxl
        have HCE := hid (fun (X : World) (hX : Below wr.heap.size wr X) => refCopy_any xt xn xk xo xd xp X (hxb.1.below hX) hxb.2 (by omega))
        have H8 := hid hxb.1.1
        have hmk := HMK.out
        clear hxb
        go_wp2_with fail
        have HKra := hid (fun (X : World) (hX : Below wr.heap.size wr X) => And.intro ((hX.cell (p := ⟨g + 2, 0, none⟩) (box_lt HY.out)).trans y0) (And.intro ((hX.cell (p := ⟨g, 0, none⟩) (box_lt HX.out)).trans x0) (And.intro ((hX.cell (p := ⟨b, off + k * 5, none⟩) hbl).trans q0) (And.intro ((hX.cell (p := ⟨b, off + k * 5 + 1, none⟩) hbl).trans q1) (And.intro ((hX.cell (p := ⟨b, off + k * 5 + 2, none⟩) hbl).trans q2) (And.intro ((hX.cell (p := ⟨b, off + k * 5 + 3, none⟩) hbl).trans q3) ((hX.cell (p := ⟨b, off + k * 5 + 4, none⟩) hbl).trans q4)))))))
        refine region_tail 9 (fun X => X.cell? ⟨g + 2, 0, none⟩ = some (.slice uA m uc) ∧ X.cell? ⟨g, 0, none⟩ = some (.slice (some ⟨b, off, none⟩) N c) ∧ X.cell? ⟨b, off + k * 5, none⟩ = some (.int .i64 xt) ∧ X.cell? ⟨b, off + k * 5 + 1, none⟩ = some (.int .i64 xn) ∧ X.cell? ⟨b, off + k * 5 + 2, none⟩ = some (.int .i64 xk) ∧ X.cell? ⟨b, off + k * 5 + 3, none⟩ = some (.int .i64 xo) ∧ X.cell? ⟨b, off + k * 5 + 4, none⟩ = some xd) (by kernel_rfl) ?_
        obtain ⟨X0, hX0⟩ : ∃ X, wr.drew = X := ⟨_, rfl⟩
        have hB0 : Below wr.heap.size wr X0 := by rw [← hX0]; exact (Below.refl wr.heap.size wr).drew
        have hHeld := HKra.out X0 hB0
        rw [hX0]
        clear hX0
        refine' wpAnyT_take (i := 0) (oi := ?oira0) (v := ?vra0) ?hira0 (by kernel_rfl) (by kernel_rfl) ?hqra0 ?hyra0 hHeld ?restra0
        case hira0 => (simp only [List.getElem?_toArray, List.getElem?_cons_zero]; rfl)
        case hqra0 => exact fun _ _ _ h => h
        case hyra0 => (refine Or.inl ⟨by rfl, ?_⟩; intro w' hSw; (try dsimp only at hSw); go_simp; try with_reducible rfl)
        (try simp only [Act.put, List.setIfInBounds_toArray, List.set_cons_zero, List.set_cons_succ])
        refine' wpAnyT_take (i := 1) (oi := ?oira1) (v := ?vra1) ?hira1 (by kernel_rfl) (by kernel_rfl) ?hqra1 ?hyra1 hHeld ?restra1
        case hira1 => (simp only [List.getElem?_toArray, List.getElem?_cons_zero, List.getElem?_cons_succ]; rfl)
        case hqra1 => exact fun _ _ _ h => h
        case hyra1 => (refine Or.inl ⟨by rfl, ?_⟩; intro w' hSw; (try dsimp only at hSw); go_simp; try with_reducible rfl)
        (try simp only [Act.put, List.setIfInBounds_toArray, List.set_cons_zero, List.set_cons_succ])
        refine' wpAnyT_take (i := 2) (oi := ?oira2) (v := ?vra2) ?hira2 (by kernel_rfl) (by kernel_rfl) ?hqra2 ?hyra2 hHeld ?restra2
        case hira2 => (simp only [List.getElem?_toArray, List.getElem?_cons_zero, List.getElem?_cons_succ]; rfl)
        case hqra2 => exact fun _ _ _ h => h
        case hyra2 => (refine Or.inl ⟨by rfl, ?_⟩; intro w' hSw; (try dsimp only at hSw); go_simp; try with_reducible rfl)
        (try simp only [Act.put, List.setIfInBounds_toArray, List.set_cons_zero, List.set_cons_succ])
        refine' wpAnyT_take (i := 3) (oi := ?oira3) (v := ?vra3) ?hira3 (by kernel_rfl) (by kernel_rfl) ?hqra3 ?hyra3 hHeld ?restra3
        case hira3 => (simp only [List.getElem?_toArray, List.getElem?_cons_zero, List.getElem?_cons_succ]; rfl)
        case hqra3 => exact fun _ _ _ h => h
        case hyra3 => (refine Or.inl ⟨by rfl, ?_⟩; intro w' hSw; (try dsimp only at hSw); go_simp; try with_reducible rfl)
        (try simp only [Act.put, List.setIfInBounds_toArray, List.set_cons_zero, List.set_cons_succ])
        refine' wpAnyT_take (i := 4) (oi := ?oira4) (v := ?vra4) ?hira4 (by kernel_rfl) (by kernel_rfl) ?hqra4 ?hyra4 hHeld ?restra4
        case hira4 => (simp only [List.getElem?_toArray, List.getElem?_cons_zero, List.getElem?_cons_succ]; rfl)
        case hqra4 => exact fun _ _ _ h => h
        case hyra4 => (refine Or.inl ⟨by rfl, ?_⟩; intro w' hSw; (try dsimp only at hSw); go_simp; try with_reducible rfl)
        (try simp only [Act.put, List.setIfInBounds_toArray, List.set_cons_zero, List.set_cons_succ])
        refine' wpAnyT_take (i := 5) (oi := ?oira5) (v := ?vra5) ?hira5 (by kernel_rfl) (by kernel_rfl) ?hqra5 ?hyra5 hHeld ?restra5
        case hira5 => (simp only [List.getElem?_toArray, List.getElem?_cons_zero, List.getElem?_cons_succ]; rfl)
        case hqra5 => exact fun _ _ _ h => h
        case hyra5 => (refine Or.inl ⟨by rfl, ?_⟩; intro w' hSw; (try dsimp only at hSw); go_simp; try with_reducible rfl)
        (try simp only [Act.put, List.setIfInBounds_toArray, List.set_cons_zero, List.set_cons_succ])
        refine' wpAnyT_take (i := 6) (oi := ?oira6) (v := ?vra6) ?hira6 (by kernel_rfl) (by kernel_rfl) ?hqra6 ?hyra6 hHeld ?restra6
        case hira6 => (simp only [List.getElem?_toArray, List.getElem?_cons_zero, List.getElem?_cons_succ]; rfl)
        case hqra6 => exact fun _ _ _ h => h
        case hyra6 => (refine Or.inl ⟨by rfl, ?_⟩; intro w' hSw; (try dsimp only at hSw); go_simp; try with_reducible rfl)
        (try simp only [Act.put, List.setIfInBounds_toArray, List.set_cons_zero, List.set_cons_succ])
        refine' wpAnyT_one (i := 7) (o := ?oira7) (by kernel_rfl) ?hira7 (fun K hK => ?stra7)
        case hira7 => (simp only [List.getElem?_toArray, List.getElem?_cons_zero, List.getElem?_cons_succ]; rfl)
        go_simp
        go_at_call 36
        refine (HCE.out X0 hB0).mono ?_
        rintro e w3 ⟨dA, dc, rfl, ho3, hb3⟩
        have hbw3 := hB0.trans (hb3.mono hB0.size)
        have hHeld2 := HKra.out w3 hbw3
        go_simp
        refine hK.out _ _ (fun _ => hHeld2) ?_
        clear hK K
        (try simp only [Act.put, List.setIfInBounds_toArray, List.set_cons_zero, List.set_cons_succ])
        refine' wpAnyT_one (i := 8) (o := ?oira8) (by kernel_rfl) ?hira8 (fun K hK => ?stra8)
        case hira8 => (simp only [List.getElem?_toArray, List.getElem?_cons_zero, List.getElem?_cons_succ]; rfl)
        go_simp
        obtain ⟨W4, hW4⟩ : ∃ W4, w3.alloc (.cells #[.int .i64 xt, .int .i64 xn, .int .i64 xk, .int .i64 xo, .slice dA xp.length dc] 32) = W4 := ⟨_, rfl⟩
        rw [hW4]
        have hb4 : Below w3.heap.size w3 W4 := by rw [← hW4]; exact al1 _ _
        have hbw4 := hbw3.trans (hb4.mono hbw3.size)
        have hHeld3 := HKra.out W4 hbw4
        have hc4 := heap_alloc_new w3 (.cells #[.int .i64 xt, .int .i64 xn, .int .i64 xk, .int .i64 xo, .slice dA xp.length dc] 32)
        rw [hW4] at hc4
        refine hK.out _ _ (fun _ => hHeld3) ?_
        clear hK K
        (try simp only [Act.put, List.setIfInBounds_toArray, List.set_cons_zero, List.set_cons_succ])
        refine' wpAnyT_one (i := 9) (o := ?oira9) (by kernel_rfl) ?hira9 (fun K hK => ?stra9)
        case hira9 => (simp only [List.getElem?_toArray, List.getElem?_cons_zero, List.getElem?_cons_succ]; rfl)
        refine step_append_ev rfl (.tmp 21) (.tmp 28) rfl w.heap.size (.slice uA m uc) m _ (by simp [Act.eval]) (own_keep HO.out (keep_below hbw4)) [.int .i64 xt, .int .i64 xn, .int .i64 xk, .int .i64 xo, .slice dA xp.length dc] rfl (ev_one _ _ _ _ _ _ _) ⟨w3.heap.size, 0, none⟩ 1 (by simp [Act.eval]) (fun j u hu => by rw [add_at, cell_of_row _ _ _ _ _ _ hc4]; simpa using hu) (by omega) (Nat.le_trans HB.out.size hbw4.size) ?_
        intro v5 w5 ho5 hg5
        have how := own_keep HO.out (keep_below hbw4)
        have hbT := (HB.out.trans (hbw4.mono HB.out.size))
        have HB5 := hid (hbT.grown hg5 hbT.size (fun k e => (how.lt k e).1))
        have HP5 := hid (fun x hx => ((HP.out x hx).keep (keep_below hbw4)).keep (keep_grown (T := 5) how (by decide) hg5))
        have HQ5 := hid (own_keep (own_keep ho3 (keep_below hb4)) (keep_grown (T := 5) how (by decide) hg5))
        have hY5 := keep_grown (T := 24) how (by decide) hg5 _ _ ((hbw4.block _ (box_lt HY.out)).trans HY.out)
        have HK24 := hid (show Keep 24 wr w5 from (keep_below hbw4).trans (keep_grown (T := 24) how (by decide) hg5))
        have HS5 := hid (Nat.le_trans hbw4.size hg5.size)
        obtain ⟨a5, c5, rfl⟩ := own_form32 ho5
        have HY5 := hid hY5
        have HO5 := hid ho5
        clear ho5 hg5 how hY5 hbT hc4 hHeld3 hHeld2 hHeld
        refine hK.out _ _ (fun h => absurd h (by decide)) ?_
        clear hK K
        (try simp only [Act.put, List.setIfInBounds_toArray, List.set_cons_zero, List.set_cons_succ])
        refine' wpAnyT_one (i := 10) (o := ?oira10) (by kernel_rfl) ?hira10 (fun K hK => ?stra10)
        case hira10 => (simp only [List.getElem?_toArray, List.getElem?_cons_zero, List.getElem?_cons_succ]; rfl)
        go_simp
        refine hK.out _ _ (fun h => absurd h (by decide)) ?_
        clear hK K
        (try simp only [Act.put, List.setIfInBounds_toArray, List.set_cons_zero, List.set_cons_succ])
        have y0 := cell_of_row _ _ 0 _ _ _ HY5.out
        have fy0 := box_fr HY5.out 0
        refine' wpAnyT_one (i := 11) (o := ?oira11) (by kernel_rfl) ?hira11 (fun K hK => ?stra11)
        case hira11 => (simp only [List.getElem?_toArray, List.getElem?_cons_zero, List.getElem?_cons_succ]; rfl)
        go_simp
        refine hK.out _ _ (fun h => absurd h (by decide)) ?_
        clear hK K
        (try simp only [Act.put, List.setIfInBounds_toArray, List.set_cons_zero, List.set_cons_succ])
        refine wpAnyT_done (by kernel_rfl) ?_ _
        have hX5 := HK24.out _ _ HX.out
        have hR5 := HK24.out _ _ HR.out
        have hy6 := box_set (cs := [.slice uA m uc, .int .i64 next]) HY5.out 0 (.slice a5 (m + 1) c5)
        have hne := own_ne HO5.out HY5.out (by decide)
        have HX6 := hid ((Below.heap_setCell w5 ⟨g + 2, 0, none⟩ (.slice a5 (m + 1) c5) g (show g ≠ g + 2 by omega)).trans hX5)
        have HR6 := hid ((Below.heap_setCell w5 ⟨g + 2, 0, none⟩ (.slice a5 (m + 1) c5) (g + 1) (show g + 1 ≠ g + 2 by omega)).trans hR5)
        have HY6 := hid hy6
        have HO6 := hid (own_off HO5.out hne 0 (.slice a5 (m + 1) c5))
        have hks : Keep 5 w5 (w5.setCell ⟨g + 2, 0, none⟩ (.slice a5 (m + 1) c5)) := fun k cs hk => (Below.heap_setCell _ _ _ _ (fun e => by rw [show k = g + 2 from e, HY5.out] at hk; cases hk)).trans hk
        have HP6 := hid (fun x hx => (HP5.out x hx).keep hks)
        have HQ6 := hid (own_keep HQ5.out hks)
        have HB6 := hid (HB5.out.setCell (p := ⟨g + 2, 0, none⟩) (by rw [HG.out]; exact Nat.le_add_right _ _) (.slice a5 (m + 1) c5))
        clear hX5 hR5 hy6 hne hks y0 fy0
        go_wp2_with fail
        go_roundw
        case rel => exact ⟨k + 1, m + 1, a5, c5, vs ++ [⟨xt, xn, xk, xo, .slice dA xp.length dc, xp⟩], by omega, by go_num, hid (by rw [List.length_append, HM.out]; rfl), hid (by omega), hid (by rw [List.map_append, ← HTK.out]; rfl), HX6, HR6, HY6, hid (by rw [List.map_append, List.flatten_append]; simpa [cEv] using HO6.out), hid (fun x hx => (List.mem_append.1 hx).elim (HP6.out x) (fun hx => by rw [List.mem_singleton] at hx; subst hx; exact ⟨⟨_, HQ6.out⟩, H8.out⟩)), HB6⟩
        case measure => simp [Lib.intOf]; omega
    · obtain rfl : k = N := by omega
      have fz := box_fr HR.out
      have r0 := cell_of_row _ _ 0 _ _ _ HR.out
      have r1 := cell_of_row _ _ 1 _ _ _ HR.out
      have fr0 := box_fr HR.out 0
      have fr1 := box_fr HR.out 1
      go_wp2_with fail
      refine bodyPost_ret (results_cell_row rfl _ _ (g + 1) 24 #[.slice uA m uc, .int .i64 next] (0, 0) _ rfl (set2h _ _ HR.out) Try.underlying24 rfl rfl) rfl ?_
      have hne : ∀ k, (Value.slice uA m uc).ownBlock = some k → k ≠ g + 1 := own_ne HO.out HR.out (by decide)
      refine ⟨_, rfl, .slice uA m uc, vs, rfl, by rw [HM.out]; exact set2r _ _ HO.out hne, by rw [HVS.out, List.take_of_length_le (by rw [HN.out]; omega)], fun x hx => (HP.out x hx).keep (fun k cs hk => (set2o _ _ (fun e => by rw [e, HR.out] at hk; cases hk)).trans hk), set2b _ _ HB.out (by rw [HG.out]; exact Nat.le_succ _)⟩
end Go.Proofs.Ytjpfogdfgcfkcaa
