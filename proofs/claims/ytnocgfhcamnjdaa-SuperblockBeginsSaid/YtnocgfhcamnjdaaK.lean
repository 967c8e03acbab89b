/- put. -/
import Derived.Test.YtnocgfhcamnjdaaJ
namespace Go.Proofs.Ytnocgfhcamnjdaa
open Go.RowKit Go.Lib

theorem step_append_own {P : Program} {ops : Array Oper} {o : Oper} {a : Act} {w : World} {K : Act → World → Prop} {Q : Exit → Act → World → Prop} {E : Prop}
    (hg : o.guard = none) (s x : Operand) (t : TypeId) (hop : o.op = Op.call { callee := Callee.builtin Builtin.append, args := #[s, x], argTypes := #[t, t] })
    (base : Nat) (e : TypeId) (i : TypeInfo) (z : Value) (size bytes : Nat) (h1 : P.underlying t = some (.slice e)) (h2 : P.info? e = some i) (h3 : i.zero = some z) (h4 : i.size = size) (h5 : i.bytes = bytes) (h6 : z.cells.size = size) (h7 : 0 < size)
    (v : Value) (n : Nat) (olds : List Value) (hs : a.eval s = v) (hown : w.ownsRow base e size v n olds)
    (ad : Addr) (m c : Nat) (news : List Value) (hx : a.eval x = .slice (some ad) m c) (hn : news.length = m * size) (hc : ∀ j u, news[j]? = some u → w.cell? (ad.add j) = some u) (h1c : ∀ u ∈ news, u.oneCell' = true)
    (b1 : n + m ≤ maxLen) (b2 : (n + m) * bytes ≤ 140737488355328) (hbase : base ≤ w.heap.size)
    (hK : ∀ v' w', w'.ownsRow base e size v' (n + m) (olds ++ news) → w.grownBy w' v.ownBlock → K (a.put o.dst v') w') :
    if Region.wanted o (yielded ops a.tmps) = true then Oper.wp P o a w K Q else E := by
  have hw : Region.wanted o (yielded ops a.tmps) = true := by simp [Region.wanted, hg]
  rw [if_pos hw]
  obtain ⟨v', w', hrun, r1, r2, _⟩ := run_append_own (P := P) w base t o.type e i z size bytes h1 h2 h3 h4 h5 h6 h7 v n olds hown ad m c news hn hc h1c b1 b2 hbase
  unfold Oper.wp
  simp [execOp, hop, resolve, invoke, builtin, hs, hx, hrun, Result.andThen]
  exact hK v' w' r1 r2
/-- The sectors of a write, for the cache. -/
def putL (at_ : Int) : List Sect → List Ca
  | [] => []
  | s :: r => (at_, s) :: putL (at_ + 1) r
theorem putL_snoc (at_ : Int) (l : List Sect) (s : Sect) : putL at_ (l ++ [s]) = putL at_ l ++ [(at_ + (l.length : Int), s)] := by
  induction l generalizing at_ with
  | nil => simp [putL]
  | cons a r ih => rw [List.cons_append, putL, ih, putL, List.length_cons]; simp; omega
theorem putL_len (at_ : Int) (l : List Sect) : (putL at_ l).length = l.length := by
  induction l generalizing at_ with
  | nil => rfl
  | cons a r ih => rw [putL, List.length_cons, ih, List.length_cons]
theorem onesOne (a : Int) (s : Sect) : ∀ u ∈ cCa (a, s), u.oneCell' = true := fun u hu => by
  unfold cCa at hu
  rcases List.mem_cons.1 hu with rfl | hu
  · rfl
  · exact byteV_one s u hu
theorem putL_cas {at_ : Int} {l : List Sect} (h : Secs l) (h0 : 0 ≤ at_) (h1 : at_ + (l.length : Int) ≤ 9223372036854775807) : CasL (putL at_ l) := by
  induction l generalizing at_ with
  | nil => intro x hx; cases hx
  | cons a r ih =>
    rw [List.length_cons] at h1
    intro x hx
    rw [putL] at hx
    rcases List.mem_cons.1 hx with rfl | hx
    · exact ⟨(h a (List.mem_cons_self ..)).1, (h a (List.mem_cons_self ..)).2, by unfold R64; dsimp only; omega⟩
    · exact ih (fun s hs => h s (List.mem_cons_of_mem _ hs)) (by omega) (by omega) x hx
/-- What put leaves. -/
def PutQ (B p : Nat) (st : List Sect) (ca : List Ca) (at_ : Int) (data : List Sect) (w : World) (e : Ending) (w' : World) : Prop :=
  Below B w w' ∧ (∀ T, T ≠ 112 → T ≠ 35 → Keep T w w') ∧ ((insB st.length at_ data.length = false ∧ e = .returned (.int .i64 2)) ∨ (insB st.length at_ data.length = true ∧ e = .returned (.int .i64 0) ∧ ∃ sv cv, DB w' B p st (ca ++ putL at_ data) sv cv))
set_option maxHeartbeats 8000000 in
set_option maxRecDepth 100000 in
theorem put_any (B p : Nat) (st : List Sect) (ca : List Ca) (sv cv : Value) (o0 at_ : Int) (dv : Value) (data : List Sect) (w0 w : World) (hd : DB w B p st ca sv cv) (hBp : B ≤ p) (hBw : B ≤ w.heap.size) (hw0 : Below w0.heap.size w0 w) (hw0B : w0.heap.size ≤ B) (hdat : Sec w0 dv data) (hn4 : st.length ≤ 4096) (hca : ca.length ≤ 500000) (hr : R64 at_) :
    Calls Try.prog 59 #[.pointer (some ⟨p, 0, none⟩), .agg #[.int .i64 o0, .int .i64 at_, dv]] w (PutQ B p st ca at_ data w) := by
  obtain ⟨i0, hi, hz0, hz1, hz2⟩ := info_parts info77
  obtain ⟨A, c, rfl⟩ := ownAny_form hd.os
  obtain ⟨C, d, rfl⟩ := ownAny_form hd.oc
  obtain ⟨dA, dc, rfl⟩ := sec_form hdat
  obtain ⟨n, hn⟩ : ∃ n, st.length = n := ⟨_, rfl⟩
  obtain ⟨N, hN⟩ : ∃ n, ca.length = n := ⟨_, rfl⟩
  obtain ⟨m, hm⟩ : ∃ n, data.length = n := ⟨_, rfl⟩
  obtain ⟨hr0, hr1⟩ := hr
  have HSS := hid hd.ss
  have HCS := hid hd.cs
  have hbox := hd.box
  have hos := hd.os
  have hoc := hd.oc
  unfold PutQ
  rw [hn] at hos hbox hn4 ⊢
  rw [hN] at hoc hbox hca
  rw [hm] at hdat ⊢
  have HN := hid hn
  have HM := hid hN
  have HD := hid hm
  have HDT := hid (fun X (hX : Below B w X) => hdat.below (hw0.trans (hX.mono hw0B)))
  have HDS := hid hdat.1
  clear hd hn hN hm hdat
  obtain ⟨h, hh⟩ : ∃ h, w.heap.size = h := ⟨_, rfl⟩
  obtain ⟨W1, hW1⟩ : ∃ X, w.alloc (.cells #[.int .i64 o0, .int .i64 at_, .slice dA m dc] 75) = X := ⟨_, rfl⟩
  have hb1 : Below w.heap.size w W1 := by rw [← hW1]; exact al1 _ _
  have hx1 := (hb1.block _ (box_lt hbox)).trans hbox
  have hy1 : W1.heap[h]? = some (.cells #[.int .i64 o0, .int .i64 at_, .slice dA m dc] 75) := by rw [← hW1, ← hh]; exact heap_alloc_new _ _
  have HOS1 := hid (own_keep hos (keep_below hb1))
  have HOC1 := hid (own_keep hoc (keep_below hb1))
  have HB1 : Hid (Below B w W1) := hid (hb1.mono hBw)
  have HKW : Hid (∀ T, Keep T w W1) := hid (fun T => keep_below hb1)
  have hBW : B ≤ W1.heap.size := Nat.le_trans hBw hb1.size
  have HX1 := hid hx1
  have HY1 := hid hy1
  have HIS := hid (fun X => inside_any A n c (.slice C N d) at_ (m : Int) X (by omega) ⟨hr0, hr1⟩)
  have HK := hid (fun (X : World) (hX : Below W1.heap.size W1 X) => (show X.cell? ⟨p, 0, none⟩ = some (.slice A n c) ∧ X.cell? ⟨p, 1, none⟩ = some (.slice C N d) ∧ X.cell? ⟨h, 1, none⟩ = some (.int .i64 at_) ∧ X.cell? ⟨h, 2, none⟩ = some (.slice dA m dc) from (by
    have g1 := (hX.block _ (box_lt hx1)).trans hx1
    have g2 := (hX.block _ (box_lt hy1)).trans hy1
    exact ⟨cell_of_row _ _ 0 _ _ _ g1, cell_of_row _ _ 1 _ _ _ g1, cell_of_row _ _ 1 _ _ _ g2, cell_of_row _ _ 2 _ _ _ g2⟩)))
  have HW1 := hid hW1
  have HHH := hid hh
  clear hbox hos hoc hb1 hx1 hy1 hW1 hh
  go_enter Try.func59, Try.ntmps59
  go_upto_region 1 with fail
  rw [HW1.out, HHH.out]
  refine region_tail 9 (fun X => X.cell? ⟨p, 0, none⟩ = some (.slice A n c) ∧ X.cell? ⟨p, 1, none⟩ = some (.slice C N d) ∧ X.cell? ⟨h, 1, none⟩ = some (.int .i64 at_) ∧ X.cell? ⟨h, 2, none⟩ = some (.slice dA m dc)) (by kernel_rfl) ?_
  obtain ⟨X0, hX0⟩ : ∃ X, W1.drew = X := ⟨_, rfl⟩
  have hB0 : Below W1.heap.size W1 X0 := by rw [← hX0]; exact (Below.refl W1.heap.size W1).drew
  have hHeld := HK.out X0 hB0
  rw [hX0]
  clear hX0
  refine' wpAnyT_take (i := 0) (oi := ?oia0) (v := ?va0) ?hia0 (by kernel_rfl) (by kernel_rfl) ?hqa0 ?hya0 hHeld ?resta0
  case hia0 => (simp only [List.getElem?_toArray, List.getElem?_cons_zero]; rfl)
  case hqa0 => exact fun _ _ _ h => h
  case hya0 => (refine Or.inl ⟨by rfl, ?_⟩; intro w' hSw; (try dsimp only at hSw); go_simp; try with_reducible rfl)
  (try simp only [Act.put, List.setIfInBounds_toArray, List.set_cons_zero, List.set_cons_succ])
  refine' wpAnyT_take (i := 1) (oi := ?oia1) (v := ?va1) ?hia1 (by kernel_rfl) (by kernel_rfl) ?hqa1 ?hya1 hHeld ?resta1
  case hia1 => (simp only [List.getElem?_toArray, List.getElem?_cons_zero, List.getElem?_cons_succ]; rfl)
  case hqa1 => exact fun _ _ _ h => h
  case hya1 => (refine Or.inl ⟨by rfl, ?_⟩; intro w' hSw; (try dsimp only at hSw); go_simp; try with_reducible rfl)
  (try simp only [Act.put, List.setIfInBounds_toArray, List.set_cons_zero, List.set_cons_succ])
  refine' wpAnyT_take (i := 2) (oi := ?oia2) (v := ?va2) ?hia2 (by kernel_rfl) (by kernel_rfl) ?hqa2 ?hya2 hHeld ?resta2
  case hia2 => (simp only [List.getElem?_toArray, List.getElem?_cons_zero, List.getElem?_cons_succ]; rfl)
  case hqa2 => exact fun _ _ _ h => h
  case hya2 => (refine Or.inl ⟨by rfl, ?_⟩; intro w' hSw; (try dsimp only at hSw); go_simp; try with_reducible rfl)
  (try simp only [Act.put, List.setIfInBounds_toArray, List.set_cons_zero, List.set_cons_succ])
  refine' wpAnyT_take (i := 3) (oi := ?oia3) (v := ?va3) ?hia3 (by kernel_rfl) (by kernel_rfl) ?hqa3 ?hya3 hHeld ?resta3
  case hia3 => (simp only [List.getElem?_toArray, List.getElem?_cons_zero, List.getElem?_cons_succ]; rfl)
  case hqa3 => exact fun _ _ _ h => h
  case hya3 => (refine Or.inl ⟨by rfl, ?_⟩; intro w' hSw; (try dsimp only at hSw); go_simp; try with_reducible rfl)
  (try simp only [Act.put, List.setIfInBounds_toArray, List.set_cons_zero, List.set_cons_succ])
  refine' wpAnyT_take (i := 4) (oi := ?oia4) (v := ?va4) ?hia4 (by kernel_rfl) (by kernel_rfl) ?hqa4 ?hya4 hHeld ?resta4
  case hia4 => (simp only [List.getElem?_toArray, List.getElem?_cons_zero, List.getElem?_cons_succ]; rfl)
  case hqa4 => exact fun _ _ _ h => h
  case hya4 => (refine Or.inl ⟨by rfl, ?_⟩; intro w' hSw; (try dsimp only at hSw); go_simp; try with_reducible rfl)
  (try simp only [Act.put, List.setIfInBounds_toArray, List.set_cons_zero, List.set_cons_succ])
  refine' wpAnyT_take (i := 5) (oi := ?oia5) (v := ?va5) ?hia5 (by kernel_rfl) (by kernel_rfl) ?hqa5 ?hya5 hHeld ?resta5
  case hia5 => (simp only [List.getElem?_toArray, List.getElem?_cons_zero, List.getElem?_cons_succ]; rfl)
  case hqa5 => exact fun _ _ _ h => h
  case hya5 => (refine Or.inl ⟨by rfl, ?_⟩; intro w' hSw; (try dsimp only at hSw); go_simp; try with_reducible rfl)
  (try simp only [Act.put, List.setIfInBounds_toArray, List.set_cons_zero, List.set_cons_succ])
  refine' wpAnyT_take (i := 6) (oi := ?oia6) (v := ?va6) ?hia6 (by kernel_rfl) (by kernel_rfl) ?hqa6 ?hya6 hHeld ?resta6
  case hia6 => (simp only [List.getElem?_toArray, List.getElem?_cons_zero, List.getElem?_cons_succ]; rfl)
  case hqa6 => exact fun _ _ _ h => h
  case hya6 => (refine Or.inl ⟨by rfl, ?_⟩; intro w' hSw; (try dsimp only at hSw); go_simp; try with_reducible rfl)
  (try simp only [Act.put, List.setIfInBounds_toArray, List.set_cons_zero, List.set_cons_succ])
  refine' wpAnyT_take (i := 7) (oi := ?oia7) (v := ?va7) ?hia7 (by kernel_rfl) (by kernel_rfl) ?hqa7 ?hya7 hHeld ?resta7
  case hia7 => (simp only [List.getElem?_toArray, List.getElem?_cons_zero, List.getElem?_cons_succ]; rfl)
  case hqa7 => exact fun _ _ _ h => h
  case hya7 => (refine Or.inl ⟨by rfl, ?_⟩; intro w' hSw; (try dsimp only at hSw); go_simp; try with_reducible rfl)
  (try simp only [Act.put, List.setIfInBounds_toArray, List.set_cons_zero, List.set_cons_succ])
  refine' wpAnyT_one (i := 8) (o := ?oia8) (by kernel_rfl) ?hia8 (fun K hK => ?sta8)
  case hia8 => (simp only [List.getElem?_toArray, List.getElem?_cons_zero, List.getElem?_cons_succ]; rfl)
  go_simp
  go_at_call 56
  refine (HIS.out X0).mono ?_
  rintro e X1 ⟨rfl, hbc⟩
  have hB1 : Below W1.heap.size W1 X1 := hB0.trans (hbc.mono hB0.size)
  clear hbc hHeld
  have hHeld := HK.out X1 hB1
  refine hK.out _ _ (fun _ => hHeld) ?_
  clear hK K
  (try simp only [Act.put, List.setIfInBounds_toArray, List.set_cons_zero, List.set_cons_succ])
  refine' wpAnyT_one (i := 9) (o := ?oia9) (by kernel_rfl) ?hia9 (fun K hK => ?sta9)
  case hia9 => (simp only [List.getElem?_toArray, List.getElem?_cons_zero, List.getElem?_cons_succ]; rfl)
  go_simp
  refine hK.out _ _ (fun h => absurd h (by decide)) ?_
  clear hK K
  (try simp only [Act.put, List.setIfInBounds_toArray, List.set_cons_zero, List.set_cons_succ])
  refine wpAnyT_done (by kernel_rfl) ?_ _
  obtain ⟨bi, hbi⟩ : ∃ b, insB n at_ (m : Int) = b := ⟨_, rfl⟩
  rw [hbi]
  have HB2 : Hid (Below B w X1) := hid (HB1.out.trans (hB1.mono hBW))
  have HKX : Hid (∀ T, Keep T w X1) := hid (fun T => (HKW.out T).trans (keep_below hB1))
  cases bi
  · have HBI := hid hbi
    clear hbi
    go_wp2_with fail
    go_ret
    exact ⟨HB2.out, fun T _ _ => HKX.out T, .inl ⟨HBI.out, rfl⟩⟩
  have HBI := hid hbi
  unfold insB at hbi
  obtain ⟨ha0, hm0, ham⟩ := of_decide_eq_true hbi
  clear hbi
  have HX2 := hid ((hB1.block _ (box_lt HX1.out)).trans HX1.out)
  have HY2 := hid ((hB1.block _ (box_lt HY1.out)).trans HY1.out)
  have HOS2 := hid (own_keep HOS1.out (keep_below hB1))
  have HOC2 := hid (own_keep HOC1.out (keep_below hB1))
  have y2 := cell_of_row _ _ 2 _ _ _ HY2.out
  clear hHeld hB0 hB1
  go_upto_region 4 with fail
  clear y2
  go_loopw [20] (fun iv wr => ∃ q : Nat, q ≤ m ∧ iv = .int .i64 (q : Int) ∧ Hid (∃ C' d', wr.heap[p]? = some (.cells #[.slice A n c, .slice C' (N + q) d'] 35) ∧ wr.ownsRow B 112 9 (.slice C' (N + q) d') (N + q) ((ca ++ putL at_ (data.take q)).map cCa).flatten) ∧ Hid (wr.ownsRow B 57 8 (.slice A n c) n (st.map cSec).flatten) ∧ Hid (wr.heap[h]? = some (.cells #[.int .i64 o0, .int .i64 at_, .slice dA m dc] 75)) ∧ Hid (Below B w wr ∧ ∀ T, T ≠ 112 → T ≠ 35 → Keep T w wr)) (fun i _ => m - (Go.RowKit.intOf i).toNat)
  case atStart => exact ⟨0, Nat.zero_le _, rfl, hid ⟨C, d, HX2.out, by simpa [putL] using HOC2.out⟩, HOS2, HY2, hid ⟨HB2.out, fun T _ _ => HKX.out T⟩⟩
  case round =>
    obtain ⟨q, hq, rfl, HXO, HOS, HY, HBK⟩ := hrel
    have HB : Hid (Below B w wr) := hid HBK.out.1
    obtain ⟨C, d, hxr, hoc⟩ := HXO.out
    have hwr : B ≤ wr.heap.size := Nat.le_trans hBw HB.out.size
    by_cases hqn : q < m
    · have hqn' : (q : Int) < (m : Int) := by omega
      obtain ⟨b, off, rfl, hb, hcc⟩ := arr_at1 (HDT.out wr HB.out).2 (by rw [List.length_map, HD.out]; omega)
      obtain ⟨s, hs⟩ : ∃ s, data[q]? = some s := ⟨data[q]'(by rw [HD.out]; exact hqn), List.getElem?_eq_getElem _⟩
      have h8 := HDS.out s (List.mem_of_getElem? hs)
      have hrow : (data.map cSec)[q]? = some (cSec s) := by rw [List.getElem?_map, hs]; rfl
      have HTK := hid (show data.take (q + 1) = data.take q ++ [s] from by rw [List.take_add_one, hs]; rfl)
      obtain ⟨s0, s1, s2, s3, s4, s5, s6, s7, rfl⟩ := list8 h8.1
      have c0 := hcc q _ hrow 0 (.int .u8 (s0 : Int)) rfl
      have c1 := hcc q _ hrow 1 (.int .u8 (s1 : Int)) rfl
      have c2 := hcc q _ hrow 2 (.int .u8 (s2 : Int)) rfl
      have c3 := hcc q _ hrow 3 (.int .u8 (s3 : Int)) rfl
      have c4 := hcc q _ hrow 4 (.int .u8 (s4 : Int)) rfl
      have c5 := hcc q _ hrow 5 (.int .u8 (s5 : Int)) rfl
      have c6 := hcc q _ hrow 6 (.int .u8 (s6 : Int)) rfl
      have c7 := hcc q _ hrow 7 (.int .u8 (s7 : Int)) rfl
      rw [Nat.add_zero] at c0
      have HWR := hid (show IntKind.i64.wrap (at_ + (q : Int)) = at_ + (q : Int) by rw [IntKind.wrap_i64]; omega)
      obtain ⟨Q, hQ⟩ : ∃ Q, N + q = Q := ⟨_, rfl⟩
      rw [hQ] at hxr hoc
      obtain ⟨W5, hW5⟩ : ∃ X, wr.alloc (.cells #[.int .u8 (s0 : Int), .int .u8 (s1 : Int), .int .u8 (s2 : Int), .int .u8 (s3 : Int), .int .u8 (s4 : Int), .int .u8 (s5 : Int), .int .u8 (s6 : Int), .int .u8 (s7 : Int)] 57) = X := ⟨_, rfl⟩
      obtain ⟨h5, hh5⟩ : ∃ h, wr.heap.size = h := ⟨_, rfl⟩
      have hb5 : Below wr.heap.size wr W5 := by rw [← hW5]; exact al1 _ _
      have hz5 : W5.heap[h5]? = some (.cells #[.int .u8 (s0 : Int), .int .u8 (s1 : Int), .int .u8 (s2 : Int), .int .u8 (s3 : Int), .int .u8 (s4 : Int), .int .u8 (s5 : Int), .int .u8 (s6 : Int), .int .u8 (s7 : Int)] 57) := by rw [← hW5, ← hh5]; exact heap_alloc_new _ _
      have hx5 := (hb5.block _ (box_lt hxr)).trans hxr
      have hy5 := (hb5.block _ (box_lt HY.out)).trans HY.out
      have HX5 := hid hx5
      have HY5 := hid hy5
      have HOC5 := hid (own_keep hoc (keep_below hb5))
      have HOS5 := hid (own_keep HOS.out (keep_below hb5))
      have hB5 : B ≤ W5.heap.size := Nat.le_trans hwr hb5.size
      have HKW5 : Hid (∀ T, T ≠ 112 → T ≠ 35 → Keep T w W5) := hid (fun T h1 h2 => (HBK.out.2 T h1 h2).trans (keep_below hb5))
      have HBW5 : Hid (Below B w W5) := hid (HB.out.trans (hb5.mono hwr))
      have HK2 := hid (fun (X : World) (hX : ∀ T, T ≠ 112 → Keep T W5 X) => (show X.cell? ⟨p, 1, none⟩ = some (.slice C Q d) ∧ X.cell? ⟨h, 1, none⟩ = some (.int .i64 at_) ∧ X.cell? ⟨h5, 0, none⟩ = some (.int .u8 (s0 : Int)) ∧ X.cell? ⟨h5, 1, none⟩ = some (.int .u8 (s1 : Int)) ∧ X.cell? ⟨h5, 2, none⟩ = some (.int .u8 (s2 : Int)) ∧ X.cell? ⟨h5, 3, none⟩ = some (.int .u8 (s3 : Int)) ∧ X.cell? ⟨h5, 4, none⟩ = some (.int .u8 (s4 : Int)) ∧ X.cell? ⟨h5, 5, none⟩ = some (.int .u8 (s5 : Int)) ∧ X.cell? ⟨h5, 6, none⟩ = some (.int .u8 (s6 : Int)) ∧ X.cell? ⟨h5, 7, none⟩ = some (.int .u8 (s7 : Int)) from (by
        have g1 := hX 35 (by decide) _ _ hx5
        have g2 := hX 75 (by decide) _ _ hy5
        have g3 := hX 57 (by decide) _ _ hz5
        exact ⟨cell_of_row _ _ 1 _ _ _ g1, cell_of_row _ _ 1 _ _ _ g2, cell_of_row _ _ 0 _ _ _ g3, cell_of_row _ _ 1 _ _ _ g3, cell_of_row _ _ 2 _ _ _ g3, cell_of_row _ _ 3 _ _ _ g3, cell_of_row _ _ 4 _ _ _ g3, cell_of_row _ _ 5 _ _ _ g3, cell_of_row _ _ 6 _ _ _ g3, cell_of_row _ _ 7 _ _ _ g3⟩)))
      have HK := hid (fun (X : World) (_ : Below W5.heap.size W5 X) hX => HK2.out X hX)
      obtain ⟨X0, hX0⟩ : ∃ X, W5.drew = X := ⟨_, rfl⟩
      have hB0 : Below W5.heap.size W5 X0 := by rw [← hX0]; exact (Below.refl W5.heap.size W5).drew
      have hHeld := HK.out X0 hB0 (fun T _ => keep_below hB0)
      have HW5 := hid hW5
      have HH5 := hid hh5
      have HH8 := hid h8
      clear hcc hs h8 hrow hxr hoc hW5 hh5 hb5 hz5 hx5 hy5
      go_upto_region 6 with fail
      rw [HW5.out, HH5.out]
      clear c0 c1 c2 c3 c4 c5 c6 c7
      refine region_tail 15 (fun X => X.cell? ⟨p, 1, none⟩ = some (.slice C Q d) ∧ X.cell? ⟨h, 1, none⟩ = some (.int .i64 at_) ∧ X.cell? ⟨h5, 0, none⟩ = some (.int .u8 (s0 : Int)) ∧ X.cell? ⟨h5, 1, none⟩ = some (.int .u8 (s1 : Int)) ∧ X.cell? ⟨h5, 2, none⟩ = some (.int .u8 (s2 : Int)) ∧ X.cell? ⟨h5, 3, none⟩ = some (.int .u8 (s3 : Int)) ∧ X.cell? ⟨h5, 4, none⟩ = some (.int .u8 (s4 : Int)) ∧ X.cell? ⟨h5, 5, none⟩ = some (.int .u8 (s5 : Int)) ∧ X.cell? ⟨h5, 6, none⟩ = some (.int .u8 (s6 : Int)) ∧ X.cell? ⟨h5, 7, none⟩ = some (.int .u8 (s7 : Int))) (by kernel_rfl) ?_
      rw [hX0]
      clear hX0
      refine' wpAnyT_take (i := 0) (oi := ?oib0) (v := ?vb0) ?hib0 (by kernel_rfl) (by kernel_rfl) ?hqb0 ?hyb0 hHeld ?restb0
      case hib0 => (simp only [List.getElem?_toArray, List.getElem?_cons_zero]; rfl)
      case hqb0 => exact fun _ _ _ h => h
      case hyb0 => (refine Or.inl ⟨by rfl, ?_⟩; intro w' hSw; (try dsimp only at hSw); go_simp; try with_reducible rfl)
      (try simp only [Act.put, List.setIfInBounds_toArray, List.set_cons_zero, List.set_cons_succ])
      refine' wpAnyT_take (i := 1) (oi := ?oib1) (v := ?vb1) ?hib1 (by kernel_rfl) (by kernel_rfl) ?hqb1 ?hyb1 hHeld ?restb1
      case hib1 => (simp only [List.getElem?_toArray, List.getElem?_cons_zero, List.getElem?_cons_succ]; rfl)
      case hqb1 => exact fun _ _ _ h => h
      case hyb1 => (refine Or.inl ⟨by rfl, ?_⟩; intro w' hSw; (try dsimp only at hSw); go_simp; try with_reducible rfl)
      (try simp only [Act.put, List.setIfInBounds_toArray, List.set_cons_zero, List.set_cons_succ])
      refine' wpAnyT_take (i := 2) (oi := ?oib2) (v := ?vb2) ?hib2 (by kernel_rfl) (by kernel_rfl) ?hqb2 ?hyb2 hHeld ?restb2
      case hib2 => (simp only [List.getElem?_toArray, List.getElem?_cons_zero, List.getElem?_cons_succ]; rfl)
      case hqb2 => exact fun _ _ _ h => h
      case hyb2 => (refine Or.inl ⟨by rfl, ?_⟩; intro w' hSw; (try dsimp only at hSw); go_simp; try with_reducible rfl)
      (try simp only [Act.put, List.setIfInBounds_toArray, List.set_cons_zero, List.set_cons_succ])
      refine' wpAnyT_take (i := 3) (oi := ?oib3) (v := ?vb3) ?hib3 (by kernel_rfl) (by kernel_rfl) ?hqb3 ?hyb3 hHeld ?restb3
      case hib3 => (simp only [List.getElem?_toArray, List.getElem?_cons_zero, List.getElem?_cons_succ]; rfl)
      case hqb3 => exact fun _ _ _ h => h
      case hyb3 => (refine Or.inl ⟨by rfl, ?_⟩; intro w' hSw; (try dsimp only at hSw); go_simp; try with_reducible rfl)
      (try simp only [Act.put, List.setIfInBounds_toArray, List.set_cons_zero, List.set_cons_succ])
      refine' wpAnyT_take (i := 4) (oi := ?oib4) (v := ?vb4) ?hib4 (by kernel_rfl) (by kernel_rfl) ?hqb4 ?hyb4 hHeld ?restb4
      case hib4 => (simp only [List.getElem?_toArray, List.getElem?_cons_zero, List.getElem?_cons_succ]; rfl)
      case hqb4 => exact fun _ _ _ h => h
      case hyb4 => (refine Or.inl ⟨by rfl, ?_⟩; intro w' hSw; (try dsimp only at hSw); go_simp; try with_reducible rfl)
      (try simp only [Act.put, List.setIfInBounds_toArray, List.set_cons_zero, List.set_cons_succ])
      refine' wpAnyT_take (i := 5) (oi := ?oib5) (v := ?vb5) ?hib5 (by kernel_rfl) (by kernel_rfl) ?hqb5 ?hyb5 hHeld ?restb5
      case hib5 => (simp only [List.getElem?_toArray, List.getElem?_cons_zero, List.getElem?_cons_succ]; rfl)
      case hqb5 => exact fun _ _ _ h => h
      case hyb5 => (refine Or.inl ⟨by rfl, ?_⟩; intro w' hSw; (try dsimp only at hSw); go_simp; try with_reducible rfl)
      (try simp only [Act.put, List.setIfInBounds_toArray, List.set_cons_zero, List.set_cons_succ])
      refine' wpAnyT_take (i := 6) (oi := ?oib6) (v := ?vb6) ?hib6 (by kernel_rfl) (by kernel_rfl) ?hqb6 ?hyb6 hHeld ?restb6
      case hib6 => (simp only [List.getElem?_toArray, List.getElem?_cons_zero, List.getElem?_cons_succ]; rfl)
      case hqb6 => exact fun _ _ _ h => h
      case hyb6 => (refine Or.inl ⟨by rfl, ?_⟩; intro w' hSw; (try dsimp only at hSw); go_simp; try with_reducible rfl)
      (try simp only [Act.put, List.setIfInBounds_toArray, List.set_cons_zero, List.set_cons_succ])
      refine' wpAnyT_take (i := 7) (oi := ?oib7) (v := ?vb7) ?hib7 (by kernel_rfl) (by kernel_rfl) ?hqb7 ?hyb7 hHeld ?restb7
      case hib7 => (simp only [List.getElem?_toArray, List.getElem?_cons_zero, List.getElem?_cons_succ]; rfl)
      case hqb7 => exact fun _ _ _ h => h
      case hyb7 => (refine Or.inl ⟨by rfl, ?_⟩; intro w' hSw; (try dsimp only at hSw); go_simp; try with_reducible rfl)
      (try simp only [Act.put, List.setIfInBounds_toArray, List.set_cons_zero, List.set_cons_succ])
      refine' wpAnyT_take (i := 8) (oi := ?oib8) (v := ?vb8) ?hib8 (by kernel_rfl) (by kernel_rfl) ?hqb8 ?hyb8 hHeld ?restb8
      case hib8 => (simp only [List.getElem?_toArray, List.getElem?_cons_zero, List.getElem?_cons_succ]; rfl)
      case hqb8 => exact fun _ _ _ h => h
      case hyb8 => (refine Or.inl ⟨by rfl, ?_⟩; intro w' hSw; (try dsimp only at hSw); go_simp; try with_reducible rfl)
      (try simp only [Act.put, List.setIfInBounds_toArray, List.set_cons_zero, List.set_cons_succ])
      refine' wpAnyT_take (i := 9) (oi := ?oib9) (v := ?vb9) ?hib9 (by kernel_rfl) (by kernel_rfl) ?hqb9 ?hyb9 hHeld ?restb9
      case hib9 => (simp only [List.getElem?_toArray, List.getElem?_cons_zero, List.getElem?_cons_succ]; rfl)
      case hqb9 => exact fun _ _ _ h => h
      case hyb9 => (refine Or.inl ⟨by rfl, ?_⟩; intro w' hSw; (try dsimp only at hSw); go_simp; try with_reducible rfl)
      (try simp only [Act.put, List.setIfInBounds_toArray, List.set_cons_zero, List.set_cons_succ])
      refine' wpAnyT_take (i := 10) (oi := ?oib10) (v := ?vb10) ?hib10 (by kernel_rfl) (by kernel_rfl) ?hqb10 ?hyb10 hHeld ?restb10
      case hib10 => (simp only [List.getElem?_toArray, List.getElem?_cons_zero, List.getElem?_cons_succ]; rfl)
      case hqb10 => exact fun _ _ _ h => h
      case hyb10 => (refine Or.inl ⟨by rfl, ?_⟩; intro w' hSw; (try dsimp only at hSw); go_simp; try with_reducible rfl)
      (try simp only [Act.put, List.setIfInBounds_toArray, List.set_cons_zero, List.set_cons_succ])
      refine' wpAnyT_one (i := 11) (o := ?oib11) (by kernel_rfl) ?hib11 (fun K hK => ?stb11)
      case hib11 => (simp only [List.getElem?_toArray, List.getElem?_cons_zero, List.getElem?_cons_succ]; rfl)
      go_simp
      rw [HWR.out]
      obtain ⟨X2, hX2⟩ : ∃ X, X0.alloc (.cells #[.int .i64 (at_ + (q : Int)), .int .u8 (s0 : Int), .int .u8 (s1 : Int), .int .u8 (s2 : Int), .int .u8 (s3 : Int), .int .u8 (s4 : Int), .int .u8 (s5 : Int), .int .u8 (s6 : Int), .int .u8 (s7 : Int)] 112) = X := ⟨_, rfl⟩
      obtain ⟨h6, hh6⟩ : ∃ h, X0.heap.size = h := ⟨_, rfl⟩
      have hb2 : Below X0.heap.size X0 X2 := by rw [← hX2]; exact al1 _ _
      have hz6 : X2.heap[h6]? = some (.cells (cCa (at_ + (q : Int), [s0, s1, s2, s3, s4, s5, s6, s7])).toArray 112) := by rw [← hX2, ← hh6]; exact heap_alloc_new _ _
      have hc6 : ∀ (j : Nat) (u : Value), (cCa (at_ + (q : Int), [s0, s1, s2, s3, s4, s5, s6, s7]))[j]? = some u → X2.cell? ((⟨h6, 0, none⟩ : Addr).add j) = some u := fun j u hu => by
        rw [add_at', cell_of_row _ _ _ _ _ _ hz6]
        simpa using hu
      rw [hX2, hh6]
      have hB2 : Below W5.heap.size W5 X2 := hB0.trans (hb2.mono hB0.size)
      have HOC2 := hid (own_keep HOC5.out (keep_below hB2))
      have hbs : B ≤ X2.heap.size := Nat.le_trans hB5 hB2.size
      clear hHeld hX2 hh6 hb2 hz6
      have hHeld := HK.out X2 hB2 (fun T _ => keep_below hB2)
      refine hK.out _ _ (fun _ => hHeld) ?_
      clear hK K
      (try simp only [Act.put, List.setIfInBounds_toArray, List.set_cons_zero, List.set_cons_succ])
      refine' wpAnyT_one (i := 12) (o := ?oib12) (by kernel_rfl) ?hib12 (fun K hK => ?stb12)
      case hib12 => (simp only [List.getElem?_toArray, List.getElem?_cons_zero, List.getElem?_cons_succ]; rfl)
      refine step_append_own rfl (.tmp 29) (.tmp 36) 33 rfl B 112 i0 _ 9 16 Try.underlying33 hi hz0 hz1 hz2 rfl (by decide) (.slice C Q d) Q _ (by simp [Act.eval]) HOC2.out ⟨h6, 0, none⟩ 1 1 (cCa (at_ + (q : Int), [s0, s1, s2, s3, s4, s5, s6, s7])) (by simp [Act.eval]) rfl hc6 (onesOne _ _) (by unfold maxLen; omega) (by omega) hbs ?_
      intro v9 X3 ho9 hg9
      obtain ⟨C3, d3, rfl⟩ := ownAny_form ho9
      have hk3 : ∀ T, T ≠ 112 → Keep T W5 X3 := fun T hT => (keep_below hB2).trans (keep_grown HOC2.out hT hg9)
      have HB3 : Hid (Below B W5 X3) := hid (below_own (hB2.mono hB5) HOC2.out hg9 hbs (Nat.le_refl _))
      have HOC3 := hid ho9
      have hx3 := hk3 35 (by decide) _ _ HX5.out
      have HX3 := hid hx3
      have HK3 := hid hk3
      have y1 := cell_of_row _ _ 1 _ _ _ hx3
      have fy1 := box_fr hx3 1
      clear hHeld ho9 hg9 hc6 hx3
      have hHeld := HK2.out X3 hk3
      refine hK.out _ _ (fun _ => hHeld) ?_
      clear hK K
      (try simp only [Act.put, List.setIfInBounds_toArray, List.set_cons_zero, List.set_cons_succ])
      refine' wpAnyT_one (i := 13) (o := ?oib13) (by kernel_rfl) ?hib13 (fun K hK => ?stb13)
      case hib13 => (simp only [List.getElem?_toArray, List.getElem?_cons_zero, List.getElem?_cons_succ]; rfl)
      go_simp
      refine hK.out _ _ (fun _ => hHeld) ?_
      clear hK K
      (try simp only [Act.put, List.setIfInBounds_toArray, List.set_cons_zero, List.set_cons_succ])
      refine' wpAnyT_one (i := 14) (o := ?oib14) (by kernel_rfl) ?hib14 (fun K hK => ?stb14)
      case hib14 => (simp only [List.getElem?_toArray, List.getElem?_cons_zero, List.getElem?_cons_succ]; rfl)
      go_simp
      refine hK.out _ _ (fun _ => hHeld) ?_
      clear hK K
      (try simp only [Act.put, List.setIfInBounds_toArray, List.set_cons_zero, List.set_cons_succ])
      refine' wpAnyT_one (i := 15) (o := ?oib15) (by kernel_rfl) ?hib15 (fun K hK => ?stb15)
      case hib15 => (simp only [List.getElem?_toArray, List.getElem?_cons_zero, List.getElem?_cons_succ]; rfl)
      go_simp
      obtain ⟨X4, hX4⟩ : ∃ X, X3.setCell ⟨p, 1, none⟩ (.slice C3 (Q + 1) d3) = X := ⟨_, rfl⟩
      rw [hX4]
      have HX4 : Hid (X4.heap[p]? = some (.cells #[.slice A n c, .slice C3 (Q + 1) d3] 35)) := hid (by
        rw [← hX4]
        exact box_set (cs := [.slice A n c, .slice C Q d]) HX3.out 1 _)
      have HOC4 := hid (show X4.ownsRow B 112 9 _ (Q + 1) _ by rw [← hX4]; exact own_keep HOC3.out (keep_box HX3.out (by decide) _ _))
      have HOS4 : Hid (X4.ownsRow B 57 8 (.slice A n c) n (st.map cSec).flatten) := hid (by rw [← hX4]; exact own_keep (own_keep HOS5.out (HK3.out 57 (by decide))) (keep_box HX3.out (by decide) _ _))
      have HY4 : Hid (X4.heap[h]? = some (.cells #[.int .i64 o0, .int .i64 at_, .slice (some ⟨b, off, none⟩) m dc] 75)) := hid (by
        have k1 : Keep 75 X3 X4 := by rw [← hX4]; exact keep_box HX3.out (by decide) _ _
        exact k1 _ _ (HK3.out 75 (by decide) _ _ HY5.out))
      have HKX4 : Hid (∀ T, T ≠ 112 → T ≠ 35 → Keep T w X4) := hid (fun T h1 h2 => ((HKW5.out T h1 h2).trans (HK3.out T h1)).trans (by rw [← hX4]; exact keep_box HX3.out h2 _ _))
      have HB4 : Hid (Below B W5 X4) := hid (by rw [← hX4]; exact HB3.out.setCell hBp _)
      clear hX4 y1 fy1
      refine hK.out _ _ (fun h => absurd h (by decide)) ?_
      clear hK K
      (try simp only [Act.put, List.setIfInBounds_toArray, List.set_cons_zero, List.set_cons_succ])
      refine wpAnyT_done (by kernel_rfl) ?_ _
      go_upto_region 7 with fail
      go_wp2_with fail
      go_roundw
      case rel =>
        refine ⟨_, _, _, _, _, _, _, _, _, _, _, _, _, _, _, _, _, _, _, _, _, _, _, ?_, rfl⟩
        exact ⟨q + 1, by omega, by go_num, hid ⟨C3, d3, by rw [show N + (q + 1) = Q + 1 from by omega]; exact HX4.out, by
        rw [show N + (q + 1) = Q + 1 from by omega, HTK.out, putL_snoc, ← List.append_assoc, List.map_append, List.flatten_append, show (data.take q).length = q from by rw [List.length_take, HD.out]; omega]
        simpa using HOC4.out⟩, HOS4, HY4, hid ⟨HBW5.out.trans HB4.out, HKX4.out⟩⟩
      case measure => simp [Go.RowKit.intOf]; omega
    · obtain rfl : m = q := by omega
      have hqn' : ¬ ((m : Nat) : Int) < (m : Int) := by omega
      have HXr := hid hxr
      have HOCr := hid hoc
      clear hxr hoc
      go_wp2_with fail
      go_ret
      refine ⟨HB.out, HBK.out.2, .inr ⟨HBI.out, rfl, _, _, ⟨HXr.out, ?_, ?_, HSS.out, ?_⟩⟩⟩
      · rw [HN.out]; exact HOS.out
      · have h := HOCr.out
        rw [show data.take m = data from List.take_of_length_le (by rw [HD.out]; exact Nat.le_refl _)] at h
        rw [List.length_append, putL_len, HM.out, HD.out]
        exact h
      · intro x hx
        rcases List.mem_append.1 hx with hx | hx
        · exact HCS.out x hx
        · exact putL_cas HDS.out ha0 (by rw [HD.out]; omega) x hx
end Go.Proofs.Ytnocgfhcamnjdaa
