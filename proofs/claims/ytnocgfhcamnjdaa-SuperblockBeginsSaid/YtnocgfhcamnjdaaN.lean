/- The operations of a disk; execute. -/
import Derived.Test.YtnocgfhcamnjdaaM
import Derived.Laws.EntriesVeiled
namespace Go.Proofs.Ytnocgfhcamnjdaa
open Go.RowKit Go.Lib

/-- An operation: its kind, where it writes, the slice that leads to its data, and these. -/
structure OpT where
  k : Int
  a : Int
  d : Value
  l : List Sect
def cOp (x : OpT) : List Value := [.int .i64 x.k, .int .i64 x.a, x.d]
def OpsA (w : World) (v : Value) (l : List OpT) : Prop := (∀ x ∈ l, Sec w x.d x.l ∧ NilOk x.d ∧ R64 x.k ∧ R64 x.a) ∧ Arr w v 3 (l.map cOp)
theorem OpsA.below {w w' : World} {v : Value} {l : List OpT} (h : OpsA w v l) (hb : Below w.heap.size w w') : OpsA w' v l := ⟨fun x hx => ⟨(h.1 x hx).1.below hb, (h.1 x hx).2⟩, h.2.below hb⟩
theorem ops_form {w : World} {v : Value} {l : List OpT} (h : OpsA w v l) : ∃ A c, v = .slice A l.length c := by
  obtain ⟨A, c, e⟩ := arr_form h.2
  rw [List.length_map] at e
  exact ⟨A, c, e⟩
theorem ops_at {w : World} {A : Option Addr} {n c : Nat} {l : List OpT} (h : OpsA w (.slice A n c) l) (hp : 0 < l.length) : ∃ b off, A = some ⟨b, off, none⟩ ∧ b < w.heap.size ∧ ∀ (k : Nat) (x : OpT), l[k]? = some x → ∀ (j : Nat) (u : Value), (cOp x)[j]? = some u → w.cell? ⟨b, off + k * 3 + j, none⟩ = some u := by
  obtain ⟨b, off, hA, hb, hc⟩ := arr_at1 h.2 (by rw [List.length_map]; exact hp)
  exact ⟨b, off, hA, hb, fun k x hx j u hj => hc k _ (by rw [List.getElem?_map, hx]; rfl) j u hj⟩
/-- How many sectors operations write. -/
def tot : List OpT → Nat
  | [] => 0
  | x :: r => x.l.length + tot r
/-- What operations do: how many, the error, the disk. -/
def exec : List Sect → List Ca → List OpT → Nat → Int × Int × List Sect × List Ca
  | st, ca, [], i => ((i : Int), 0, st, ca)
  | st, ca, x :: r, i => if x.k = 0 then (if insB st.length x.a x.l.length = true then exec st (ca ++ putL x.a x.l) r (i + 1) else ((i : Int), 2, [], [])) else if x.k = 1 then exec (newL st ca) [] r (i + 1) else ((i : Int), 1, [], [])
theorem exec_bad {st : List Sect} {ca : List Ca} {x : OpT} {r : List OpT} {i : Nat} (h0 : x.k ≠ 0) (h1 : x.k ≠ 1) : exec st ca (x :: r) i = ((i : Int), 1, [], []) := by
  rw [exec, if_neg h0, if_neg h1]
theorem exec_out {st : List Sect} {ca : List Ca} {x : OpT} {r : List OpT} {i : Nat} (h0 : x.k = 0) (h1 : insB st.length x.a x.l.length = false) : exec st ca (x :: r) i = ((i : Int), 2, [], []) := by
  rw [exec, if_pos h0, if_neg (by rw [h1]; decide)]
theorem exec_put {st : List Sect} {ca : List Ca} {x : OpT} {r : List OpT} {i : Nat} (h0 : x.k = 0) (h1 : insB st.length x.a x.l.length = true) : exec st ca (x :: r) i = exec st (ca ++ putL x.a x.l) r (i + 1) := by
  rw [exec, if_pos h0, if_pos h1]
theorem exec_sync {st : List Sect} {ca : List Ca} {x : OpT} {r : List OpT} {i : Nat} (h0 : x.k = 1) : exec st ca (x :: r) i = exec (newL st ca) [] r (i + 1) := by
  rw [exec, if_neg (by omega), if_pos h0]
theorem chkC_app {n : Nat} {a b : List Ca} (ha : chkC n a = 0) (hb : chkC n b = 0) : chkC n (a ++ b) = 0 := by
  induction a with
  | nil => exact hb
  | cons x r ih =>
    unfold chkC at ha
    split at ha
    · cases ha
    · rename_i h
      rw [List.cons_append, chkC, if_neg h]
      exact ih ha
theorem chkC_put {n : Nat} {at_ : Int} {l : List Sect} (h : insB n at_ l.length = true) : chkC n (putL at_ l) = 0 := by
  induction l generalizing at_ with
  | nil => rfl
  | cons s r ih =>
    unfold insB at h
    rw [List.length_cons] at h
    have h := of_decide_eq_true h
    rw [putL, chkC, if_neg, ih]
    · unfold insB
      exact decide_eq_true (by omega)
    · unfold insB
      dsimp only
      rw [decide_eq_true (by omega)]
      decide
/-- What execute leaves. -/
def ExecQ (B p : Nat) (r : Int × Int × List Sect × List Ca) (w : World) (e : Ending) (w' : World) : Prop :=
  Below B w w' ∧ e = .returned (.tuple #[.int .i64 r.1, .int .i64 r.2.1]) ∧ (r.2.1 = 0 → ∃ sv cv, DB w' B p r.2.2.1 r.2.2.2 sv cv)
set_option maxHeartbeats 8000000 in
set_option maxRecDepth 100000 in
theorem exec_any (B p : Nat) (st : List Sect) (ca : List Ca) (sv cv ov : Value) (ops : List OpT) (w0 w : World) (hd : DB w B p st ca sv cv) (hBp : B ≤ p) (hBw : B ≤ w.heap.size) (hw0 : Below w0.heap.size w0 w) (hw0B : w0.heap.size ≤ B) (hops : OpsA w0 ov ops) (hn4 : st.length ≤ 4096) (hk0 : chkC st.length ca = 0) (hca : ca.length + tot ops ≤ 500000) :
    Calls Try.prog 42 #[.pointer (some ⟨p, 0, none⟩), ov] w (ExecQ B p (exec st ca ops 0) w) := by
  obtain ⟨O, oc, rfl⟩ := ops_form hops
  obtain ⟨N, hN⟩ : ∃ n, ops.length = n := ⟨_, rfl⟩
  rw [hN] at hops ⊢
  have hNM : N ≤ 9223372036854775807 := by
    obtain ⟨_, h5, h6⟩ := arr_cap hops.2
    omega
  obtain ⟨r, hr⟩ : ∃ r, exec st ca ops 0 = r := ⟨_, rfl⟩
  rw [hr]
  obtain ⟨n, hn⟩ : ∃ n, st.length = n := ⟨_, rfl⟩
  obtain ⟨g, hg⟩ : ∃ h, w.heap.size = h := ⟨_, rfl⟩
  obtain ⟨W1, hW1⟩ : ∃ X, w.alloc (.cells #[.func (.func 59) #[] #[], .func (.func 60) #[] #[]] 117) = X := ⟨_, rfl⟩
  have hb1 : Below w.heap.size w W1 := by rw [← hW1]; exact al1 _ _
  have HY1 : Hid (W1.heap[g]? = some (.cells #[.func (.func 59) #[] #[], .func (.func 60) #[] #[]] 117)) := hid (by rw [← hW1, ← hg]; exact heap_alloc_new _ _)
  have HD1 : Hid (DB W1 B p st ca sv cv) := hid ⟨(hb1.block _ (box_lt hd.box)).trans hd.box, own_keep hd.os (keep_below hb1), own_keep hd.oc (keep_below hb1), hd.ss, hd.cs⟩
  have HB1 : Hid (Below B w W1) := hid (hb1.mono hBw)
  have hBW : B ≤ W1.heap.size := Nat.le_trans hBw hb1.size
  have HOP := hid hops
  have HLW := hid (fun X (hX : Below B w X) => hw0.trans (hX.mono hw0B))
  have HN := hid hN
  have HE0 := hid hr
  have HN4 := hid hn4
  have HSN := hid hn
  have HK0 := hid hk0
  have HCA := hid hca
  have HW1 := hid hW1
  have HG := hid hg
  clear hd hops hw0 hN hr hn hn4 hk0 hca hW1 hg hb1
  go_enter Try.func42, Try.ntmps42
  go_upto_region 2 with fail
  rw [HW1.out, HG.out]
  go_upto_region 3 with fail
  go_loopw [13] (fun iv wr => ∃ q : Nat, q ≤ N ∧ iv = .int .i64 (q : Int) ∧ Hid (∃ st' ca' sv' cv', DB wr B p st' ca' sv' cv' ∧ st'.length = n ∧ chkC n ca' = 0 ∧ ca'.length + tot (ops.drop q) ≤ 500000 ∧ exec st' ca' (ops.drop q) q = r) ∧ Hid (wr.heap[g]? = some (.cells #[.func (.func 59) #[] #[], .func (.func 60) #[] #[]] 117)) ∧ Hid (Below B w wr)) (fun i _ => N - (Go.RowKit.intOf i).toNat)
  case atStart => exact ⟨0, Nat.zero_le _, rfl, hid ⟨st, ca, sv, cv, HD1.out, HSN.out, by rw [← HSN.out]; exact HK0.out, HCA.out, HE0.out⟩, HY1, HB1⟩
  case round =>
    obtain ⟨q, hq, rfl, HX, HY, HB⟩ := hrel
    obtain ⟨st', ca', sv', cv', hdb, hln, hk, hcap, hex⟩ := HX.out
    have hwr : B ≤ wr.heap.size := Nat.le_trans hBw HB.out.size
    by_cases hqn : q < N
    · have hqn' : (q : Int) < (N : Int) := by omega
      have hopw := HOP.out.below (HLW.out wr HB.out)
      obtain ⟨b, off, rfl, hb, hcc⟩ := ops_at hopw (by rw [HN.out]; omega)
      obtain ⟨x, hx⟩ : ∃ x, ops[q]? = some x := ⟨ops[q]'(by rw [HN.out]; exact hqn), List.getElem?_eq_getElem _⟩
      obtain ⟨hs0, hsn, hrk, hra⟩ := HOP.out.1 x (List.mem_of_getElem? hx)
      have hdr := drop_cons hx
      rw [hdr] at hex hcap
      obtain ⟨k, a, dv, dl⟩ := x
      dsimp only at hs0 hsn hrk hra
      obtain ⟨dA, dc, rfl⟩ := sec_form hs0
      obtain ⟨m, hm⟩ : ∃ n, dl.length = n := ⟨_, rfl⟩
      have c2 := hcc q _ hx 2 (.slice dA dl.length dc) rfl
      rw [hm] at hs0 c2
      have c0 := hcc q _ hx 0 (.int .i64 k) rfl
      rw [Nat.add_zero] at c0
      have c1 := hcc q _ hx 1 (.int .i64 a) rfl
      obtain ⟨W5, hW5⟩ : ∃ X, wr.alloc (.cells #[.int .i64 k, .int .i64 a, .slice dA m dc] 75) = X := ⟨_, rfl⟩
      obtain ⟨h5, hh5⟩ : ∃ h, wr.heap.size = h := ⟨_, rfl⟩
      have hb5 : Below wr.heap.size wr W5 := by rw [← hW5]; exact al1 _ _
      have hz5 : W5.heap[h5]? = some (.cells #[.int .i64 k, .int .i64 a, .slice dA m dc] 75) := by rw [← hW5, ← hh5]; exact heap_alloc_new _ _
      have HY5 : Hid (W5.heap[g]? = some (.cells #[.func (.func 59) #[] #[], .func (.func 60) #[] #[]] 117)) := hid ((hb5.block _ (box_lt HY.out)).trans HY.out)
      have HDB5 : Hid (DB W5 B p st' ca' sv' cv') := hid ⟨(hb5.block _ (box_lt hdb.box)).trans hdb.box, own_keep hdb.os (keep_below hb5), own_keep hdb.oc (keep_below hb5), hdb.ss, hdb.cs⟩
      have HBW5 : Hid (Below B w W5) := hid (HB.out.trans (hb5.mono hwr))
      have hB5 : B ≤ W5.heap.size := Nat.le_trans hwr hb5.size
      have HW5 := hid hW5
      have HH5 := hid hh5
      have HEX := hid hex
      have HCP := hid hcap
      have HS0 := hid hs0
      have HRA := hid hra
      have HM := hid hm
      have HLN := hid hln
      have HKK := hid hk
      have y0 := cell_of_row _ _ 0 _ _ _ hz5
      have HZ5 := hid hz5
      clear hopw hcc hx hs0 hsn hra hdr hex hcap hm hW5 hh5 hb5 hz5 hdb hln hk
      by_cases hk0 : k = 0
      · subst hk0
        have HH : Hid (∀ X, Below W5.heap.size W5 X → X.cell? ⟨g, 0, none⟩ = some (.func (.func 59) #[] #[]) ∧ X.cell? ⟨h5, 0, none⟩ = some (.int .i64 0) ∧ X.cell? ⟨h5, 1, none⟩ = some (.int .i64 a) ∧ X.cell? ⟨h5, 2, none⟩ = some (.slice dA m dc)) := hid (fun X hX => by
          have g1 := (hX.block _ (box_lt HY5.out)).trans HY5.out
          have g2 := (hX.block _ (box_lt HZ5.out)).trans HZ5.out
          exact ⟨cell_of_row _ _ 0 _ _ _ g1, cell_of_row _ _ 0 _ _ _ g2, cell_of_row _ _ 1 _ _ _ g2, cell_of_row _ _ 2 _ _ _ g2⟩)
        have HPUT := hid (fun X (hX : Below W5.heap.size W5 X) (hBX : B ≤ X.heap.size) => put_any B p st' ca' sv' cv' 0 a (.slice dA m dc) dl w0 X ⟨(hX.block _ (box_lt HDB5.out.box)).trans HDB5.out.box, own_keep HDB5.out.os (keep_below hX), own_keep HDB5.out.oc (keep_below hX), HDB5.out.ss, HDB5.out.cs⟩ hBp hBX (HLW.out X (HBW5.out.trans (hX.mono hB5))) hw0B HS0.out (by rw [HLN.out]; have := HN4.out; have := HSN.out; omega) (by have := HCP.out; unfold tot at this; omega) HRA.out)
        obtain ⟨bi, hbi⟩ : ∃ b, insB n a (m : Int) = b := ⟨_, rfl⟩
        have HBI := hid hbi
        clear hbi
        obtain ⟨X0, hX0⟩ : ∃ X, W5.drew = X := ⟨_, rfl⟩
        have hB0 : Below W5.heap.size W5 X0 := by rw [← hX0]; exact (Below.refl W5.heap.size W5).drew
        have hHeld := HH.out X0 hB0
        go_upto_region 5 with fail
        rw [HW5.out, HH5.out]
        go_upto_region 7 with fail
        clear c0 c1 c2 y0
        refine region_tail 6 (fun X => X.cell? ⟨g, 0, none⟩ = some (.func (.func 59) #[] #[]) ∧ X.cell? ⟨h5, 0, none⟩ = some (.int .i64 0) ∧ X.cell? ⟨h5, 1, none⟩ = some (.int .i64 a) ∧ X.cell? ⟨h5, 2, none⟩ = some (.slice dA m dc)) (by kernel_rfl) ?_
        rw [hX0]
        clear hX0
        rcases bi with _ | _
        · skip
          refine' wpAnyT_take (i := 0) (oi := ?oip0) (v := ?vp0) ?hip0 (by kernel_rfl) (by kernel_rfl) ?hqp0 ?hyp0 hHeld ?restp0
          case hip0 => (simp only [List.getElem?_toArray, List.getElem?_cons_zero]; rfl)
          case hqp0 => exact fun _ _ _ h => h
          case hyp0 => (refine Or.inl ⟨by rfl, ?_⟩; intro w' hSw; (try dsimp only at hSw); go_simp; try with_reducible rfl)
          (try simp only [Act.put, List.setIfInBounds_toArray, List.set_cons_zero, List.set_cons_succ])
          refine' wpAnyT_take (i := 1) (oi := ?oip1) (v := ?vp1) ?hip1 (by kernel_rfl) (by kernel_rfl) ?hqp1 ?hyp1 hHeld ?restp1
          case hip1 => (simp only [List.getElem?_toArray, List.getElem?_cons_zero, List.getElem?_cons_succ]; rfl)
          case hqp1 => exact fun _ _ _ h => h
          case hyp1 => (refine Or.inl ⟨by rfl, ?_⟩; intro w' hSw; (try dsimp only at hSw); go_simp; try with_reducible rfl)
          (try simp only [Act.put, List.setIfInBounds_toArray, List.set_cons_zero, List.set_cons_succ])
          refine' wpAnyT_take (i := 2) (oi := ?oip2) (v := ?vp2) ?hip2 (by kernel_rfl) (by kernel_rfl) ?hqp2 ?hyp2 hHeld ?restp2
          case hip2 => (simp only [List.getElem?_toArray, List.getElem?_cons_zero, List.getElem?_cons_succ]; rfl)
          case hqp2 => exact fun _ _ _ h => h
          case hyp2 => (refine Or.inl ⟨by rfl, ?_⟩; intro w' hSw; (try dsimp only at hSw); go_simp; try with_reducible rfl)
          (try simp only [Act.put, List.setIfInBounds_toArray, List.set_cons_zero, List.set_cons_succ])
          refine' wpAnyT_take (i := 3) (oi := ?oip3) (v := ?vp3) ?hip3 (by kernel_rfl) (by kernel_rfl) ?hqp3 ?hyp3 hHeld ?restp3
          case hip3 => (simp only [List.getElem?_toArray, List.getElem?_cons_zero, List.getElem?_cons_succ]; rfl)
          case hqp3 => exact fun _ _ _ h => h
          case hyp3 => (refine Or.inl ⟨by rfl, ?_⟩; intro w' hSw; (try dsimp only at hSw); go_simp; try with_reducible rfl)
          (try simp only [Act.put, List.setIfInBounds_toArray, List.set_cons_zero, List.set_cons_succ])
          refine' wpAnyT_take (i := 4) (oi := ?oip4) (v := ?vp4) ?hip4 (by kernel_rfl) (by kernel_rfl) ?hqp4 ?hyp4 hHeld ?restp4
          case hip4 => (simp only [List.getElem?_toArray, List.getElem?_cons_zero, List.getElem?_cons_succ]; rfl)
          case hqp4 => exact fun _ _ _ h => h
          case hyp4 => (refine Or.inl ⟨by rfl, ?_⟩; intro w' hSw; (try dsimp only at hSw); go_simp; try with_reducible rfl)
          (try simp only [Act.put, List.setIfInBounds_toArray, List.set_cons_zero, List.set_cons_succ])
          refine' wpAnyT_take (i := 5) (oi := ?oip5) (v := ?vp5) ?hip5 (by kernel_rfl) (by kernel_rfl) ?hqp5 ?hyp5 hHeld ?restp5
          case hip5 => (simp only [List.getElem?_toArray, List.getElem?_cons_zero, List.getElem?_cons_succ]; rfl)
          case hqp5 => exact fun _ _ _ h => h
          case hyp5 => (refine Or.inl ⟨by rfl, ?_⟩; intro w' hSw; (try dsimp only at hSw); go_simp; try with_reducible rfl)
          (try simp only [Act.put, List.setIfInBounds_toArray, List.set_cons_zero, List.set_cons_succ])
          refine' wpAnyT_one (i := 6) (o := ?oip6) (by kernel_rfl) ?hip6 (fun K hK => ?stp6)
          case hip6 => (simp only [List.getElem?_toArray, List.getElem?_cons_zero, List.getElem?_cons_succ]; rfl)
          go_simp
          go_at_call 59
          refine (HPUT.out X0 hB0 (Nat.le_trans hB5 hB0.size)).mono ?_
          rintro e X1 ⟨hbp, hkp, hpo⟩
          have HBP : Hid (Below B w X1) := hid ((HBW5.out.trans (hB0.mono hB5)).trans hbp)
          have HYP : Hid (X1.heap[g]? = some (.cells #[.func (.func 59) #[] #[], .func (.func 60) #[] #[]] 117)) := hid (hkp 117 (by decide) (by decide) _ _ ((hB0.block _ (box_lt HY5.out)).trans HY5.out))
          rw [HLN.out, HM.out, HBI.out] at hpo
          clear hbp hkp hHeld hB0
          obtain ⟨_, rfl⟩ | ⟨hno, _⟩ := hpo
          rotate_left
          · cases hno
          refine hK.out _ _ (fun h => absurd h (by decide)) ?_
          clear hK K
          (try simp only [Act.put, List.setIfInBounds_toArray, List.set_cons_zero, List.set_cons_succ])
          refine' wpAnyT_one (i := 7) (o := ?oip7) (by kernel_rfl) ?hip7 (fun K hK => ?stp7)
          case hip7 => (simp only [List.getElem?_toArray, List.getElem?_cons_zero, List.getElem?_cons_succ]; rfl)
          go_simp
          refine hK.out _ _ (fun h => absurd h (by decide)) ?_
          clear hK K
          (try simp only [Act.put, List.setIfInBounds_toArray, List.set_cons_zero, List.set_cons_succ])
          refine wpAnyT_done (by kernel_rfl) ?_ _
          go_upto_region 8 with fail
          go_wp2_with fail
          go_ret2
          exact ⟨HBP.out, by rw [← HEX.out, exec_out rfl (by dsimp only; rw [HLN.out, HM.out]; exact HBI.out)]; rfl, fun h => by rw [← HEX.out, exec_out rfl (by dsimp only; rw [HLN.out, HM.out]; exact HBI.out)] at h; cases h⟩
        · skip
          refine' wpAnyT_take (i := 0) (oi := ?oio0) (v := ?vo0) ?hio0 (by kernel_rfl) (by kernel_rfl) ?hqo0 ?hyo0 hHeld ?resto0
          case hio0 => (simp only [List.getElem?_toArray, List.getElem?_cons_zero]; rfl)
          case hqo0 => exact fun _ _ _ h => h
          case hyo0 => (refine Or.inl ⟨by rfl, ?_⟩; intro w' hSw; (try dsimp only at hSw); go_simp; try with_reducible rfl)
          (try simp only [Act.put, List.setIfInBounds_toArray, List.set_cons_zero, List.set_cons_succ])
          refine' wpAnyT_take (i := 1) (oi := ?oio1) (v := ?vo1) ?hio1 (by kernel_rfl) (by kernel_rfl) ?hqo1 ?hyo1 hHeld ?resto1
          case hio1 => (simp only [List.getElem?_toArray, List.getElem?_cons_zero, List.getElem?_cons_succ]; rfl)
          case hqo1 => exact fun _ _ _ h => h
          case hyo1 => (refine Or.inl ⟨by rfl, ?_⟩; intro w' hSw; (try dsimp only at hSw); go_simp; try with_reducible rfl)
          (try simp only [Act.put, List.setIfInBounds_toArray, List.set_cons_zero, List.set_cons_succ])
          refine' wpAnyT_take (i := 2) (oi := ?oio2) (v := ?vo2) ?hio2 (by kernel_rfl) (by kernel_rfl) ?hqo2 ?hyo2 hHeld ?resto2
          case hio2 => (simp only [List.getElem?_toArray, List.getElem?_cons_zero, List.getElem?_cons_succ]; rfl)
          case hqo2 => exact fun _ _ _ h => h
          case hyo2 => (refine Or.inl ⟨by rfl, ?_⟩; intro w' hSw; (try dsimp only at hSw); go_simp; try with_reducible rfl)
          (try simp only [Act.put, List.setIfInBounds_toArray, List.set_cons_zero, List.set_cons_succ])
          refine' wpAnyT_take (i := 3) (oi := ?oio3) (v := ?vo3) ?hio3 (by kernel_rfl) (by kernel_rfl) ?hqo3 ?hyo3 hHeld ?resto3
          case hio3 => (simp only [List.getElem?_toArray, List.getElem?_cons_zero, List.getElem?_cons_succ]; rfl)
          case hqo3 => exact fun _ _ _ h => h
          case hyo3 => (refine Or.inl ⟨by rfl, ?_⟩; intro w' hSw; (try dsimp only at hSw); go_simp; try with_reducible rfl)
          (try simp only [Act.put, List.setIfInBounds_toArray, List.set_cons_zero, List.set_cons_succ])
          refine' wpAnyT_take (i := 4) (oi := ?oio4) (v := ?vo4) ?hio4 (by kernel_rfl) (by kernel_rfl) ?hqo4 ?hyo4 hHeld ?resto4
          case hio4 => (simp only [List.getElem?_toArray, List.getElem?_cons_zero, List.getElem?_cons_succ]; rfl)
          case hqo4 => exact fun _ _ _ h => h
          case hyo4 => (refine Or.inl ⟨by rfl, ?_⟩; intro w' hSw; (try dsimp only at hSw); go_simp; try with_reducible rfl)
          (try simp only [Act.put, List.setIfInBounds_toArray, List.set_cons_zero, List.set_cons_succ])
          refine' wpAnyT_take (i := 5) (oi := ?oio5) (v := ?vo5) ?hio5 (by kernel_rfl) (by kernel_rfl) ?hqo5 ?hyo5 hHeld ?resto5
          case hio5 => (simp only [List.getElem?_toArray, List.getElem?_cons_zero, List.getElem?_cons_succ]; rfl)
          case hqo5 => exact fun _ _ _ h => h
          case hyo5 => (refine Or.inl ⟨by rfl, ?_⟩; intro w' hSw; (try dsimp only at hSw); go_simp; try with_reducible rfl)
          (try simp only [Act.put, List.setIfInBounds_toArray, List.set_cons_zero, List.set_cons_succ])
          refine' wpAnyT_one (i := 6) (o := ?oio6) (by kernel_rfl) ?hio6 (fun K hK => ?sto6)
          case hio6 => (simp only [List.getElem?_toArray, List.getElem?_cons_zero, List.getElem?_cons_succ]; rfl)
          go_simp
          go_at_call 59
          refine (HPUT.out X0 hB0 (Nat.le_trans hB5 hB0.size)).mono ?_
          rintro e X1 ⟨hbp, hkp, hpo⟩
          have HBP : Hid (Below B w X1) := hid ((HBW5.out.trans (hB0.mono hB5)).trans hbp)
          have HYP : Hid (X1.heap[g]? = some (.cells #[.func (.func 59) #[] #[], .func (.func 60) #[] #[]] 117)) := hid (hkp 117 (by decide) (by decide) _ _ ((hB0.block _ (box_lt HY5.out)).trans HY5.out))
          rw [HLN.out, HM.out, HBI.out] at hpo
          clear hbp hkp hHeld hB0
          obtain ⟨hno, _⟩ | ⟨_, rfl, hdd⟩ := hpo
          · cases hno
          have HDBP := hid hdd
          clear hdd
          refine hK.out _ _ (fun h => absurd h (by decide)) ?_
          clear hK K
          (try simp only [Act.put, List.setIfInBounds_toArray, List.set_cons_zero, List.set_cons_succ])
          refine' wpAnyT_one (i := 7) (o := ?oio7) (by kernel_rfl) ?hio7 (fun K hK => ?sto7)
          case hio7 => (simp only [List.getElem?_toArray, List.getElem?_cons_zero, List.getElem?_cons_succ]; rfl)
          go_simp
          refine hK.out _ _ (fun h => absurd h (by decide)) ?_
          clear hK K
          (try simp only [Act.put, List.setIfInBounds_toArray, List.set_cons_zero, List.set_cons_succ])
          refine wpAnyT_done (by kernel_rfl) ?_ _
          go_upto_region 8 with fail
          go_wp2_with fail
          go_roundw
          case rel =>
            exact ⟨q + 1, by omega, by go_num, hid ⟨st', ca' ++ putL a dl, _, _, HDBP.out.choose_spec.choose_spec, HLN.out, chkC_app HKK.out (chkC_put (by rw [HM.out]; exact HBI.out)), by have := HCP.out; unfold tot at this; dsimp only at this; rw [List.length_append, putL_len]; omega, by rw [← HEX.out, exec_put rfl (by dsimp only; rw [HLN.out, HM.out]; exact HBI.out)]⟩, HYP, HBP⟩
          case measure => simp [Go.RowKit.intOf]; omega
      by_cases hk1 : k = 1
      · subst hk1
        have HH : Hid (∀ X, Below W5.heap.size W5 X → X.cell? ⟨g, 1, none⟩ = some (.func (.func 60) #[] #[]) ∧ X.cell? ⟨h5, 0, none⟩ = some (.int .i64 1) ∧ X.cell? ⟨h5, 1, none⟩ = some (.int .i64 a) ∧ X.cell? ⟨h5, 2, none⟩ = some (.slice dA m dc)) := hid (fun X hX => by
          have g1 := (hX.block _ (box_lt HY5.out)).trans HY5.out
          have g2 := (hX.block _ (box_lt HZ5.out)).trans HZ5.out
          exact ⟨cell_of_row _ _ 1 _ _ _ g1, cell_of_row _ _ 0 _ _ _ g2, cell_of_row _ _ 1 _ _ _ g2, cell_of_row _ _ 2 _ _ _ g2⟩)
        have HFL := hid (fun X (hX : Below W5.heap.size W5 X) (hBX : B ≤ X.heap.size) => flush_any B p st' ca' sv' cv' 1 a dA m dc X ⟨(hX.block _ (box_lt HDB5.out.box)).trans HDB5.out.box, own_keep HDB5.out.os (keep_below hX), own_keep HDB5.out.oc (keep_below hX), HDB5.out.ss, HDB5.out.cs⟩ hBp hBX (by rw [HLN.out]; exact HKK.out))
        obtain ⟨X0, hX0⟩ : ∃ X, W5.drew = X := ⟨_, rfl⟩
        have hB0 : Below W5.heap.size W5 X0 := by rw [← hX0]; exact (Below.refl W5.heap.size W5).drew
        have hHeld := HH.out X0 hB0
        go_upto_region 5 with fail
        rw [HW5.out, HH5.out]
        go_upto_region 7 with fail
        clear c0 c1 c2 y0
        refine region_tail 6 (fun X => X.cell? ⟨g, 1, none⟩ = some (.func (.func 60) #[] #[]) ∧ X.cell? ⟨h5, 0, none⟩ = some (.int .i64 1) ∧ X.cell? ⟨h5, 1, none⟩ = some (.int .i64 a) ∧ X.cell? ⟨h5, 2, none⟩ = some (.slice dA m dc)) (by kernel_rfl) ?_
        rw [hX0]
        clear hX0
        refine' wpAnyT_take (i := 0) (oi := ?oif0) (v := ?vf0) ?hif0 (by kernel_rfl) (by kernel_rfl) ?hqf0 ?hyf0 hHeld ?restf0
        case hif0 => (simp only [List.getElem?_toArray, List.getElem?_cons_zero]; rfl)
        case hqf0 => exact fun _ _ _ h => h
        case hyf0 => (refine Or.inl ⟨by rfl, ?_⟩; intro w' hSw; (try dsimp only at hSw); go_simp; try with_reducible rfl)
        (try simp only [Act.put, List.setIfInBounds_toArray, List.set_cons_zero, List.set_cons_succ])
        refine' wpAnyT_take (i := 1) (oi := ?oif1) (v := ?vf1) ?hif1 (by kernel_rfl) (by kernel_rfl) ?hqf1 ?hyf1 hHeld ?restf1
        case hif1 => (simp only [List.getElem?_toArray, List.getElem?_cons_zero, List.getElem?_cons_succ]; rfl)
        case hqf1 => exact fun _ _ _ h => h
        case hyf1 => (refine Or.inl ⟨by rfl, ?_⟩; intro w' hSw; (try dsimp only at hSw); go_simp; try with_reducible rfl)
        (try simp only [Act.put, List.setIfInBounds_toArray, List.set_cons_zero, List.set_cons_succ])
        refine' wpAnyT_take (i := 2) (oi := ?oif2) (v := ?vf2) ?hif2 (by kernel_rfl) (by kernel_rfl) ?hqf2 ?hyf2 hHeld ?restf2
        case hif2 => (simp only [List.getElem?_toArray, List.getElem?_cons_zero, List.getElem?_cons_succ]; rfl)
        case hqf2 => exact fun _ _ _ h => h
        case hyf2 => (refine Or.inl ⟨by rfl, ?_⟩; intro w' hSw; (try dsimp only at hSw); go_simp; try with_reducible rfl)
        (try simp only [Act.put, List.setIfInBounds_toArray, List.set_cons_zero, List.set_cons_succ])
        refine' wpAnyT_take (i := 3) (oi := ?oif3) (v := ?vf3) ?hif3 (by kernel_rfl) (by kernel_rfl) ?hqf3 ?hyf3 hHeld ?restf3
        case hif3 => (simp only [List.getElem?_toArray, List.getElem?_cons_zero, List.getElem?_cons_succ]; rfl)
        case hqf3 => exact fun _ _ _ h => h
        case hyf3 => (refine Or.inl ⟨by rfl, ?_⟩; intro w' hSw; (try dsimp only at hSw); go_simp; try with_reducible rfl)
        (try simp only [Act.put, List.setIfInBounds_toArray, List.set_cons_zero, List.set_cons_succ])
        refine' wpAnyT_take (i := 4) (oi := ?oif4) (v := ?vf4) ?hif4 (by kernel_rfl) (by kernel_rfl) ?hqf4 ?hyf4 hHeld ?restf4
        case hif4 => (simp only [List.getElem?_toArray, List.getElem?_cons_zero, List.getElem?_cons_succ]; rfl)
        case hqf4 => exact fun _ _ _ h => h
        case hyf4 => (refine Or.inl ⟨by rfl, ?_⟩; intro w' hSw; (try dsimp only at hSw); go_simp; try with_reducible rfl)
        (try simp only [Act.put, List.setIfInBounds_toArray, List.set_cons_zero, List.set_cons_succ])
        refine' wpAnyT_take (i := 5) (oi := ?oif5) (v := ?vf5) ?hif5 (by kernel_rfl) (by kernel_rfl) ?hqf5 ?hyf5 hHeld ?restf5
        case hif5 => (simp only [List.getElem?_toArray, List.getElem?_cons_zero, List.getElem?_cons_succ]; rfl)
        case hqf5 => exact fun _ _ _ h => h
        case hyf5 => (refine Or.inl ⟨by rfl, ?_⟩; intro w' hSw; (try dsimp only at hSw); go_simp; try with_reducible rfl)
        (try simp only [Act.put, List.setIfInBounds_toArray, List.set_cons_zero, List.set_cons_succ])
        refine' wpAnyT_one (i := 6) (o := ?oif6) (by kernel_rfl) ?hif6 (fun K hK => ?stf6)
        case hif6 => (simp only [List.getElem?_toArray, List.getElem?_cons_zero, List.getElem?_cons_succ]; rfl)
        go_simp
        go_at_call 60
        refine (HFL.out X0 hB0 (Nat.le_trans hB5 hB0.size)).mono ?_
        rintro e X1 ⟨rfl, hdf, hbf, hkf⟩
        have HBF : Hid (Below B w X1) := hid ((HBW5.out.trans (hB0.mono hB5)).trans hbf)
        have HYF : Hid (X1.heap[g]? = some (.cells #[.func (.func 59) #[] #[], .func (.func 60) #[] #[]] 117)) := hid (hkf 117 (by decide) (by decide) _ _ ((hB0.block _ (box_lt HY5.out)).trans HY5.out))
        have HDBF := hid hdf
        clear hdf hbf hkf hHeld hB0
        refine hK.out _ _ (fun h => absurd h (by decide)) ?_
        clear hK K
        (try simp only [Act.put, List.setIfInBounds_toArray, List.set_cons_zero, List.set_cons_succ])
        refine' wpAnyT_one (i := 7) (o := ?oif7) (by kernel_rfl) ?hif7 (fun K hK => ?stf7)
        case hif7 => (simp only [List.getElem?_toArray, List.getElem?_cons_zero, List.getElem?_cons_succ]; rfl)
        go_simp
        refine hK.out _ _ (fun h => absurd h (by decide)) ?_
        clear hK K
        (try simp only [Act.put, List.setIfInBounds_toArray, List.set_cons_zero, List.set_cons_succ])
        refine wpAnyT_done (by kernel_rfl) ?_ _
        go_upto_region 8 with fail
        go_wp2_with fail
        go_roundw
        case rel =>
          exact ⟨q + 1, by omega, by go_num, hid ⟨newL st' ca', [], _, _, HDBF.out, by rw [newL_len]; exact HLN.out, rfl, by have := HCP.out; unfold tot at this; rw [List.length_nil]; omega, by rw [← HEX.out, exec_sync rfl]⟩, HYF, HBF⟩
        case measure => simp [Go.RowKit.intOf]; omega
      · by_cases hneg : k < 0
        · have d0 : decide (k < 0) = true := decide_eq_true hneg
          go_upto_region 5 with fail
          rw [HW5.out, HH5.out]
          go_wp2_with fail
          go_ret2
          exact ⟨HBW5.out, by rw [← HEX.out, exec_bad hk0 hk1]; rfl, fun h => by rw [← HEX.out, exec_bad hk0 hk1] at h; cases h⟩
        · have d0 : decide (k < 0) = false := decide_eq_false hneg
          have d1 : decide (2 ≤ k) = true := decide_eq_true (by omega)
          go_upto_region 5 with fail
          rw [HW5.out, HH5.out]
          go_wp2_with fail
          go_ret2
          exact ⟨HBW5.out, by rw [← HEX.out, exec_bad hk0 hk1]; rfl, fun h => by rw [← HEX.out, exec_bad hk0 hk1] at h; cases h⟩
    · obtain rfl : N = q := by omega
      have hqn' : ¬ ((N : Nat) : Int) < (N : Int) := by omega
      have HDB := hid hdb
      have HEX := hid (show exec st' ca' [] N = r from by rw [← hex, List.drop_of_length_le (by rw [HN.out]; exact Nat.le_refl _)])
      clear hdb hex
      go_wp2_with fail
      go_ret2
      exact ⟨HB.out, by rw [← HEX.out]; rfl, fun _ => by rw [← HEX.out]; exact ⟨_, _, HDB.out⟩⟩
end Go.Proofs.Ytnocgfhcamnjdaa
