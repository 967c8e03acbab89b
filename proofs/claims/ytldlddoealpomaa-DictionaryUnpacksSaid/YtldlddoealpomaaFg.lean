/- Regions that write within a round; Chunk. -/
import Derived.Test.YtldlddoealpomaaFf
namespace Go.Proofs.Ytldlddoealpomaa
open Go.RowKit Go.Lib Go.Shelf
section
variable {P : Program} {ops : Array Oper} {Q : Exit → Act → World → Prop}
def calmOps (ops : Array Oper) : Bool := ops.all fun o => match o.op with | .defer _ => false | _ => true
theorem calm_of {ops : Array Oper} (h : calmOps ops = true) {i : Nat} {o : Oper} (ho : ops[i]? = some o) : ∀ c, o.op ≠ .defer c := by
  intro c hc
  unfold calmOps at h
  rw [Array.all_eq_true] at h
  obtain ⟨hi, he⟩ := Array.getElem?_eq_some_iff.1 ho
  have := h i hi
  rw [he, hc] at this
  cases this
theorem upon_round {k : Nat} {o : Oper} {a : Act} {K : Act → World → Prop} {Q : Exit → Act → World → Prop} (l : Nat) : ∀ r : Result Next, o.upon P a K Q r → o.uponIn (Fence.wide.inRound l) k P a K Q r
  | .ok (.value _) _, h => h
  | .ok .skip _, h => h
  | .ok (.defer _) _, h => h
  | .ok (.enter _ _) _, h => ⟨fun hd => by simp [Fence.wide, Fence.inRound] at hd, CallsIn.inRound l (callsIn_wide.2 h)⟩
  | .ok (.row _ _) _, h => ⟨fun hd => by simp [Fence.wide, Fence.inRound] at hd, fun c cs _ => let ⟨v, w', r, s⟩ := h c cs; ⟨v, w', r, (stepsIn_wide.2 s)⟩⟩
  | .ok (.round ..) _, h => h.elim
  | .ok (.coroswitch ..) _, h => h.elim
  | .halt hl _, h => by cases hl <;> exact h
theorem op_round {k : Nat} {o : Oper} {a : Act} {w : World} {K : Act → World → Prop} {Q : Exit → Act → World → Prop} (l : Nat) (ho : ∀ c, o.op ≠ .defer c) (h : o.wp P a w K Q) : o.wpIn (Fence.wide.inRound l) k P a w K Q :=
  ⟨fun _ _ => trivial, by
    show o.uponIn (Fence.wide.inRound l) k P a K Q ((o.semAt (some l) a.eval).run P w)
    rw [Oper.semAt_some l _ o ho]
    exact upon_round l _ h⟩
theorem opAt_round {k : Nat} {ops : Array Oper} {i : Nat} {a : Act} {w : World} {K : Act → World → Prop} {Q : Exit → Act → World → Prop} (l : Nat) (hQ : ¬ LetsOut Q) (hc : calmOps ops = true) (h : wpOp P ops Q i K a w) : wpOpIn (Fence.wide.inRound l) k P ops Q i K a w := by
  unfold wpOp at h
  unfold wpOpIn
  split
  · rename_i ho; simp only [ho] at h; exact h
  · rename_i o ho
    simp only [ho] at h
    split
    · rename_i hw
      simp only [hw, if_true] at h
      exact op_round l (calm_of hc ho) (h.resolve_right fun h2 => hQ h2.2)
    · rename_i hw
      simp only [hw] at h
      exact ⟨fun _ _ => trivial, h⟩
theorem any_round {k : Nat} {ops : Array Oper} {md : Region.Mode} {Q : Exit → Act → World → Prop} (l : Nat) (hQ : ¬ LetsOut Q) (hc : calmOps ops = true) : ∀ (fuel : Nat) (listed : Array Bool) (a : Act) (w : World),
    wpAny P md ops Q fuel listed a w → wpAnyIn (Fence.wide.inRound l) k P md ops Q fuel listed a w
  | 0, _, _, _, h => h
  | fuel + 1, _, _, _, h => ⟨h.1, fun i hi => wpOpIn_mono (fun a' w' h' => any_round l hQ hc fuel _ a' w' h') (opAt_round l hQ hc (h.2 i hi))⟩
theorem round_tail {id k l0 : Nat} {a : Act} {w : World} (n : Nat) (S : World → Prop) (hm : P.follows .mixedOrders = true) (hQ : ¬ LetsOut Q) (hc : calmOps ops = true)
    (h : wpAnyT P .any ops Q S n ops.size (Array.replicate ops.size false) a w.drew) : (Code.region id ops true).wpIn (Fence.wide.inRound l0) k P Q a w :=
  wpIn_region_any hm (any_round l0 hQ hc _ _ _ _ (wpAny_of_T _ _ _ _ h))
end
attribute [local go_sem] Oper.semAt_some
theorem run_three (b off n c lo hi : Nat) (h1 : lo < hi) (h2 : hi ≤ n) (h3 : n ≤ c) (W : World) : (Instr.slice 22 (.slice (some ⟨b, off, none⟩) n c) (some (.int .i64 (lo : Int))) (some (.int .i64 (hi : Int))) (some (.int .i64 (hi : Int)))).run Try.prog W = .ok (.slice (some ⟨b, off + lo, none⟩) (hi - lo) (hi - lo)) W := by
  have hne : ¬ hi = lo := by omega
  simp [Instr.slice, run_underlying Try.underlying22, Instr.sliceBounds, Sem.run_bind, run_sliceBound_if, Nat.le_of_lt h1, Nat.le_trans h2 h3, hne, Addr.add]
/-- A list in pieces of 127. -/
def ck : Nat → List Nat → List (List Nat)
  | 0, _ => []
  | f + 1, l => if l = [] then [] else l.take 127 :: ck f (l.drop 127)
def tk (l : List Nat) : List Nat := [l.length] ++ l
theorem lt_ck : ∀ (f : Nat) (l : List Nat), lt f l = ((ck f l).map tk).flatten
  | 0, _ => rfl
  | f + 1, l => by
    rw [lt, ck]
    split
    · rfl
    · rw [List.map_cons, List.flatten_cons, ← lt_ck f, tk, List.length_take, Nat.min_comm]
      simp
theorem ck_len : ∀ (f : Nat) (l : List Nat), (ck f l).length ≤ l.length
  | 0, _ => Nat.zero_le _
  | f + 1, l => by
    rw [ck]
    split
    · simp
    · rename_i h
      have := ck_len f (l.drop 127)
      have h0 := List.length_pos_iff.2 h
      rw [List.length_drop] at this
      rw [List.length_cons]
      omega
theorem ck_more : ∀ (f f' : Nat) (l : List Nat), l.length ≤ f → l.length ≤ f' → ck f l = ck f' l
  | 0, 0, _, _, _ => rfl
  | 0, f' + 1, l, h, _ => by rw [ck, ck, if_pos (List.eq_nil_of_length_eq_zero (Nat.le_zero.1 h))]
  | f + 1, 0, l, _, h => by rw [ck, ck, if_pos (List.eq_nil_of_length_eq_zero (Nat.le_zero.1 h))]
  | f + 1, f' + 1, l, h, h' => by
    rw [ck, ck]
    split
    · rfl
    · rename_i h0
      have := List.length_pos_iff.2 h0
      rw [ck_more f f' (l.drop 127) (by rw [List.length_drop]; omega) (by rw [List.length_drop]; omega)]
/-- A piece that can be read. -/
structure Pc where
  b : Nat
  o : Nat
  g : List Nat
def PcOk (w : World) (x : Pc) : Prop := x.g ≠ [] ∧ x.g.length ≤ 127 ∧ Byt w (.slice (some ⟨x.b, x.o, none⟩) x.g.length x.g.length) x.g
abbrev PcOf (w : World) := {x : Pc // PcOk w x}
def pcs {w : World} (ys : List (PcOf w)) : List (List Nat) := ys.map fun y => y.1.g
theorem pcs_snoc {w : World} (ys : List (PcOf w)) (y : PcOf w) : pcs (ys ++ [y]) = pcs ys ++ [y.1.g] := by simp [pcs]
def Kc (A B : World) : Prop := Keep 22 A B ∧ Keep 3 A B
theorem Kc.trans {A B C : World} (h : Kc A B) (k : Kc B C) : Kc A C := ⟨h.1.trans k.1, h.2.trans k.2⟩
def ChunkS (n : Nat) (lb : Array Value) (w0 : World) (l : List Nat) (bb : Option Nat) (w : World) : Prop :=
  SeqStopsK Fence.wide n Try.prog 66 lb (fun x : {y : PcOf w0 // some y.1.b = bb} => #[.slice (some ⟨x.1.1.b, x.1.1.o, none⟩) x.1.1.g.length x.1.1.g.length]) Kc (fun ys => pcs (ys.map Subtype.val) = ck l.length l) (fun _ => True) l.length w
theorem byt_piece {w : World} {b off n c lo hi : Nat} {l : List Nat} (h : Byt w (.slice (some ⟨b, off, none⟩) n c) l) (hn : l.length = n) (h1 : lo < hi) (h2 : hi ≤ n) : Byt w (.slice (some ⟨b, off + lo, none⟩) (hi - lo) (hi - lo)) ((l.drop lo).take (hi - lo)) := by
  have hl : ((l.drop lo).take (hi - lo)).length = hi - lo := by rw [List.length_take, List.length_drop]; omega
  obtain ⟨h8, A, cap, e, hc1, hc2, b', off', hA, hc⟩ := h
  injection e with e1 e2 e3
  subst e1 e3
  obtain ⟨e4, e5⟩ := hA (by omega)
  injection e4 with e4
  obtain ⟨rfl, rfl⟩ : b = b' ∧ off = off' := by injection e4 with p q; exact ⟨p, q⟩
  refine ⟨b8_take (b8_drop h8 lo) _, some ⟨b, off + lo, none⟩, hi - lo, by rw [hl], by omega, by omega, b, off + lo, fun _ => ⟨rfl, e5⟩, fun i y hi' => ?_⟩
  rw [List.getElem?_take] at hi'
  split at hi'
  · rw [List.getElem?_drop] at hi'
    have := hc (lo + i) y hi'
    rw [Nat.add_assoc]
    exact this
  · cases hi'
theorem drop_step {l : List Nat} {k m : Nat} : (l.drop k).drop m = l.drop (k + m) := List.drop_drop ..

set_option maxHeartbeats 2000000 in
set_option maxRecDepth 100000 in
theorem chunk_streams (n Bs : Nat) (l : List Nat) (A : Option Addr) (N c : Nat) (w0 w : World) (hn : 1 ≤ n) (hv : Byt w0 (.slice A N c) l) (hN : l.length = N) (hl : N ≤ 1000000000) (hb1 : w.heap[Bs]? = some (.cells #[.slice A N c] 22)) (hb2 : w.heap[Bs + 1]? = some (.cells #[.int .i64 127] 3)) :
    ChunkS n #[.pointer (some ⟨Bs, 0, none⟩), .pointer (some ⟨Bs + 1, 0, none⟩)] w0 l (A.map Addr.block) w := by
  intro l0 J Jx W hW hJ hJx hY h0
  have hx1 := (hW.block Bs (box_lt hb1)).trans hb1
  have hx2 := (hW.block (Bs + 1) (box_lt hb2)).trans hb2
  have hcap : N ≤ c := by have := byt_cap hv; omega
  have HY := hid hY
  have HJ0 := hid hJ
  have HN := hid hN
  have HV := hid hv
  have HX1 := hid hx1
  have HX2 := hid hx2
  clear hY hJ hJx hW hv hN hb1 hb2 hx1 hx2
  refine callsIn_of_wp Try.func66 rfl trivial ?_ rfl
  simp only [Try.ntmps66, List.size_toArray, List.length_cons, List.length_nil, Nat.reduceAdd, Nat.reduceSub, Array.replicate_succ, Array.replicate_zero, List.push_toArray, List.append_toArray, List.nil_append, List.cons_append]
  gi_wp2
  gi_loopw [4] (fun i wr => ∃ (k : Nat) (pre : List {y : PcOf w0 // some y.1.b = A.map Addr.block}), k ≤ N + 127 ∧ i = .int .i64 (k : Int) ∧ Hid (pcs (pre.map Subtype.val) ++ ck (l.drop k).length (l.drop k) = ck l.length l) ∧ Hid (J pre wr) ∧ Hid (wr.heap[Bs]? = some (.cells #[.slice A N c] 22)) ∧ Hid (wr.heap[Bs + 1]? = some (.cells #[.int .i64 127] 3))) (fun i _ => (N + 200) - (Lib.intOf i).toNat)
  case atStart => exact ⟨0, [], by omega, rfl, hid rfl, hid h0, HX1, HX2⟩
  case round =>
    clear h0 HX1 HX2
    obtain ⟨k, pre, hk, rfl, HE, HJ, HX1, HX2⟩ := hrel
    have c1 := cell_of_row _ _ 0 _ _ _ HX1.out
    have c2 := cell_of_row _ _ 0 _ _ _ HX2.out
    by_cases hkn : k < N
    · have hkn' : (k : Int) < (N : Int) := by omega
      obtain ⟨b, off, rfl, hbl, _⟩ := byt_at HV.out (by rw [HN.out]; omega)
      obtain ⟨m, hm⟩ : ∃ m, min 127 (N - k) = m := ⟨_, rfl⟩
      obtain ⟨hi, hhi⟩ : ∃ hi, k + m = hi := ⟨_, rfl⟩
      have hm1 : 0 < m := by omega
      have hfr : fromA (some ⟨b, off, none⟩) c k = some ⟨b, off + k, none⟩ := by unfold fromA; rw [if_neg (by omega)]; simp [Addr.add]
      have hs1 := run_slice_from (some ⟨b, off, none⟩) N c k (by omega)
      rw [hfr] at hs1
      have hs3 := run_three b off N c k hi (by omega) (by omega) hcap
      have hwm : IntKind.i64.wrap ((k : Int) + (m : Int)) = (hi : Int) := by rw [IntKind.wrap_i64]; omega
      have hmin : min (127 : Int) ((N - k : Nat) : Int) = (m : Int) := by omega
      have hwk : IntKind.i64.wrap ((k : Int) + 127) = ((k + 127 : Nat) : Int) := by rw [IntKind.wrap_i64]; omega
      have hpl : ((l.drop k).take 127).length = m := by rw [List.length_take, List.length_drop, HN.out]; exact hm
      have hdn : l.drop k ≠ [] := fun e => by have := congrArg List.length e; rw [List.length_drop, HN.out] at this; simp at this; omega
      have hpb : Byt w0 (.slice (some ⟨b, off + k, none⟩) (hi - k) (hi - k)) ((l.drop k).take 127) := by
        have h := byt_piece HV.out HN.out (lo := k) (hi := hi) (by omega) (by omega)
        have e : (l.drop k).take (hi - k) = (l.drop k).take 127 := by
          rw [show hi - k = m by omega, ← hm, List.take_eq_take_iff, List.length_drop, HN.out]; omega
        rw [e] at h
        exact h
      have hmk : hi - k = m := by omega
      rw [hmk] at hpb hs3
      have hok : PcOk w0 ⟨b, off + k, (l.drop k).take 127⟩ := ⟨fun e => by have e' : (l.drop k).take 127 = [] := e; rw [e'] at hpl; simp at hpl; omega, by dsimp only; rw [hpl]; omega, by dsimp only; rw [hpl]; exact hpb⟩
      have HE2 : Hid (pcs ((pre ++ [(⟨⟨⟨b, off + k, (l.drop k).take 127⟩, hok⟩, rfl⟩ : {y : PcOf w0 // some y.1.b = (some (⟨b, off, none⟩ : Addr)).map Addr.block})]).map Subtype.val) ++ ck (l.drop (k + 127)).length (l.drop (k + 127)) = ck l.length l) := hid (by
        rw [List.map_append, List.map_singleton, pcs_snoc, List.append_assoc, List.singleton_append, ← HE.out]
        congr 1
        obtain ⟨f, hf⟩ : ∃ f, (l.drop k).length = f + 1 := ⟨(l.drop k).length - 1, by have := List.length_pos_iff.2 hdn; omega⟩
        rw [hf, ck, if_neg hdn, drop_step]
        congr 1
        exact ck_more _ _ _ (Nat.le_refl _) (by have e : (l.drop (k + 127)).length = (l.drop k).length - 127 := by rw [List.length_drop, List.length_drop]; omega
                                                omega))
      gi_wp2_with fail
      gi_quiet (fail)
      gi_wp2_with fail
      obtain ⟨fn, tmps, assign, body, hy2, hR⟩ := HY.out pre (⟨⟨⟨b, off + k, (l.drop k).take 127⟩, hok⟩, rfl⟩ : {y : PcOf w0 // some y.1.b = (some (⟨b, off, none⟩ : Addr)).map Addr.block}) (wr.drewN nq) (HJ0.out _ _ _ none HJ.out ⟨rfl, rfl, rfl, Nat.le_refl _, fun _ _ _ => rfl⟩ (fun r e => by cases e)) (by
        have h := congrArg List.length HE.out
        have h1 := ck_len l.length l
        have h2 : 0 < (ck (l.drop k).length (l.drop k)).length := by
          obtain ⟨f, hf⟩ : ∃ f, (l.drop k).length = f + 1 := ⟨(l.drop k).length - 1, by have := List.length_pos_iff.2 hdn; omega⟩
          rw [hf, ck, if_neg hdn]; simp
        rw [List.length_append] at h
        have h3 : (pcs (pre.map Subtype.val)).length = pre.length := by simp [pcs]
        rw [HN.out] at h h1 ⊢
        omega)
      have HR := hid hR
      dsimp only at hy2
      rw [hpl] at hy2
      clear hR
      rw [hy2]
      refine ⟨fun hd => by simp [Fence.wide] at hd, ?_⟩
      refine HR.out.mono ?_
      rintro e W3 (⟨rfl, hJ3, hk3⟩ | ⟨rfl, hJx3⟩)
      · have HJ3 := hid hJ3
        have HX3 := hid (hk3.1 _ _ (show (wr.drewN nq).heap[Bs]? = _ from HX1.out))
        have HX4 := hid (hk3.2 _ _ (show (wr.drewN nq).heap[Bs + 1]? = _ from HX2.out))
        have c2 : W3.cell? ⟨Bs + 1, 0, none⟩ = some (.int .i64 127) := cell_of_row _ _ 0 _ _ _ HX4.out
        clear hJ3 hk3 HJ HR hy2 c1 hs1 hs3 hwm hmin
        gi_wp2
        go_roundw
        case rel => exact ⟨k + 127, _, by omega, by go_num, HE2, HJ3, HX3, HX4⟩
        case measure => simp [Lib.intOf]; omega
      · gi_wp2
        refine bodyPost_ret (results_none rfl _ _ _) rfl ?_
        exact ⟨⟨_, rfl⟩, .inr ⟨_, trivial, hJx3⟩⟩
    · have d1 : decide ((k : Int) < (N : Int)) = false := decide_eq_false (by omega)
      have hE0 : pcs (pre.map Subtype.val) = ck l.length l := by
        have h := HE.out
        rw [List.drop_eq_nil_of_le (by rw [HN.out]; omega)] at h
        rw [← h]; simp [ck]
      have HE0 := hid hE0
      clear hE0
      gi_wp2
      go_end0
      exact ⟨⟨_, rfl⟩, .inl ⟨_, HE0.out, HJ.out⟩⟩
end Go.Proofs.Ytldlddoealpomaa
