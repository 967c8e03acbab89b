/- Chunk by eight; sectorsOf. -/
import Derived.Test.YtldlddoealpomaaLy
namespace Go.Proofs.Ytldlddoealpomaa.C8
open Go.RowKit Go.Lib Go.Shelf
attribute [local go_sem] Oper.semAt_some
/-- A list in pieces of 8. -/
def ck : Nat → List Nat → List (List Nat)
  | 0, _ => []
  | f + 1, l => if l = [] then [] else l.take 8 :: ck f (l.drop 8)
theorem ck_len : ∀ (f : Nat) (l : List Nat), (ck f l).length ≤ l.length
  | 0, _ => Nat.zero_le _
  | f + 1, l => by
    rw [ck]
    split
    · simp
    · rename_i h
      have := ck_len f (l.drop 8)
      have h0 := List.length_pos_iff.2 h
      rw [List.length_drop] at this
      rw [List.length_cons]
      omega
theorem ck_more : ∀ (f f' : Nat) (l : List Nat), l.length ≤ f → l.length ≤ f' → ck f l = ck f' l
  | 0, 0, _, _, _ => rfl
  | 0, f' + 1, l, h, _ => by rw [ck, ck, if_pos (List.eq_nil_of_length_eq_zero (Nat.le_zero.1 h))]
  | f + 1, 0, l, _, h => by rw [ck, ck, if_pos (List.eq_nil_of_length_eq_zero (Nat.le_zero.1 h))]
  | f + 1, f' + 1, l, h, h' => by
    rw [ck, ck]
    split
    · rfl
    · rename_i h0
      have := List.length_pos_iff.2 h0
      rw [ck_more f f' (l.drop 8) (by rw [List.length_drop]; omega) (by rw [List.length_drop]; omega)]
/-- A piece that can be read. -/
structure Pc where
  b : Nat
  o : Nat
  g : List Nat
def PcOk (w : World) (x : Pc) : Prop := x.g ≠ [] ∧ x.g.length = 8 ∧ Byt w (.slice (some ⟨x.b, x.o, none⟩) x.g.length x.g.length) x.g
abbrev PcOf (w : World) := {x : Pc // PcOk w x}
def pcs {w : World} (ys : List (PcOf w)) : List (List Nat) := ys.map fun y => y.1.g
theorem pcs_snoc {w : World} (ys : List (PcOf w)) (y : PcOf w) : pcs (ys ++ [y]) = pcs ys ++ [y.1.g] := by simp [pcs]
def Kc (A B : World) : Prop := Keep 22 A B ∧ Keep 3 A B
theorem Kc.trans {A B C : World} (h : Kc A B) (k : Kc B C) : Kc A C := ⟨h.1.trans k.1, h.2.trans k.2⟩
def ChunkS (n : Nat) (lb : Array Value) (w0 : World) (l : List Nat) (bb : Option Nat) (w : World) : Prop :=
  SeqStopsK Fence.wide n Try.prog 66 lb (fun x : {y : PcOf w0 // some y.1.b = bb} => #[.slice (some ⟨x.1.1.b, x.1.1.o, none⟩) x.1.1.g.length x.1.1.g.length]) Kc (fun ys => pcs (ys.map Subtype.val) = ck l.length l) (fun _ => True) l.length w
theorem byt_piece {w : World} {b off n c lo hi : Nat} {l : List Nat} (h : Byt w (.slice (some ⟨b, off, none⟩) n c) l) (hn : l.length = n) (h1 : lo < hi) (h2 : hi ≤ n) : Byt w (.slice (some ⟨b, off + lo, none⟩) (hi - lo) (hi - lo)) ((l.drop lo).take (hi - lo)) := by
  have hl : ((l.drop lo).take (hi - lo)).length = hi - lo := by rw [List.length_take, List.length_drop]; omega
  obtain ⟨h8, A, cap, e, hc1, hc2, b', off', hA, hc⟩ := h
  injection e with e1 e2 e3
  subst e1 e3
  obtain ⟨e4, e5⟩ := hA (by omega)
  injection e4 with e4
  obtain ⟨rfl, rfl⟩ : b = b' ∧ off = off' := by injection e4 with p q; exact ⟨p, q⟩
  refine ⟨b8_take (b8_drop h8 lo) _, some ⟨b, off + lo, none⟩, hi - lo, by rw [hl], by omega, by omega, b, off + lo, fun _ => ⟨rfl, e5⟩, fun i y hi' => ?_⟩
  rw [List.getElem?_take] at hi'
  split at hi'
  · rw [List.getElem?_drop] at hi'
    have := hc (lo + i) y hi'
    rw [Nat.add_assoc]
    exact this
  · cases hi'
theorem drop_step {l : List Nat} {k m : Nat} : (l.drop k).drop m = l.drop (k + m) := List.drop_drop ..

set_option maxHeartbeats 2000000 in
set_option maxRecDepth 100000 in
theorem chunk_streams (n Bs : Nat) (l : List Nat) (A : Option Addr) (N c : Nat) (w0 w : World) (hn : 1 ≤ n) (hv : Byt w0 (.slice A N c) l) (hN : l.length = N) (hl : N ≤ 1000000000) (hN8 : N % 8 = 0) (hb1 : w.heap[Bs]? = some (.cells #[.slice A N c] 22)) (hb2 : w.heap[Bs + 1]? = some (.cells #[.int .i64 8] 3)) :
    ChunkS n #[.pointer (some ⟨Bs, 0, none⟩), .pointer (some ⟨Bs + 1, 0, none⟩)] w0 l (A.map Addr.block) w := by
  intro l0 J Jx W hW hJ hJx hY h0
  have hx1 := (hW.block Bs (box_lt hb1)).trans hb1
  have hx2 := (hW.block (Bs + 1) (box_lt hb2)).trans hb2
  have hcap : N ≤ c := by have := byt_cap hv; omega
  have HY := hid hY
  have HJ0 := hid hJ
  have HN := hid hN
  have HV := hid hv
  have HX1 := hid hx1
  have HX2 := hid hx2
  clear hY hJ hJx hW hv hN hb1 hb2 hx1 hx2
  refine callsIn_of_wp Try.func66 rfl trivial ?_ rfl
  simp only [Try.ntmps66, List.size_toArray, List.length_cons, List.length_nil, Nat.reduceAdd, Nat.reduceSub, Array.replicate_succ, Array.replicate_zero, List.push_toArray, List.append_toArray, List.nil_append, List.cons_append]
  gi_wp2
  gi_loopw [4] (fun i wr => ∃ (k : Nat) (pre : List {y : PcOf w0 // some y.1.b = A.map Addr.block}), k ≤ N + 8 ∧ k % 8 = 0 ∧ i = .int .i64 (k : Int) ∧ Hid (pcs (pre.map Subtype.val) ++ ck (l.drop k).length (l.drop k) = ck l.length l) ∧ Hid (J pre wr) ∧ Hid (wr.heap[Bs]? = some (.cells #[.slice A N c] 22)) ∧ Hid (wr.heap[Bs + 1]? = some (.cells #[.int .i64 8] 3))) (fun i _ => (N + 200) - (Lib.intOf i).toNat)
  case atStart => exact ⟨0, [], by omega, rfl, rfl, hid rfl, hid h0, HX1, HX2⟩
  case round =>
    clear h0 HX1 HX2
    obtain ⟨k, pre, hk, hk8, rfl, HE, HJ, HX1, HX2⟩ := hrel
    have c1 := cell_of_row _ _ 0 _ _ _ HX1.out
    have c2 := cell_of_row _ _ 0 _ _ _ HX2.out
    by_cases hkn : k < N
    · have hkn' : (k : Int) < (N : Int) := by omega
      obtain ⟨b, off, rfl, hbl, _⟩ := byt_at HV.out (by rw [HN.out]; omega)
      obtain ⟨m, hm⟩ : ∃ m, min 8 (N - k) = m := ⟨_, rfl⟩
      obtain ⟨hi, hhi⟩ : ∃ hi, k + m = hi := ⟨_, rfl⟩
      have hm1 : 0 < m := by omega
      have hfr : fromA (some ⟨b, off, none⟩) c k = some ⟨b, off + k, none⟩ := by unfold fromA; rw [if_neg (by omega)]; simp [Addr.add]
      have hs1 := run_slice_from (some ⟨b, off, none⟩) N c k (by omega)
      rw [hfr] at hs1
      have hs3 := run_three b off N c k hi (by omega) (by omega) hcap
      have hwm : IntKind.i64.wrap ((k : Int) + (m : Int)) = (hi : Int) := by rw [IntKind.wrap_i64]; omega
      have hmin : min (8 : Int) ((N - k : Nat) : Int) = (m : Int) := by omega
      have hwk : IntKind.i64.wrap ((k : Int) + 8) = ((k + 8 : Nat) : Int) := by rw [IntKind.wrap_i64]; omega
      have hpl : ((l.drop k).take 8).length = m := by rw [List.length_take, List.length_drop, HN.out]; exact hm
      have hdn : l.drop k ≠ [] := fun e => by have := congrArg List.length e; rw [List.length_drop, HN.out] at this; simp at this; omega
      have hpb : Byt w0 (.slice (some ⟨b, off + k, none⟩) (hi - k) (hi - k)) ((l.drop k).take 8) := by
        have h := byt_piece HV.out HN.out (lo := k) (hi := hi) (by omega) (by omega)
        have e : (l.drop k).take (hi - k) = (l.drop k).take 8 := by
          rw [show hi - k = m by omega, ← hm, List.take_eq_take_iff, List.length_drop, HN.out]; omega
        rw [e] at h
        exact h
      have hmk : hi - k = m := by omega
      rw [hmk] at hpb hs3
      have hok : PcOk w0 ⟨b, off + k, (l.drop k).take 8⟩ := ⟨fun e => by have e' : (l.drop k).take 8 = [] := e; rw [e'] at hpl; simp at hpl; omega, by dsimp only; rw [hpl]; omega, by dsimp only; rw [hpl]; exact hpb⟩
      have HE2 : Hid (pcs ((pre ++ [(⟨⟨⟨b, off + k, (l.drop k).take 8⟩, hok⟩, rfl⟩ : {y : PcOf w0 // some y.1.b = (some (⟨b, off, none⟩ : Addr)).map Addr.block})]).map Subtype.val) ++ ck (l.drop (k + 8)).length (l.drop (k + 8)) = ck l.length l) := hid (by
        rw [List.map_append, List.map_singleton, pcs_snoc, List.append_assoc, List.singleton_append, ← HE.out]
        congr 1
        obtain ⟨f, hf⟩ : ∃ f, (l.drop k).length = f + 1 := ⟨(l.drop k).length - 1, by have := List.length_pos_iff.2 hdn; omega⟩
        rw [hf, ck, if_neg hdn, drop_step]
        congr 1
        exact ck_more _ _ _ (Nat.le_refl _) (by have e : (l.drop (k + 8)).length = (l.drop k).length - 8 := by rw [List.length_drop, List.length_drop]; omega
                                                omega))
      gi_wp2_with fail
      gi_quiet (fail)
      gi_wp2_with fail
      obtain ⟨fn, tmps, assign, body, hy2, hR⟩ := HY.out pre (⟨⟨⟨b, off + k, (l.drop k).take 8⟩, hok⟩, rfl⟩ : {y : PcOf w0 // some y.1.b = (some (⟨b, off, none⟩ : Addr)).map Addr.block}) (wr.drewN nq) (HJ0.out _ _ _ none HJ.out ⟨rfl, rfl, rfl, Nat.le_refl _, fun _ _ _ => rfl⟩ (fun r e => by cases e)) (by
        have h := congrArg List.length HE.out
        have h1 := ck_len l.length l
        have h2 : 0 < (ck (l.drop k).length (l.drop k)).length := by
          obtain ⟨f, hf⟩ : ∃ f, (l.drop k).length = f + 1 := ⟨(l.drop k).length - 1, by have := List.length_pos_iff.2 hdn; omega⟩
          rw [hf, ck, if_neg hdn]; simp
        rw [List.length_append] at h
        have h3 : (pcs (pre.map Subtype.val)).length = pre.length := by simp [pcs]
        rw [HN.out] at h h1 ⊢
        omega)
      have HR := hid hR
      dsimp only at hy2
      rw [hpl] at hy2
      clear hR
      rw [hy2]
      refine ⟨fun hd => by simp [Fence.wide] at hd, ?_⟩
      refine HR.out.mono ?_
      rintro e W3 (⟨rfl, hJ3, hk3⟩ | ⟨rfl, hJx3⟩)
      · have HJ3 := hid hJ3
        have HX3 := hid (hk3.1 _ _ (show (wr.drewN nq).heap[Bs]? = _ from HX1.out))
        have HX4 := hid (hk3.2 _ _ (show (wr.drewN nq).heap[Bs + 1]? = _ from HX2.out))
        have c2 : W3.cell? ⟨Bs + 1, 0, none⟩ = some (.int .i64 8) := cell_of_row _ _ 0 _ _ _ HX4.out
        clear hJ3 hk3 HJ HR hy2 c1 hs1 hs3 hwm hmin
        gi_wp2
        go_roundw
        case rel => exact ⟨k + 8, _, by omega, by omega, by go_num, HE2, HJ3, HX3, HX4⟩
        case measure => simp [Lib.intOf]; omega
      · gi_wp2
        refine bodyPost_ret (results_none rfl _ _ _) rfl ?_
        exact ⟨⟨_, rfl⟩, .inr ⟨_, trivial, hJx3⟩⟩
    · have d1 : decide ((k : Int) < (N : Int)) = false := decide_eq_false (by omega)
      have hE0 : pcs (pre.map Subtype.val) = ck l.length l := by
        have h := HE.out
        rw [List.drop_eq_nil_of_le (by rw [HN.out]; omega)] at h
        rw [← h]; simp [ck]
      have HE0 := hid hE0
      clear hE0
      gi_wp2
      go_end0
      exact ⟨⟨_, rfl⟩, .inl ⟨_, HE0.out, HJ.out⟩⟩
theorem chunk_any (w : World) (A : Option Addr) (len cap : Nat) :
    Calls Try.prog 55 #[.slice A len cap, .int .i64 8] w fun e w' => e = .returned (.func (.func 66) #[] #[.pointer (some ⟨w.heap.size, 0, none⟩), .pointer (some ⟨w.heap.size + 1, 0, none⟩)]) ∧ (w.alloc (.cells #[.slice A len cap] 22)).alloc (.cells #[.int .i64 8] 3) = w' := by
  have e3 : ((w.alloc (.cells #[.slice A len cap] 22)).alloc (.cells #[.int .i64 8] 3)).cell? ⟨w.heap.size + 1, 0, none⟩ = some (.int .i64 8) := by
    have h := heap_alloc_new (w.alloc (.cells #[.slice A len cap] 22)) (.cells #[.int .i64 8] 3)
    rw [show (w.alloc (.cells #[.slice A len cap] 22)).heap.size = w.heap.size + 1 by simp] at h
    exact cell_of_row _ _ 0 _ _ _ h
  go_enter Try.func55, Try.ntmps55
  go_wp2
  go_ret
  exact ⟨rfl, rfl⟩
end Go.Proofs.Ytldlddoealpomaa.C8

namespace Go.Proofs.Ytldlddoealpomaa.C8
open Go.RowKit Go.Lib Go.Shelf
open Rl (Sect Sec Secs cSec list8 CRz step_append_secs own_base)
attribute [local go_sem] Oper.semAt_some

/-- Between two pieces. -/
def SI (w : World) (bb : Option Nat) (pre : List {y : PcOf w // some y.1.b = bb}) (W : World) : Prop :=
  ∃ v', Boxed W w.heap.size 33 v' ∧ W.ownsRow (w.heap.size + 1) 44 8 v' pre.length (((pcs (pre.map Subtype.val)).map cSec).flatten) ∧ Below w.heap.size w W ∧ w.heap.size + 3 ≤ W.heap.size
theorem si_stay {w : World} {bb : Option Nat} {n : Nat} (hn : w.heap.size + 1 ≤ n) : OwnFrom n (SI w bb) := by
  intro s X Y row hs hg hr
  obtain ⟨v', h1, h2, h3, h4⟩ := hs
  refine ⟨v', cells_stay h1 hg hr, own_beside h2 hg (fun k hk e => ?_), h3.grown hg h3.size (fun k e => ?_), Nat.le_trans h4 hg.size⟩
  · obtain ⟨_, o, ho, hoc⟩ := hr k e.symm
    obtain ⟨cs, hcs⟩ := own_type h2 hk
    rw [hcs] at ho; cases ho; cases hoc
  · have := (hr k e).1
    omega
def Eight (X : World) (b o x0 x1 x2 x3 x4 x5 x6 x7 : Nat) : Prop :=
  X.cell? ⟨b, o, none⟩ = some (.int .u8 (x0 : Int)) ∧ X.cell? ⟨b, o + 1, none⟩ = some (.int .u8 (x1 : Int)) ∧ X.cell? ⟨b, o + 2, none⟩ = some (.int .u8 (x2 : Int)) ∧ X.cell? ⟨b, o + 3, none⟩ = some (.int .u8 (x3 : Int)) ∧ X.cell? ⟨b, o + 4, none⟩ = some (.int .u8 (x4 : Int)) ∧ X.cell? ⟨b, o + 5, none⟩ = some (.int .u8 (x5 : Int)) ∧ X.cell? ⟨b, o + 6, none⟩ = some (.int .u8 (x6 : Int)) ∧ X.cell? ⟨b, o + 7, none⟩ = some (.int .u8 (x7 : Int))
theorem eight_of {X : World} {b o x0 x1 x2 x3 x4 x5 x6 x7 : Nat} (h : Byt X (.slice (some ⟨b, o, none⟩) 8 8) [x0, x1, x2, x3, x4, x5, x6, x7]) : Eight X b o x0 x1 x2 x3 x4 x5 x6 x7 := by
  obtain ⟨b', o', e, _, hc⟩ := byt_at h (by simp)
  injection e with e
  injection e with e1 e2
  subst e1 e2
  exact ⟨hc 0 _ rfl, hc 1 _ rfl, hc 2 _ rfl, hc 3 _ rfl, hc 4 _ rfl, hc 5 _ rfl, hc 6 _ rfl, hc 7 _ rfl⟩
set_option maxHeartbeats 8000000 in
set_option maxRecDepth 100000 in
theorem sectorsOf_ok (bs : List Nat) (most : Int) (v : Value) (w : World) (hb : Byt w v bs) (h8 : bs.length % 8 = 0) (hm : ((bs.length / 8 : Nat) : Int) ≤ most) (hl : bs.length ≤ 1000000) :
    Calls Try.prog 37 #[v, .int .i64 most] w fun e w' => ∃ lv, e = .returned (.tuple #[lv, .int .i64 0]) ∧ w'.ownsRow w.heap.size 44 8 lv (ck bs.length bs).length (((ck bs.length bs).map cSec).flatten) ∧ Below w.heap.size w w' := by
  obtain ⟨A, c, rfl⟩ := byt_form hb
  obtain ⟨M, hM⟩ : ∃ M, bs.length = M := ⟨_, rfl⟩
  obtain ⟨W1, hW1⟩ : ∃ W1, w.alloc (.cells #[.slice none 0 0] 33) = W1 := ⟨_, rfl⟩
  obtain ⟨W2, hW2⟩ : ∃ W2, (W1.alloc (.cells #[.slice A M c] 22)).alloc (.cells #[.int .i64 8] 3) = W2 := ⟨_, rfl⟩
  obtain ⟨h, hh⟩ : ∃ h, w.heap.size = h := ⟨_, rfl⟩
  have hz1 : W1.heap.size = h + 1 := by rw [← hW1, ← hh]; simp
  have hz2 : W2.heap.size = h + 3 := by rw [← hW2]; simp [hz1]
  have hb1 : Below w.heap.size w W1 := by rw [← hW1]; exact al1 _ _
  have hb12 : Below W1.heap.size W1 W2 := by rw [← hW2]; exact ((Below.refl _ _).alloc (Nat.le_refl _) _).alloc (by simp) _
  have hb2 : Below w.heap.size w W2 := hb1.trans (hb12.mono hb1.size)
  have ht0 : W1.heap[h]? = some (.cells #[.slice none 0 0] 33) := by rw [← hW1, ← hh]; exact heap_alloc_new _ _
  have ht02 := (hb12.block h (box_lt ht0)).trans ht0
  have ht1 : W2.heap[h + 1]? = some (.cells #[.slice A M c] 22) := by rw [← hW2, ← hz1]; exact (Below.heap_alloc _ _ _ (by simp)).trans (heap_alloc_new _ _)
  have ht2 : W2.heap[h + 1 + 1]? = some (.cells #[.int .i64 8] 3) := by
    have h := heap_alloc_new (W1.alloc (.cells #[.slice A M c] 22)) (.cells #[.int .i64 8] 3)
    rw [hW2, show (W1.alloc (.cells #[.slice A M c] 22)).heap.size = W1.heap.size + 1 by simp, hz1] at h
    exact h
  rw [hM] at hb hl h8 hm ⊢
  have hS := chunk_streams 2 (h + 1) bs A M c w W2 (by decide) hb hM (by omega) h8 ht1 ht2
  have HSI : Hid (SI w (A.map Addr.block) [] W2) := hid ⟨.slice none 0 0, by rw [hh]; exact ht02, World.ownsRow_nil _ _ _ _, hb2, by rw [hh, hz2]; omega⟩
  have HS := hid hS
  have HB := hid hb
  have HM := hid hM
  have HW1 := hid hW1
  have HW2 := hid hW2
  have HH := hid hh
  have HZ2 := hid hz2
  have e1 : (M : Int) % 8 = 0 := by omega
  have e1' : Int.tmod (M : Int) 8 = 0 := by rw [Int.tmod_eq_emod_of_nonneg (by omega)]; exact e1
  have e2 : Int.tdiv (M : Int) 8 = ((M / 8 : Nat) : Int) := by rw [Int.tdiv_eq_ediv_of_nonneg (by omega)]; omega
  have e3 : ¬ most < ((M / 8 : Nat) : Int) := by omega
  rw [← HM.out]
  rw [HM.out]
  clear hS hb hM hW1 hW2 hh hb1 hb12 hb2 ht0 ht02 ht1 ht2 hz1 hz2
  refine (callsIn_wide (n := 3)).1 ?_
  refine callsIn_of_wp_marks Try.func37 rfl trivial ?_ rfl
  simp only [Try.ntmps37, List.size_toArray, List.length_cons, List.length_nil, Nat.reduceAdd, Nat.reduceSub, Array.replicate_succ, Array.replicate_zero, List.push_toArray, List.append_toArray, List.nil_append, List.cons_append]
  gi_wp2_with (refine ⟨trivial, ?_⟩; gi_at_call 55; refine (callsIn_wide.2 (chunk_any _ _ _ _)).mono ?_; rintro e w2 ⟨rfl, hw2⟩; rw [HW1.out] at hw2; rw [HW2.out] at hw2; subst hw2)
  rw [HH.out]
  refine wpIn_rangeFunc_ownG rfl (by decide) (gf := 66) (lb := #[.pointer (some ⟨h + 1, 0, none⟩), .pointer (some ⟨h + 1 + 1, 0, none⟩)]) rfl trivial enters66 HS.out (fun h k => Kc.trans h k)
    (fun W ll o o' _ ho hoc _ => ⟨fun k cs hk => (World.putObj_heap_other (fun e => by subst e; rw [ho] at hk; cases hk; cases hoc)).trans hk, fun k cs hk => (World.putObj_heap_other (fun e => by subst e; rw [ho] at hk; cases hk; cases hoc)).trans hk⟩)
    (Below.refl _ _) (fun _ => rfl) (SI w (A.map Addr.block)) (fun _ _ _ => False) (si_stay (by rw [HH.out, HZ2.out]; omega)) (fun _ _ _ _ _ hs _ _ => hs) HSI.out
    (fun y : {y : PcOf w // some y.1.b = A.map Addr.block} => { tmps := #[.slice A M c, .int .i64 most, undef, undef, .slice none 0 0, .int .i64 0, .pointer (some ⟨h, 0, none⟩), .slice (some ⟨y.1.1.b, y.1.1.o, none⟩) y.1.1.g.length y.1.1.g.length, .slice A M c, .int .i64 (M : Int), .int .i64 0, .bool false, .slice A M c, .int .i64 (M : Int), .int .i64 ((M : Int) / 8), .int .i64 most, .bool (decide (most < (M : Int) / 8)), .slice A M c, .func (.func 66) #[] #[.pointer (some ⟨h + 1, 0, none⟩), .pointer (some ⟨h + 1 + 1, 0, none⟩)], .slice (some ⟨y.1.1.b, y.1.1.o, none⟩) y.1.1.g.length y.1.1.g.length, undef, undef, undef, undef, undef, undef, undef], defers := [] }) ?assign ?body ?done ?stop
  case assign =>
    intro l0 y W K hK
    gi_wp2
    exact hK
  case body =>
    rintro l0 pre y W ⟨v1, hx, ho, hB, hsz⟩ hpl
    obtain ⟨⟨⟨yb, yo, yg⟩, hy1⟩, hy2⟩ := y
    obtain ⟨hyn, hyl, hyb⟩ := id hy1
    dsimp only at hyn hyl hyb hy2 ⊢
    rw [hyl] at hyb ⊢
    have hyb2 := hyb.below hB
    have hyW := hyb.1
    obtain ⟨x0, x1, x2, x3, x4, x5, x6, x7, hyx⟩ := list8 hyl
    rw [hyx] at hyb2
    have HE8 := hid (fun (X : World) (hX : Below w.heap.size w X) => (by have h := hyb.below hX; rw [hyx] at h; exact eight_of h : Eight X yb yo x0 x1 x2 x3 x4 x5 x6 x7))
    obtain ⟨L, hL⟩ : ∃ L, pre.length = L := ⟨_, rfl⟩
    obtain ⟨CU, hCU⟩ : ∃ CU, ((pcs (pre.map Subtype.val)).map cSec).flatten = CU := ⟨_, rfl⟩
    rw [hCU] at ho
    have hLb : L ≤ 1000000 := by have h := hpl; have := HM.out; omega
    rw [hL] at ho
    obtain ⟨tA, tc, rfl⟩ := Rl.ownAny_form ho
    rw [HH.out] at hx ho hsz
    have HX := hid hx
    have HO := hid ho
    have HBW := hid hB
    have HYX := hid hyx
    have HLL := hid hL
    have HCU := hid hCU
    have harr := fun X : World => Rl.run_arrayAt (⟨yb, yo, none⟩ : Addr) 8 X
    clear hx ho hyb hyb2 hyx hL hCU hB
    gi_wp2_with fail
    refine round_tail 6 (fun X : World => X.cell? ⟨h, 0, none⟩ = some (.slice tA L tc) ∧ Eight X yb yo x0 x1 x2 x3 x4 x5 x6 x7) (by kernel_rfl) (by rintro ⟨_, _, h⟩; exact h) (by kernel_rfl) ?_
    have hHeld : W.drew.cell? ⟨h, 0, none⟩ = some (.slice tA L tc) ∧ Eight W.drew yb yo x0 x1 x2 x3 x4 x5 x6 x7 := ⟨HX.out.cell, HE8.out _ (below_drew HBW.out)⟩
    refine' wpAnyT_take (i := 0) (oi := ?oia0) (v := ?va0) ?hia0 (by kernel_rfl) (by kernel_rfl) ?hqa0 ?hya0 hHeld ?resta0
    case hia0 => (simp only [List.getElem?_toArray, List.getElem?_cons_zero]; rfl)
    case hqa0 => exact fun _ _ _ h => h
    case hya0 => (refine Or.inl ⟨by rfl, ?_⟩; intro w' hSw; obtain ⟨s0, s1, s2, s3, s4, s5, s6, s7, s8⟩ := hSw; go_simp; try with_reducible rfl)
    (try simp only [Act.put, List.setIfInBounds_toArray, List.set_cons_zero, List.set_cons_succ])
    refine' wpAnyT_take (i := 1) (oi := ?oia1) (v := ?va1) ?hia1 (by kernel_rfl) (by kernel_rfl) ?hqa1 ?hya1 hHeld ?resta1
    case hia1 => (simp only [List.getElem?_toArray, List.getElem?_cons_zero, List.getElem?_cons_succ]; rfl)
    case hqa1 => exact fun _ _ _ h => h
    case hya1 => (refine Or.inl ⟨by rfl, ?_⟩; intro w' hSw; obtain ⟨s0, s1, s2, s3, s4, s5, s6, s7, s8⟩ := hSw; go_simp; try with_reducible rfl)
    (try simp only [Act.put, List.setIfInBounds_toArray, List.set_cons_zero, List.set_cons_succ])
    refine' wpAnyT_take (i := 2) (oi := ?oia2) (v := ?va2) ?hia2 (by kernel_rfl) (by kernel_rfl) ?hqa2 ?hya2 hHeld ?resta2
    case hia2 => (simp only [List.getElem?_toArray, List.getElem?_cons_zero, List.getElem?_cons_succ]; rfl)
    case hqa2 => exact fun _ _ _ h => h
    case hya2 => (refine Or.inl ⟨by rfl, ?_⟩; intro w' hSw; obtain ⟨s0, s1, s2, s3, s4, s5, s6, s7, s8⟩ := hSw; go_simp; try with_reducible rfl)
    (try simp only [Act.put, List.setIfInBounds_toArray, List.set_cons_zero, List.set_cons_succ])
    refine' wpAnyT_take (i := 3) (oi := ?oia3) (v := ?va3) ?hia3 (by kernel_rfl) (by kernel_rfl) ?hqa3 ?hya3 hHeld ?resta3
    case hia3 => (simp only [List.getElem?_toArray, List.getElem?_cons_zero, List.getElem?_cons_succ]; rfl)
    case hqa3 => exact fun _ _ _ h => h
    case hya3 => (refine Or.inl ⟨by rfl, ?_⟩; intro w' hSw; obtain ⟨s0, s1, s2, s3, s4, s5, s6, s7, s8⟩ := hSw; go_simp; try with_reducible rfl)
    (try simp only [Act.put, List.setIfInBounds_toArray, List.set_cons_zero, List.set_cons_succ])
    have hal := al1 W (.cells #[.int .u8 (x0 : Int), .int .u8 (x1 : Int), .int .u8 (x2 : Int), .int .u8 (x3 : Int), .int .u8 (x4 : Int), .int .u8 (x5 : Int), .int .u8 (x6 : Int), .int .u8 (x7 : Int)] 44)
    obtain ⟨W2a, hW2a⟩ : ∃ X, W.alloc (.cells #[.int .u8 (x0 : Int), .int .u8 (x1 : Int), .int .u8 (x2 : Int), .int .u8 (x3 : Int), .int .u8 (x4 : Int), .int .u8 (x5 : Int), .int .u8 (x6 : Int), .int .u8 (x7 : Int)] 44) = X := ⟨_, rfl⟩
    have hcr : W2a.heap[W.heap.size]? = some (.cells (cSec [x0, x1, x2, x3, x4, x5, x6, x7]).toArray 44) := by rw [← hW2a]; exact heap_alloc_new _ _
    rw [hW2a] at hal
    have HCR := hid (CRz hcr)
    have HX2 : Hid (Boxed W2a h 33 (.slice tA L tc)) := hid ((hal.block h (box_lt HX.out)).trans HX.out)
    have HO2 := hid (own_keep HO.out (keep_below hal))
    have HB2 := hid (HBW.out.trans (hal.mono HBW.out.size))
    have HAL := hid hal
    have hz2 : h + 1 ≤ W2a.heap.size := by have := hal.size; omega
    have HW2A := hid hW2a
    clear hal hW2a hcr hHeld
    have hHeld : W2a.drew.cell? ⟨h, 0, none⟩ = some (.slice tA L tc) ∧ Eight W2a.drew yb yo x0 x1 x2 x3 x4 x5 x6 x7 := ⟨HX2.out.cell, HE8.out _ (below_drew HB2.out)⟩
    refine' wpAnyT_one (i := 4) (o := ?oia4) (by kernel_rfl) ?hia4 (fun K hK => ?sta4)
    case hia4 => (simp only [List.getElem?_toArray, List.getElem?_cons_zero, List.getElem?_cons_succ]; rfl)
    go_simp
    rw [HW2A.out]
    refine hK.out _ _ (fun _ => hHeld) ?_
    clear hK K
    (try simp only [Act.put, List.setIfInBounds_toArray, List.set_cons_zero, List.set_cons_succ])
    refine' wpAnyT_one (i := 5) (o := ?oia5) (by kernel_rfl) ?hia5 (fun K hK => ?sta5)
    case hia5 => (simp only [List.getElem?_toArray, List.getElem?_cons_zero, List.getElem?_cons_succ]; rfl)
    refine step_append_secs rfl (.tmp 20) (.tmp 24) rfl (h + 1) (.slice tA L tc) L _ (by simp [Act.eval]) (show W2a.drew.ownsRow (h + 1) 44 8 (.slice tA L tc) L CU from HO2.out) ⟨W.heap.size, 0, none⟩ [[x0, x1, x2, x3, x4, x5, x6, x7]] 1 1 rfl (fun s hs => by rw [List.mem_singleton.1 hs]; exact ⟨rfl, by rw [← HYX.out]; exact hyW⟩) (by simp [Act.eval]) (fun j u hj => HCR.out j u (by simpa using hj)) (by omega) (show h + 1 ≤ W2a.heap.size from hz2) ?_
    intro v3 W3 ho3 hg3 _
    have HX3 : Hid (Boxed W3 h 33 (.slice tA L tc)) := hid (Boxed.kept (show Boxed W2a.drew h 33 _ from HX2.out) hg3 (Boxed.not_row (show Boxed W2a.drew h 33 _ from HX2.out) (by decide) (show W2a.drew.ownsRow (h + 1) 44 8 (.slice tA L tc) L CU from HO2.out)))
    have HB3 := hid (Below.grown (below_drew HB2.out) hg3 (by have := HH.out; show w.heap.size ≤ W2a.heap.size; omega) (fun k e => by have := (HO2.out.lt k e).1; have := HH.out; omega))
    have HT3 : Hid (Rl.Stp W2.heap.size h W W3) := hid ((Rl.stp_below HAL.out (by omega)).trans ((Rl.stp_below (below_drew (Below.refl _ W2a)) (by omega)).trans (Rl.stp_grown (show W2a.drew.ownsRow (h + 1) 44 8 (.slice tA L tc) L CU from HO2.out) hg3 (by decide) (by omega) (show h ≤ W2a.heap.size by omega))))
    have HK22 : Hid (Keep 22 W W3) := hid ((keep_below HAL.out).trans (show Keep 22 W2a W3 from keep_grown (T := 22) (a := W2a.drew) (show W2a.drew.ownsRow (h + 1) 44 8 (.slice tA L tc) L CU from HO2.out) (by decide) hg3))
    have HK3 : Hid (Keep 3 W W3) := hid ((keep_below HAL.out).trans (show Keep 3 W2a W3 from keep_grown (T := 3) (a := W2a.drew) (show W2a.drew.ownsRow (h + 1) 44 8 (.slice tA L tc) L CU from HO2.out) (by decide) hg3))
    obtain ⟨a3, c3, rfl⟩ := Rl.ownAny_form ho3
    have HO3 := hid ho3
    have hz3 : h + 3 ≤ W3.heap.size := by have h1 := hg3.size; have h2 := HAL.out.size; have h4 : W2a.heap.size ≤ W3.heap.size := h1; omega
    clear hHeld hg3 ho3
    have hHeld : W3.cell? ⟨h, 0, none⟩ = some (.slice tA L tc) ∧ Eight W3 yb yo x0 x1 x2 x3 x4 x5 x6 x7 := ⟨HX3.out.cell, HE8.out _ HB3.out⟩
    have f0 := HX3.out.frozen
    refine hK.out _ _ (fun _ => hHeld) ?_
    clear hK K
    (try simp only [Act.put, List.setIfInBounds_toArray, List.set_cons_zero, List.set_cons_succ])
    refine' wpAnyT_one (i := 6) (o := ?oia6) (by kernel_rfl) ?hia6 (fun K hK => ?sta6)
    case hia6 => (simp only [List.getElem?_toArray, List.getElem?_cons_zero, List.getElem?_cons_succ]; rfl)
    go_simp
    refine hK.out _ _ (fun h => absurd h (by decide)) ?_
    clear hK K
    (try simp only [Act.put, List.setIfInBounds_toArray, List.set_cons_zero, List.set_cons_succ])
    refine wpAnyT_done (by kernel_rfl) ?_ _
    refine ⟨(HT3.out.trans (Rl.stp_set HX3.out (by decide) (Nat.le_refl _))).kf, ⟨HK22.out.trans (Rl.keep_set HX3.out (by decide)), HK3.out.trans (Rl.keep_set HX3.out (by decide))⟩, ⟨.slice a3 (L + 1) c3, by rw [HH.out]; exact HX3.out.set _, ?_, by have := HB3.out.setCell (p := ⟨h, 0, none⟩) (by rw [HH.out]; exact Nat.le_refl _) (.slice a3 (L + 1) c3); exact this, by rw [HH.out]; simpa using hz3⟩⟩
    have e1 : (((pcs ((pre ++ [(⟨⟨⟨yb, yo, yg⟩, hy1⟩, hy2⟩ : {y : PcOf w // some y.1.b = A.map Addr.block})]).map Subtype.val)).map cSec).flatten) = CU ++ ([[x0, x1, x2, x3, x4, x5, x6, x7]].map cSec).flatten := by
      rw [List.map_append, List.map_singleton, pcs_snoc, List.map_append, List.flatten_append, HCU.out]
      simp [HYX.out]
    rw [e1, List.length_append, HLL.out, HH.out]
    exact ownsRow_setCell_other HO3.out (fun e => HX3.out.not_row (by decide) HO3.out e.symm) _
  case done =>
    rintro D ys W hD hys ⟨v', hx, ho, hB, hsz⟩ hK
    have hlen : ys.length = (ck M bs).length := by rw [← HM.out, ← hys]; simp [pcs]
    rw [hys, HM.out, HH.out, hlen] at ho
    rw [HH.out] at hx hsz
    have hDw : h + 3 ≤ D := by have := HZ2.out; omega
    obtain ⟨tA, tc, rfl⟩ := Rl.ownAny_form ho
    have HX := hid hx
    have HO := hid ho
    have HBW := hid hB
    have HK := hid hK
    have c0 := hx.cell
    clear hx ho hB hK hys
    gi_wp2
    refine ⟨by simp, .inl ⟨_, _, rfl, run_takeDeferred HK.out, ?_⟩⟩
    refine ⟨_, results_tmp2 rfl _ _ _, .slice tA (ck M bs).length tc, rfl, ?_, HBW.out.trans (belowK_b (w := w) (Nat.le_refl _) W D _ _ (by rw [HH.out]; omega) HK.out rfl rfl)⟩
    refine own_base (own_beside HO.out (grownBy_putObj' W D _) (fun k hk e => ?_)) (by rw [HH.out]; omega)
    injection e with e
    obtain ⟨cs, hcs⟩ := own_type HO.out hk
    rw [e, HK.out] at hcs
    cases hcs
  case stop =>
    rintro D c pre W _ _ h _
    exact h.elim
end Go.Proofs.Ytldlddoealpomaa.C8
