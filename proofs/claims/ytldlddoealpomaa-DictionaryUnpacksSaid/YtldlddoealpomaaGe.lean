/- The groups of a list; the iterator over them. -/
import Derived.Test.YtldlddoealpomaaGd
import Derived.RangeFuncNested
import Derived.RangeFuncBound
import Derived.RangeFuncCalls
import Derived.RangeFuncLeaves
import Derived.RangeFuncBox
import Derived.Shelf.Abstract
import Derived.Shelf.RegionOpen
import Derived.OwnWalkIn
import Derived.TacticsInMore
import Derived.LoopNIn
import Derived.LoopIn
import Derived.Shelf.AbstractIn
namespace Go.Proofs.Ytldlddoealpomaa.Rl
open Go.RowKit Go.Lib Go.Shelf
attribute [local go_sem] Oper.semAt_some

/-- The groups of a list: their kinds and their sectors. -/
def grps (l : List Sect) : List (Nat × List Sect) := if _h : l = [] then [] else (knd l, l.take (cnt l)) :: grps (l.drop (cnt l))
termination_by l.length
decreasing_by
  rw [List.length_drop]
  have := cnt_pos _h
  have : 0 < l.length := List.length_pos_iff.2 _h
  omega
theorem grps_nil : grps [] = [] := by rw [grps]; rfl
theorem grps_cons {l : List Sect} (h : l ≠ []) : grps l = (knd l, l.take (cnt l)) :: grps (l.drop (cnt l)) := by rw [grps, dif_neg h]
def encK (x : Nat × List Sect) : List Nat := enc (4 * x.2.length + x.1) ++ body x.1 x.2
def encs (xs : List (Nat × List Sect)) : List Nat := (xs.map encK).flatten
theorem encs_nil : encs [] = [] := rfl
theorem encs_snoc (xs : List (Nat × List Sect)) (x : Nat × List Sect) : encs (xs ++ [x]) = encs xs ++ encK x := by simp [encs]
theorem rl_grps (n : Nat) : ∀ l : List Sect, l.length ≤ n → rl l = encs (grps l) := by
  induction n with
  | zero => intro l h; rw [List.eq_nil_of_length_eq_zero (Nat.le_zero.1 h), rl_nil, grps_nil]; rfl
  | succ n ih =>
    intro l h
    by_cases h0 : l = []
    · subst h0; rw [rl_nil, grps_nil]; rfl
    · have hc := cnt_pos h0
      have hcl := cnt_le l
      rw [rl_cons h0, grps_cons h0, ih _ (by rw [List.length_drop]; omega)]
      show _ = encK _ ++ encs _
      have e : (l.take (cnt l)).length = cnt l := by rw [List.length_take]; omega
      unfold encK encG
      rw [e]
theorem rl_encs (l : List Sect) : rl l = encs (grps l) := rl_grps l.length l (Nat.le_refl _)
/-- The ranges that groups have, the first of which begins at p. -/
def rnsK (p : Nat) : List (Nat × List Sect) → List (Nat × Nat)
  | [] => []
  | x :: t => (if x.1 ≠ 0 ∧ 1 < x.2.length then [(p, x.2.length)] else []) ++ rnsK (p + x.2.length) t
def tot (xs : List (Nat × List Sect)) : Nat := (xs.map fun x => x.2.length).sum
theorem tot_snoc (xs : List (Nat × List Sect)) (x : Nat × List Sect) : tot (xs ++ [x]) = tot xs + x.2.length := by simp [tot]
theorem rnsK_snoc (xs : List (Nat × List Sect)) (x : Nat × List Sect) : ∀ p, rnsK p (xs ++ [x]) = rnsK p xs ++ (if x.1 ≠ 0 ∧ 1 < x.2.length then [(p + tot xs, x.2.length)] else []) := by
  induction xs with
  | nil => intro p; simp [rnsK, tot]
  | cons y t ih =>
    intro p
    rw [List.cons_append, rnsK, ih, rnsK, List.append_assoc]
    congr 3
    simp [tot]
    omega
theorem rns_grps (n : Nat) : ∀ (l : List Sect) (p : Nat), l.length ≤ n → rns p l = rnsK p (grps l) := by
  induction n with
  | zero => intro l p h; rw [List.eq_nil_of_length_eq_zero (Nat.le_zero.1 h), rns_nil, grps_nil]; rfl
  | succ n ih =>
    intro l p h
    by_cases h0 : l = []
    · subst h0; rw [rns_nil, grps_nil]; rfl
    · have hc := cnt_pos h0
      have hcl := cnt_le l
      have e : (l.take (cnt l)).length = cnt l := by rw [List.length_take]; omega
      rw [rns_grp p h0, grps_cons h0, rnsK, ih _ _ (by rw [List.length_drop]; omega)]
      dsimp only
      rw [e]
/-- What stands of all groups of a list. -/
theorem grps_all (n : Nat) : ∀ l : List Sect, l.length ≤ n → tot (grps l) = l.length ∧ (grps l).length ≤ l.length := by
  induction n with
  | zero => intro l h; rw [List.eq_nil_of_length_eq_zero (Nat.le_zero.1 h), grps_nil]; exact ⟨rfl, Nat.le_refl _⟩
  | succ n ih =>
    intro l h
    by_cases h0 : l = []
    · subst h0; rw [grps_nil]; exact ⟨rfl, Nat.le_refl _⟩
    · have hc := cnt_pos h0
      have hcl := cnt_le l
      have e : (l.take (cnt l)).length = cnt l := by rw [List.length_take]; omega
      have hd : (l.drop (cnt l)).length = l.length - cnt l := List.length_drop
      obtain ⟨h1, h2⟩ := ih (l.drop (cnt l)) (by omega)
      rw [grps_cons h0]
      refine ⟨?_, by simp only [List.length_cons]; omega⟩
      show (l.take (cnt l)).length + tot (grps (l.drop (cnt l))) = _
      rw [h1, e]
      omega

/-- A group that the iterator yields. -/
structure Grp where
  k : Nat
  g : List Sect
  A : Option Addr
  c : Nat
def GOk (w : World) (x : Grp) : Prop := x.k ≤ 2 ∧ x.g ≠ [] ∧ x.g.length ≤ 100000 ∧ Sec w (.slice x.A x.g.length x.c) x.g
abbrev GrpOf (w : World) := {x : Grp // GOk w x}
def gval (x : Grp) : Value := .agg #[.int .i64 (x.k : Int), .slice x.A x.g.length x.c]
def gpr {w : World} (ys : List (GrpOf w)) : List (Nat × List Sect) := ys.map fun x => (x.1.k, x.1.g)
theorem gpr_snoc {w : World} (ys : List (GrpOf w)) (x : GrpOf w) : gpr (ys ++ [x]) = gpr ys ++ [(x.1.k, x.1.g)] := by simp [gpr]
/-- What the rounds keep for the iterator. -/
def Kp (n₀ : Nat) (A B : World) : Prop := Below n₀ A B ∧ Keep 81 A B
theorem Kp.trans {n₀ : Nat} {A B C : World} (h : Kp n₀ A B) (k : Kp n₀ B C) : Kp n₀ A C := ⟨h.1.trans k.1, h.2.trans k.2⟩
/-- What the iterator over the groups of l owes. -/
def Streams (n gf : Nat) (lb : Array Value) (w0 : World) (l : List Sect) (w : World) : Prop :=
  SeqStopsK Fence.wide n Try.prog gf lb (fun x : GrpOf w0 => #[gval x.1]) (Kp w0.heap.size) (fun ys => gpr ys = grps l) (fun _ => True) l.length w
def lenOf : Value → Nat
  | .slice _ n _ => n
  | _ => 0
theorem grown_of {w w' : World} (h : Below w.heap.size w w') : w.grownBy w' none := ⟨h.os, h.tape, h.output, h.size, fun k hk _ => h.block k hk⟩
theorem sec_empty (w : World) (A : Option Addr) (c : Nat) (hc : c ≤ maxLen) : Sec w (.slice A 0 c) [] :=
  ⟨(fun s h => by cases h), A, c, rfl, Nat.zero_le _, hc, 0, 0, fun h => absurd h (by simp), fun i r h => by simp at h⟩
theorem sec_take {w : World} {b off n c k : Nat} {l : List Sect} (h : Sec w (.slice (some ⟨b, off, none⟩) n c) l) (hn : n = l.length) (hk : k ≤ n) : Sec w (.slice (some ⟨b, off, none⟩) (l.take k).length c) (l.take k) := by
  subst hn
  obtain ⟨h8, A, cap, e, h1, h2, b', off', hA, hc⟩ := h
  rw [List.length_map] at e h1 hA
  injection e with e1 e2 e3
  subst e1 e3
  refine ⟨fun s hs => h8 s (List.mem_of_mem_take hs), some ⟨b, off, none⟩, c, by rw [List.length_map], by rw [List.length_map, List.length_take]; omega, h2, b', off', fun h => hA (by rw [List.length_map, List.length_take] at h; omega), fun i r hr j u hu => ?_⟩
  rw [List.getElem?_map, List.getElem?_take] at hr
  split at hr
  · exact hc i r (by rw [List.getElem?_map]; exact hr) j u hu
  · cases hr

set_option maxHeartbeats 2000000 in
set_option maxRecDepth 100000 in
theorem groups_streams (n Bs : Nat) (l : List Sect) (v : Value) (w0 w : World) (hn : 1 ≤ n) (hv : Sec w0 v l) (hl : l.length ≤ 100000) (hb0 : Below w0.heap.size w0 w) (hlt : Bs < w.heap.size) (hc0 : w.cell? ⟨Bs, 0, none⟩ = some v) :
    Streams n 63 #[.pointer (some ⟨Bs, 0, none⟩)] w0 l w := by
  intro l0 J Jx W hW hJ hJx hY h0
  have hbW : Below w0.heap.size w0 W := hb0.trans (hW.mono hb0.size)
  have hBs := (hW.cell (p := ⟨Bs, 0, none⟩) hlt).trans hc0
  obtain ⟨A, cap, rfl⟩ := sec_form hv
  have HY := hid hY
  have HJ0 := hid hJ
  have HV := hid hv
  have HBW := hid hbW
  clear hv hY hJ hJx hb0 hW hbW hc0 hlt
  refine callsIn_of_wp Try.func63 rfl trivial ?_ rfl
  simp only [Try.ntmps63, List.size_toArray, List.length_cons, List.length_nil, Nat.reduceAdd, Nat.reduceSub, Array.replicate_succ, Array.replicate_zero, List.push_toArray, List.append_toArray, List.nil_append, List.cons_append]
  gi_wp2
  gi_loopw [3] (fun i wr => ∃ (rest : List Sect) (pre : List (GrpOf w0)) (A : Option Addr) (c : Nat), i = .slice A rest.length c ∧ Hid (Sec w0 (.slice A rest.length c) rest) ∧ rest.length ≤ 100000 ∧ Hid (gpr pre ++ grps rest = grps l) ∧ Hid (J pre wr) ∧ Hid (Below w0.heap.size W wr)) (fun i _ => lenOf i)
  case atStart => exact ⟨l, [], A, cap, rfl, HV, hl, hid rfl, hid h0, hid (Below.refl _ _)⟩
  case round =>
    clear h0 hBs HV hl
    obtain ⟨rest, pre, A, c, rfl, HV, hl, HP, HJ, HB⟩ := hrel
    by_cases hne : rest = []
    · subst hne
      gi_wp2
      go_end0
      exact ⟨⟨_, rfl⟩, .inl ⟨_, by have h := HP.out; rw [grps_nil, List.append_nil] at h; exact h, HJ.out⟩⟩
    · have hrp : 0 < rest.length := List.length_pos_iff.2 hne
      have hri : (0 : Int) < (rest.length : Int) := by omega
      obtain ⟨b, off, cap', e, hcc, hcm, hbl, _⟩ := sec_at HV.out hne
      injection e with e1 e2 e3
      subst e1 e3
      have HBr := hid (HBW.out.trans HB.out)
      have HF := hid (first_any rest b off c wr (HV.out.below HBr.out) hne hl hcc)
      have HNE := hid hne
      clear hne
      gi_wp2_with fail
      refine ⟨trivial, (callsIn_wide.2 HF.out).mono ?_⟩
      rintro e w1 ⟨rfl, hb1⟩
      have HB1 := hid hb1
      clear hb1
      have HW1 := hid (heap_alloc_new w1 (.cells #[.int .i64 (knd rest : Nat), .slice (some ⟨b, off, none⟩) (cnt rest) c] 81))
      have HG1 := hid (show wr.grownBy (w1.alloc (.cells #[.int .i64 (knd rest : Nat), .slice (some ⟨b, off, none⟩) (cnt rest) c] 81)) none from grown_of (HB1.out.alloc HB1.out.size _))
      have hk2 := knd_le rest
      have hcp := cnt_pos HNE.out
      have hcl := cnt_le rest
      have hlt : (rest.take (cnt rest)).length = cnt rest := by rw [List.length_take]; omega
      have hok : GOk w0 ⟨knd rest, rest.take (cnt rest), some ⟨b, off, none⟩, c⟩ := ⟨hk2, (fun e => by have := congrArg List.length e; rw [hlt] at this; simp at this; omega), by rw [hlt]; omega, sec_take HV.out rfl hcl⟩
      obtain ⟨fn, tmps, assign, body, hy, hR⟩ := HY.out pre ⟨_, hok⟩ _ (HJ0.out _ _ _ none HJ.out HG1.out (fun r e => by cases e)) (by
        have h := congrArg List.length HP.out
        have h1 := (grps_all l.length l (Nat.le_refl _)).2
        rw [grps_cons HNE.out, List.length_append, List.length_cons] at h
        have : (gpr pre).length = pre.length := List.length_map ..
        omega)
      have HP2 := hid (show gpr (pre ++ [⟨_, hok⟩]) ++ grps (rest.drop (cnt rest)) = grps l from by rw [gpr_snoc, List.append_assoc, List.singleton_append, ← grps_cons HNE.out]; exact HP.out)
      dsimp only [gval] at hy
      rw [hlt] at hy
      have HR := hid hR
      have HLT := hid hlt
      clear hR hlt
      gi_wp2_with fail
      refine HR.out.mono ?_
      rintro e W3 (⟨rfl, hJ3, hk3⟩ | ⟨rfl, hJx3⟩)
      · have HJ3 := hid hJ3
        have HX3 := hid (hk3.2 _ _ HW1.out)
        have HB3 := hid (HB.out.trans ((HB1.out.mono (by have := HBr.out.size; omega)).trans (((Below.refl _ w1).alloc (by have := HBr.out.size; have := HB1.out.size; omega) (.cells #[.int .i64 (knd rest : Nat), .slice (some ⟨b, off, none⟩) (cnt rest) c] 81)).trans hk3.1)))
        have c0 : W3.cell? ⟨w1.heap.size, 0, none⟩ = some (.int .i64 (knd rest : Nat)) := cell_of_row _ _ 0 _ _ _ HX3.out
        have c1 : W3.cell? ⟨w1.heap.size, 1, none⟩ = some (.slice (some ⟨b, off, none⟩) (cnt rest) c) := cell_of_row _ _ 1 _ _ _ HX3.out
        clear hJ3 hk3 HJ HB1 HW1 HG1 HB hy HR
        have hdl : (rest.drop (cnt rest)).length = rest.length - cnt rest := List.length_drop
        by_cases hlast : cnt rest < rest.length
        · have hV3 := sec_drop HV.out rfl hlast
          have hkc : ¬ c = cnt rest := by omega
          obtain ⟨m, hm⟩ : ∃ m, cnt rest = m := ⟨_, rfl⟩
          obtain ⟨rt, hrt⟩ : ∃ rt, rest.drop (cnt rest) = rt := ⟨_, rfl⟩
          rw [hrt] at hdl HP2
          rw [hm] at c1 hcp hlast hkc hV3 hdl
          rw [← hm, hrt, hm] at hV3
          have HV3 : Hid (Sec w0 (.slice (some ⟨b, off + m * 8, none⟩) rt.length (c - m)) rt) := hid (by rw [hdl]; exact hV3)
          have HDL := hid hdl
          have hdl2 : rt.length ≤ 100000 := by omega
          have hdl3 : rt.length < rest.length := by omega
          rw [hm]
          clear hV3 hm hrt hcl hdl HLT
          have hmi : (m : Int) ≤ (rest.length : Int) := by omega
          gi_wp2
          go_roundw
          case rel => exact ⟨rt, _, some ⟨b, off + m * 8, none⟩, c - m, by rw [HDL.out], HV3, hdl2, HP2, HJ3, HB3⟩
          case measure => simp [lenOf]; omega
        · have hm : cnt rest = rest.length := by omega
          have hnil : rest.drop (cnt rest) = [] := List.drop_of_length_le (by omega)
          rw [hnil] at HP2
          have HM := hid hm
          rw [hm] at c1
          rw [hm]
          clear hm hnil hdl hcl hcp hlast HLT
          have hmi : (rest.length : Int) ≤ (rest.length : Int) := by omega
          gi_wp2
          go_roundw
          case rel => exact ⟨[], _, _, _, rfl, hid (sec_empty _ _ _ (by omega)), by simp, HP2, HJ3, HB3⟩
          case measure => simp [lenOf]; omega
      · gi_wp2
        refine bodyPost_ret (results_none rfl _ _ _) rfl ?_
        exact ⟨⟨_, rfl⟩, .inr ⟨_, trivial, hJx3⟩⟩

theorem groups_any (v : Value) (w : World) (A : Option Addr) (len cap : Nat) (hv : v = .slice A len cap) :
    Calls Try.prog 51 #[v] w fun e w' => e = .returned (.func (.func 63) #[] #[.pointer (some ⟨w.heap.size, 0, none⟩)]) ∧ w.alloc (.cells #[v] 33) = w' := by
  subst hv
  go_enter Try.func51, Try.ntmps51
  go_wp2
  go_ret
  exact ⟨rfl, rfl⟩
theorem enters34 : ∀ args w, (callFunc 63 args).run Try.prog w = .ok (.enter 63 args) w := enters_of Try.func63 (by kernel_rfl) rfl
theorem groups_at {w : World} {v : Value} {l : List Sect} (hv : Sec w v l) (hl : l.length ≤ 100000) : Streams 2 63 #[.pointer (some ⟨w.heap.size, 0, none⟩)] w l (w.alloc (.cells #[v] 33)) :=
  groups_streams 2 w.heap.size l v w _ (by decide) hv hl (al1 _ _) (by simp) (Boxed.new w 33 v).cell

set_option maxHeartbeats 2000000 in
set_option maxRecDepth 100000 in
theorem head_any (x : Grp) (w : World) (hk : x.k ≤ 2) (hl : x.g.length ≤ 100000) :
    Calls Try.prog 52 #[gval x] w (MadeY w (enc (4 * x.g.length + x.k))) := by
  obtain ⟨k, g, A, c⟩ := x
  dsimp only at hk hl ⊢
  have hc : cl ((4 * g.length + k : Nat) : Int) = 4 * g.length + k := by rw [cl_in (by omega) (by omega)]; rfl
  have HP := hid (fun W : World => putInt_any ((4 * g.length + k : Nat) : Int) [] (.slice none 0 0) W (byt_nil _) nilOk_nil (by simp))
  rw [hc, List.nil_append] at HP
  clear hc
  show Calls Try.prog 52 #[.agg #[.int .i64 (k : Int), .slice A g.length c]] w _
  obtain ⟨n, hn⟩ : ∃ n, g.length = n := ⟨_, rfl⟩
  rw [hn] at HP hl ⊢
  clear hn
  go_enter Try.func52, Try.ntmps52
  go_wp2_with fail
  have e : ((4 * n + k : Nat) : Int) = 4 * (n : Int) + (k : Int) := by omega
  rw [e] at HP
  refine (HP.out _).mono ?_
  rintro e1 w1 ⟨v1, rfl, hv1, hn1, hb1⟩
  obtain ⟨a1, c1, rfl⟩ := byt_form hv1
  have HV1 := hid hv1
  have HB1 := hid (al_back hb1)
  have HN1 := hid hn1
  clear hv1 hb1 hn1 e
  go_wp2
  go_ret
  exact ⟨_, rfl, HV1.out, HN1.out, HB1.out⟩

/-- The sectors that stand behind the number. -/
def bodyN (k n : Nat) : Nat := if k = 0 then n else if k = 1 then 1 else 0
set_option maxHeartbeats 2000000 in
set_option maxRecDepth 100000 in
theorem body_any (x : Grp) (w0 w : World) (hx : GOk w0 x) :
    Calls Try.prog 53 #[gval x] w fun e w' => (∃ A c, e = .returned (.slice A (bodyN x.k x.g.length) c) ∧ Sec w0 (.slice A (bodyN x.k x.g.length) c) (x.g.take (bodyN x.k x.g.length))) ∧ Below w.heap.size w w' := by
  obtain ⟨k, g, A, c⟩ := x
  obtain ⟨hk, h0, hl, hs⟩ := hx
  dsimp only at hk h0 hl hs ⊢
  obtain ⟨b, off, cap', e, hcc, hcm, hbl, _⟩ := sec_at hs h0
  injection e with e1 e2 e3
  subst e1 e3
  have hp : 0 < g.length := List.length_pos_iff.2 h0
  have HB := hid (al1 w (.cells #[.int .i64 (k : Int), .slice (some ⟨b, off, none⟩) g.length c] 81))
  have h1 := sec_take hs rfl (k := 1) (by omega)
  rw [List.length_take, show min 1 g.length = 1 by omega] at h1
  have HS := hid hs
  have HS1 := hid h1
  have HTK : Hid (g.take g.length = g) := hid (List.take_of_length_le (Nat.le_refl _))
  have h1c : (1 : Int) ≤ (c : Int) := by omega
  show Calls Try.prog 53 #[.agg #[.int .i64 (k : Int), .slice (some ⟨b, off, none⟩) g.length c]] w _
  obtain ⟨n, hn⟩ : ∃ n, g.length = n := ⟨_, rfl⟩
  rw [hn] at HS HB HTK hp hcc ⊢
  clear hs h1 hl hn h0
  rcases k with _ | _ | _ | k
  · have hb : bodyN 0 n = n := rfl
    rw [hb]
    clear hb
    go_enter Try.func53, Try.ntmps53
    go_wp2
    go_ret
    exact ⟨⟨_, _, rfl, by rw [HTK.out]; exact HS.out⟩, HB.out⟩
  · have hb : bodyN (0 + 1) n = 1 := rfl
    rw [hb]
    clear hb
    go_enter Try.func53, Try.ntmps53
    go_wp2
    go_ret
    exact ⟨⟨_, _, rfl, HS1.out⟩, HB.out⟩
  · have hb : bodyN (0 + 1 + 1) n = 0 := rfl
    rw [hb]
    clear hb
    go_enter Try.func53, Try.ntmps53
    go_wp2
    go_ret
    exact ⟨⟨_, _, rfl, sec_empty _ _ _ (by unfold maxLen; omega)⟩, HB.out⟩
  · omega
end Go.Proofs.Ytldlddoealpomaa.Rl
