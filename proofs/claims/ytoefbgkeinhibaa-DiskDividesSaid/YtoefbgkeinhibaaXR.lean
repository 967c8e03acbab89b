/- A range over a function whose iterator writes cells of its own between two rounds: the contract between iterator and rounds, and the law for the statement. The blocks of the iterator are those from lo to hi - 1: laid before the first round. -/
import Derived.Test.YtoefbgkeinhibaaRows
import Derived.RangeFuncNested
import Derived.RangeFuncBound
import Derived.RangeFuncCalls
import Derived.RangeFuncLeaves
import Derived.WalkKit
namespace Go.Proofs.Ytoefbgkeinhibaa.Xt
open Go.RowKit

/-- What lies from nl to n0 - 1, and from lo to hi - 1, lies as it lay. -/
structure Kept (nl n0 lo hi : Nat) (W W' : World) : Prop where
  size : W.heap.size ≤ W'.heap.size
  same : ∀ k : Nat, (nl ≤ k ∧ k < n0) ∨ (lo ≤ k ∧ k < hi) → W'.heap[k]? = W.heap[k]?

theorem Kept.refl (nl n0 lo hi : Nat) (W : World) : Kept nl n0 lo hi W W := ⟨Nat.le_refl _, fun _ _ => rfl⟩
theorem Kept.trans {nl n0 lo hi : Nat} {A B C : World} (h : Kept nl n0 lo hi A B) (k : Kept nl n0 lo hi B C) : Kept nl n0 lo hi A C :=
  ⟨Nat.le_trans h.size k.size, fun i hi' => (k.same i hi').trans (h.same i hi')⟩
theorem Kept.less {nl n0 lo lo' hi : Nat} {A B : World} (h : Kept nl n0 lo hi A B) (hl : lo ≤ lo') : Kept nl n0 lo' hi A B :=
  ⟨h.size, fun i hi' => h.same i (hi'.imp id fun ⟨a, c⟩ => ⟨by omega, c⟩)⟩
theorem Kept.grown {nl n0 lo hi : Nat} {A B : World} {row : Option Nat} (h : A.grownBy B row) (hn : n0 ≤ A.heap.size) (hh : hi ≤ A.heap.size) (hr : ∀ r, row = some r → (r < nl ∨ n0 ≤ r) ∧ (r < lo ∨ hi ≤ r)) : Kept nl n0 lo hi A B :=
  ⟨h.size, fun i hi' => h.block i (by omega) (fun e => by have := hr i e.symm; omega)⟩
theorem Kept.cell {nl n0 lo hi : Nat} {A B : World} (h : Kept nl n0 lo hi A B) {p : Addr} (hp : (nl ≤ p.block ∧ p.block < n0) ∨ (lo ≤ p.block ∧ p.block < hi)) : B.cell? p = A.cell? p :=
  World.cell?_of_block (h.same _ hp)

/-- A step of the iterator's, as the rounds see it. -/
def Abid {β : Type} (lo : Nat) (J : Nat → β → World → Prop) : Prop :=
  ∀ (hi : Nat) (s : β) (A B : World) (row : Option Nat), J hi s A → A.grownBy B row → (∀ r, row = some r → lo ≤ r ∧ r < hi) → J hi s B

def Gives {α : Type} (F : Fence) (n : Nat) (P : Program) (g : Nat) (lb : Array Value) (encs : α → Array Value) (nl n0 : Nat) (S Sp : List α → Prop) (w : World) : Prop :=
  ∀ (l : Nat) (J Jx : Nat → List α → World → Prop) (W : World), Below w.heap.size w W →
    (∀ (hi : Nat) (W' : World), Below W.heap.size W W' → W.heap.size ≤ hi → hi ≤ W'.heap.size → J hi [] W') →
    Abid W.heap.size J → Abid W.heap.size Jx →
    (∀ (hi : Nat) (pre : List α) (x : α) (W1 : World), W.heap.size ≤ hi → J hi pre W1 → Sp (pre ++ [x]) → hi ≤ W1.heap.size → YieldAt F (n - 1) P l (encs x) W1 fun e W' =>
      (e = .returned (.bool true) ∧ J hi (pre ++ [x]) W' ∧ Kept nl n0 W.heap.size hi W1 W') ∨ (e = .returned (.bool false) ∧ Jx hi (pre ++ [x]) W')) →
    CallsIn F n P g (#[.func (.yield l) #[] #[]] ++ lb) W fun e W' => (∃ v, e = .returned v) ∧ ((∃ hi xs, W.heap.size ≤ hi ∧ S xs ∧ J hi xs W') ∨ (∃ hi pre, W.heap.size ≤ hi ∧ Sp pre ∧ Jx hi pre W'))

/-- How the body of a round may be left. -/
def rangeEnd {α : Type} (nl n0 lo hi : Nat) (I : Nat → List α → World → Prop) (Ix : Code → Nat → List α → World → Prop) (xs : List α) (W : World) : Exit → Act → World → Prop
  | .normal, _, W' => Kept nl n0 lo hi W W' ∧ I hi xs W'
  | .ret, _, W' => Kept nl n0 lo hi W W' ∧ Ix .ret hi xs W'
  | .exit id, _, W' => Kept nl n0 lo hi W W' ∧ Ix (.exit id) hi xs W'
  | .goto t, _, W' => Kept nl n0 lo hi W W' ∧ Ix (.goto t) hi xs W'
  | .panic _, _, _ => False
  | .outgrown, _, _ => False

variable {F : Fence} {n : Nat} {P : Program}

theorem wpIn_range {α : Type} {g : Operand} {ps : Array Tmp} {assign body : Code} {Q : Exit → Act → World → Prop} {a : Act} {w : World}
    (hro : F.round = none) (h1 : 1 ≤ n) {gf : Nat} {lb : Array Value} (hg : a.eval g = .func (.func gf) #[] lb) (hFg : F.fn gf) (eg : ∀ args w, (callFunc gf args).run P w = .ok (.enter gf args) w)
    {encs : α → Array Value} {nl n0 : Nat} {S Sp : List α → Prop} {w0 : World} (hseq : Gives F (n - 1) P gf lb encs nl n0 S Sp w0) (hb0 : Below w0.heap.size w0 w) (hn0 : n0 ≤ w.heap.size) (hps : ∀ x, (encs x).size = ps.size)
    (I : Nat → List α → World → Prop) (Ix : Code → Nat → List α → World → Prop)
    (h0 : ∀ (hi : Nat) (W' : World), Below w.heap.size w W' → w.heap.size < hi → hi ≤ W'.heap.size → I hi [] W')
    (hI : Abid w.heap.size I) (hIx : ∀ c, Abid w.heap.size (Ix c))
    (hround : ∀ (l hi : Nat) (pre : List α) (x : α) (W : World), w.heap.size ≤ l → l < hi → hi ≤ W.heap.size → I hi pre W → Sp (pre ++ [x]) →
      assign.wpIn (F.inRound l) (n - 1 - 1) P (Exit.then (fun a' W' => Kept nl n0 w.heap.size hi W W' ∧ ∀ W2, W'.grownBy W2 (some l) → body.wpIn (F.inRound l) (n - 1 - 1) P (rangeEnd nl n0 w.heap.size hi I Ix (pre ++ [x]) W2) a' W2) (fun _ _ _ => False))
        { tmps := (ps.zip (encs x)).foldl (fun t (p, v) => t.setIfInBounds p v) a.tmps, defers := [] } W)
    (hdone : ∀ (D hi : Nat) (xs : List α) (W : World), w.heap.size ≤ D → S xs → I hi xs W → W.heap[D]? = some (.deferred (some [])) → Q .normal { a with defers := { target := .collected D, args := #[] } :: a.defers } W)
    (hstop : ∀ (D hi : Nat) (c : Code) (pre : List α) (W : World), w.heap.size ≤ D → Sp pre → Ix c hi pre W → W.heap[D]? = some (.deferred (some [])) → c.wpIn F n P Q { a with defers := { target := .collected D, args := #[] } :: a.defers } W) :
    (Code.rangeFunc g ps assign body).wpIn F n P Q a w := by
  refine wpIn_rangeFunc ?_
  intro fn hfn
  rw [hro]
  obtain ⟨rec, hrec⟩ : ∃ rec : LoopState → Option Code → Loop, rec = fun st pe => { state := st, pending := pe, fn, tmps := a.tmps, params := ps, assign, body, defers := w.heap.size } := ⟨_, rfl⟩
  obtain ⟨W1, hW1⟩ : ∃ W1, (w.alloc (.deferred (some []))).alloc (.loop (rec .ready none)) = W1 := ⟨_, rfl⟩
  have hL1 : W1.heap[w.heap.size + 1]? = some (.loop (rec .ready none)) := by
    rw [← hW1]; have := World.alloc_heap_new (w.alloc (.deferred (some []))) (.loop (rec .ready none)); rwa [World.size_alloc] at this
  have hK1 : W1.heap[w.heap.size]? = some (.deferred (some [])) := by
    rw [← hW1]; exact (Below.heap_alloc _ _ _ (by simp)).trans (World.alloc_heap_new w _)
  have hz1 : W1.heap.size = w.heap.size + 2 := by rw [← hW1]; simp
  have hbw1 : Below w.heap.size w W1 := by rw [← hW1]; exact ((Below.refl _ w).alloc (Nat.le_refl _) _).alloc (by simp) _
  refine ⟨w.heap.size + 1, [{ target := .collected w.heap.size, args := #[] }], W1, { target := .fn (.func gf) lb, args := #[.func (.yield (w.heap.size + 1)) #[] #[]] }, W1, gf,
    #[.func (.yield (w.heap.size + 1)) #[] #[]] ++ lb, W1, ?_, ?_, ?_, ?_, fun _ => h1, ?_⟩
  · rw [← hW1, hrec]; exact run_enterLoop_outer _ _ _ _ _
  · simp only [resolve, hg]
    simp [go_sem]
  · intro f' hf'; simp [Target.leads] at hf'; subst hf'; exact hFg
  · simp [invoke, go_sem, eg]
  · refine (hseq (w.heap.size + 1)
      (fun hi pre W => I hi pre W ∧ W.heap[w.heap.size + 1]? = some (.loop (rec .ready none)) ∧ W.heap[w.heap.size]? = some (.deferred (some [])))
      (fun hi pre W => ∃ c, Ix c hi pre W ∧ W.heap[w.heap.size + 1]? = some (.loop (rec .done (some c))) ∧ W.heap[w.heap.size]? = some (.deferred (some [])))
      W1 (hb0.trans (hbw1.mono hb0.size)) ?_ ?_ ?_ ?_).mono ?_
    · intro hi W' hb hlo hhi
      exact ⟨h0 hi W' (hbw1.trans (hb.mono (by omega))) (by omega) hhi, (hb.block _ (by omega)).trans hL1, (hb.block _ (by omega)).trans hK1⟩
    · intro hi s A B row hs hg' hr
      have far : ∀ k, k < w.heap.size + 2 → some k ≠ row := fun k hk e => by have := (hr k e.symm).1; omega
      refine ⟨hI hi s A B row hs.1 hg' (fun r e => by have := hr r e; omega), ?_, ?_⟩
      · exact (hg'.block _ (Array.getElem?_eq_some_iff.1 hs.2.1).1 (far _ (by omega))).trans hs.2.1
      · exact (hg'.block _ (Array.getElem?_eq_some_iff.1 hs.2.2).1 (far _ (by omega))).trans hs.2.2
    · intro hi s A B row hs hg' hr
      obtain ⟨c, hc, hl, hk⟩ := hs
      have far : ∀ k, k < w.heap.size + 2 → some k ≠ row := fun k hk e => by have := (hr k e.symm).1; omega
      refine ⟨c, hIx c hi s A B row hc hg' (fun r e => by have := hr r e; omega), ?_, ?_⟩
      · exact (hg'.block _ (Array.getElem?_eq_some_iff.1 hl).1 (far _ (by omega))).trans hl
      · exact (hg'.block _ (Array.getElem?_eq_some_iff.1 hk).1 (far _ (by omega))).trans hk
    · rintro hi pre x W hhi ⟨hi0, hl, hk⟩ hsp hhW
      have hlt : w.heap.size + 1 < W.heap.size := (Array.getElem?_eq_some_iff.1 hl).1
      have hy := run_yield (P := P) (args := encs x) hl (by rw [hrec]; exact hps x)
      rw [hrec] at hy
      refine ⟨fn, _, assign, body, hy, roundIn_of_wpIn hfn ?_⟩
      refine wpIn_mono (hround (w.heap.size + 1) hi pre x W (by omega) (by omega) hhW hi0 hsp) ?_
      rintro e a' W' hp
      cases e with
      | normal =>
        obtain ⟨hk1, hbody⟩ := hp
        have hl' : W'.heap[w.heap.size + 1]? = some (.loop (rec .ready none)) := (hk1.same _ (.inr ⟨by omega, by omega⟩)).trans hl
        have hkk' : W'.heap[w.heap.size]? = some (.deferred (some [])) := (hk1.same _ (.inr ⟨by omega, by omega⟩)).trans hk
        have hlt' : w.heap.size + 1 < W'.heap.size := (Array.getElem?_eq_some_iff.1 hl').1
        obtain ⟨W2, hW2⟩ : ∃ W2, W'.putObj (w.heap.size + 1) (.loop { rec .ready none with state := .busy }) = W2 := ⟨_, rfl⟩
        have hl2 : W2.heap[w.heap.size + 1]? = some (.loop { rec .ready none with state := .busy }) := by rw [← hW2]; exact World.putObj_heap_same hlt'
        have hk2 : W2.heap[w.heap.size]? = some (.deferred (some [])) := by rw [← hW2]; exact (World.putObj_heap_other (by omega)).trans hkk'
        have hg2 : W'.grownBy W2 (some (w.heap.size + 1)) := by rw [← hW2]; exact grownBy_putObj' W' _ _
        refine ⟨W2, by rw [← hW2]; exact run_beginRound hl' (by rw [hrec]), ?_⟩
        refine wpIn_mono (hbody W2 hg2) ?_
        have hz : W.heap.size ≤ W2.heap.size := Nat.le_trans hk1.size hg2.size
        have back : ∀ {A B : World} (k : Nat), A.grownBy B (some (w.heap.size + 1)) → k ≠ w.heap.size + 1 → k < A.heap.size → B.heap[k]? = A.heap[k]? := fun k hg hne hlt => hg.block k hlt (fun e => hne (by injection e))
        have fin : ∀ (jump : Option Code) (W3 : World), Kept nl n0 w.heap.size hi W2 W3 →
            ∃ W4, (Instr.endRound (w.heap.size + 1) jump).run P W3 = .ok (.bool jump.isNone) W4 ∧ W3.grownBy W4 (some (w.heap.size + 1)) ∧
            W4.heap[w.heap.size + 1]? = some (.loop (rec (if jump.isNone then .ready else .done) jump)) ∧ W4.heap[w.heap.size]? = some (.deferred (some [])) ∧ Kept nl n0 W1.heap.size hi W W4 := fun jump W3 hk3 => by
          have hl3 := (hk3.same _ (.inr ⟨by omega, by omega⟩)).trans hl2
          have hd3 := (hk3.same _ (.inr ⟨by omega, by omega⟩)).trans hk2
          have hrun := run_endRound (P := P) jump hl3
          rw [hrec] at hrun
          refine ⟨_, hrun, grownBy_putObj' W3 _ _, ?_, (World.putObj_heap_other (by omega)).trans hd3, ?_⟩
          · rw [World.putObj_heap_same (Array.getElem?_eq_some_iff.1 hl3).1, hrec]
          · refine ⟨by have := hk3.size; simp; omega, fun k hk' => ?_⟩
            have hklt : k < W.heap.size := by omega
            refine (World.putObj_heap_other (by omega)).trans ((hk3.same k (by omega)).trans ((back k hg2 (by omega) (Nat.lt_of_lt_of_le hklt hk1.size)).trans (hk1.same k (by omega))))
        rintro e a3 W3 hp
        cases e with
        | normal =>
          obtain ⟨hk3, hi3⟩ := hp
          obtain ⟨W4, hr, hg4, hl4, hd4, hkk⟩ := fin none W3 hk3
          exact ⟨_, _, hr, .inl ⟨rfl, ⟨hI hi _ _ _ _ hi3 hg4 (fun r e => by cases e; omega), hl4, hd4⟩, hkk⟩⟩
        | ret =>
          obtain ⟨hk3, hi3⟩ := hp
          obtain ⟨W4, hr, hg4, hl4, hd4, hkk⟩ := fin (some .ret) W3 hk3
          exact ⟨_, _, hr, .inr ⟨rfl, .ret, hIx _ hi _ _ _ _ hi3 hg4 (fun r e => by cases e; omega), hl4, hd4⟩⟩
        | exit id =>
          obtain ⟨hk3, hi3⟩ := hp
          obtain ⟨W4, hr, hg4, hl4, hd4, hkk⟩ := fin (some (.exit id)) W3 hk3
          exact ⟨_, _, hr, .inr ⟨rfl, .exit id, hIx _ hi _ _ _ _ hi3 hg4 (fun r e => by cases e; omega), hl4, hd4⟩⟩
        | goto t =>
          obtain ⟨hk3, hi3⟩ := hp
          obtain ⟨W4, hr, hg4, hl4, hd4, hkk⟩ := fin (some (.goto t)) W3 hk3
          exact ⟨_, _, hr, .inr ⟨rfl, .goto t, hIx _ hi _ _ _ _ hi3 hg4 (fun r e => by cases e; omega), hl4, hd4⟩⟩
        | panic ch => exact hp.elim
        | outgrown => exact hp.elim
      | ret => exact hp.elim
      | exit id => exact hp.elim
      | goto t => exact hp.elim
      | panic ch => exact hp.elim
      | outgrown => exact hp.elim
    · rintro e W2 ⟨⟨v, rfl⟩, (⟨hi, xs, hhi, hS, hi0, hl, hk⟩ | ⟨hi, pre, hhi, hSp, c, hi0, hl, hk⟩)⟩
      · exact ⟨none, _, by have := run_endLoop (P := P) hl (by rw [hrec]; simp); rw [hrec] at this; exact this,
          hdone _ hi xs _ (Nat.le_refl _) hS (hI hi _ _ _ _ hi0 (grownBy_putObj' W2 _ _) (fun r e => by cases e; omega)) ((World.putObj_heap_other (by omega)).trans hk)⟩
      · exact ⟨some c, _, by have := run_endLoop (P := P) hl (by rw [hrec]; simp); rw [hrec] at this; exact this,
          hstop _ hi c pre _ (Nat.le_refl _) hSp (hIx c hi _ _ _ _ hi0 (grownBy_putObj' W2 _ _) (fun r e => by cases e; omega)) ((World.putObj_heap_other (by omega)).trans hk)⟩
end Go.Proofs.Ytoefbgkeinhibaa.Xt
