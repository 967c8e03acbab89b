/- Split of package extent. -/
import Derived.Test.YtkchenhkolpinaaI
import Derived.Test.YtkchenhkolpinaaJ
import Derived.Maps.OwnIn
namespace Go.Proofs.Ytkchenhkolpinaa
open Go.RowKit Go.Shelf
attribute [local go_sem] Oper.semAt_some

/-- The pieces of an extent (s, n), each of most sectors but the last. -/
def pcs (most : Int) : Nat → Int → Int → List (Int × Int)
  | 0, _, _ => []
  | f + 1, s, n => if 0 < n then (s, min n most) :: pcs most f (s + min n most) (n - min n most) else []
def piece (most s n : Int) : List (Int × Int) := pcs most n.toNat s n
theorem pcs_fuel {most : Int} (hm : 1 ≤ most) : ∀ (f g : Nat) (s n : Int), n.toNat ≤ f → n.toNat ≤ g → pcs most f s n = pcs most g s n := by
  intro f
  induction f with
  | zero =>
    intro g s n h1 h2
    have : ¬ 0 < n := by omega
    cases g with
    | zero => rfl
    | succ g => rw [pcs, pcs, if_neg this]
  | succ f ih =>
    intro g s n h1 h2
    cases g with
    | zero =>
      have : ¬ 0 < n := by omega
      rw [pcs, pcs, if_neg this]
    | succ g =>
      rw [pcs, pcs]
      by_cases h : 0 < n
      · rw [if_pos h, if_pos h, ih g _ _ (by omega) (by omega)]
      · rw [if_neg h, if_neg h]
theorem piece_pos {most s n : Int} (hm : 1 ≤ most) (hn : 0 < n) : piece most s n = (s, min n most) :: piece most (s + min n most) (n - min n most) := by
  unfold piece
  obtain ⟨f, hf⟩ : ∃ f, n.toNat = f + 1 := ⟨n.toNat - 1, by omega⟩
  rw [hf, pcs, if_pos hn]
  congr 1
  exact pcs_fuel hm _ _ _ _ (by omega) (by omega)
theorem piece_none {most s n : Int} (hn : ¬ 0 < n) : piece most s n = [] := by
  unfold piece
  have : n.toNat = 0 := by omega
  rw [this, pcs]
def splitL (most : Int) (l : List (Int × Int)) : List (Int × Int) := l.flatMap fun e => piece most e.1 e.2
theorem splitL_append (most : Int) (a b : List (Int × Int)) : splitL most (a ++ b) = splitL most a ++ splitL most b := by simp [splitL]
theorem pcs_length {most : Int} (hm : 1 ≤ most) (f : Nat) : ∀ (s n : Int), (pcs most f s n).length ≤ n.toNat := by
  induction f with
  | zero => intro s n; simp [pcs]
  | succ f ih =>
    intro s n
    rw [pcs]
    split
    · have := ih (s + min n most) (n - min n most)
      simp only [List.length_cons]
      omega
    · simp
theorem piece_length {most s n : Int} (hm : 1 ≤ most) : (piece most s n).length ≤ n.toNat := pcs_length hm _ _ _
theorem splitL_length {most : Int} (hm : 1 ≤ most) {l : List (Int × Int)} : ∀ {lo : Int}, Canon lo l → ((splitL most l).length : Int) ≤ cnt l := by
  induction l with
  | nil => intro lo _; simp [splitL, cnt]
  | cons e r ih =>
    intro lo h
    have := ih h.2.2.2
    have h2 := h.2.1
    have hp := piece_length (most := most) (s := e.1) (n := e.2) hm
    have : splitL most (e :: r) = piece most e.1 e.2 ++ splitL most r := by simp [splitL]
    rw [this, List.length_append]
    simp only [cnt]
    omega
theorem pcs_r64 {most : Int} (hm : 1 ≤ most) (f : Nat) : ∀ (s n : Int), 0 ≤ s → s + n ≤ 4096 → ∀ e ∈ pcs most f s n, 0 ≤ e.1 ∧ 1 ≤ e.2 ∧ e.1 + e.2 ≤ 4096 := by
  induction f with
  | zero => intro s n _ _ e he; cases he
  | succ f ih =>
    intro s n h0 h1 e he
    rw [pcs] at he
    split at he
    · rcases List.mem_cons.1 he with rfl | he
      · simp only; omega
      · exact ih _ _ (by omega) (by omega) e he
    · cases he
theorem splitL_r64 {most : Int} (hm : 1 ≤ most) {l : List (Int × Int)} (h : Canon 0 l) : ∀ e ∈ splitL most l, R64 e.1 ∧ R64 e.2 := by
  intro e he
  simp only [splitL, List.mem_flatMap] at he
  obtain ⟨f, hf, he⟩ := he
  have hb := canon_each h f hf
  have := pcs_r64 hm _ _ _ (by omega) (by omega) e he
  unfold R64
  omega

theorem split_step {wr w1 : World} {hi bp eb k : Nat} {v v' : Value} {s n m : Int} {xs : List Value} (HB : Hid (wr.heap[bp]? = some (.cells #[v] 22 (0, 0)))) (HE : Hid (wr.heap[eb]? = some (.cells #[.int .i64 s, .int .i64 n] 44 (0, 0))))
    (hown : wr.ownsRow hi 44 2 v k xs) (hne : v.ownBlock ≠ some eb) (hbp : bp < hi) (heb : hi ≤ eb)
    (hown' : w1.ownsRow hi 44 2 v' (k + 1) (xs ++ xflat [(s, m)])) (hgrow : (wr.alloc (.cells (xflat [(s, m)]).toArray 44)).grownBy w1 v.ownBlock) (hat : v'.ownBlock = v.ownBlock ∨ v'.ownBlock = some (wr.alloc (.cells (xflat [(s, m)]).toArray 44)).heap.size) :
    w1.cell? ⟨bp, 0, none⟩ = some v ∧ w1.frozen? ⟨bp, 0, none⟩ = false ∧ w1.cell? ⟨eb, 0, none⟩ = some (.int .i64 s) ∧ w1.cell? ⟨eb, 1, none⟩ = some (.int .i64 n) ∧ w1.frozen? ⟨eb, 0, none⟩ = false ∧ w1.frozen? ⟨eb, 1, none⟩ = false ∧
      ∃ g' cap', v' = .slice (some ⟨g', 0, none⟩) (k + 1) cap' ∧ Hid (
        (((w1.setCell ⟨bp, 0, none⟩ v').setCell ⟨eb, 0, none⟩ (.int .i64 (s + m))).setCell ⟨eb, 1, none⟩ (.int .i64 (n - m))).heap[bp]? = some (.cells #[v'] 22 (0, 0)) ∧
        (((w1.setCell ⟨bp, 0, none⟩ v').setCell ⟨eb, 0, none⟩ (.int .i64 (s + m))).setCell ⟨eb, 1, none⟩ (.int .i64 (n - m))).heap[eb]? = some (.cells #[.int .i64 (s + m), .int .i64 (n - m)] 44 (0, 0)) ∧
        (((w1.setCell ⟨bp, 0, none⟩ v').setCell ⟨eb, 0, none⟩ (.int .i64 (s + m))).setCell ⟨eb, 1, none⟩ (.int .i64 (n - m))).ownsRow hi 44 2 v' (k + 1) (xs ++ xflat [(s, m)]) ∧ v'.ownBlock ≠ some eb ∧
        wr.heap.size ≤ (((w1.setCell ⟨bp, 0, none⟩ v').setCell ⟨eb, 0, none⟩ (.int .i64 (s + m))).setCell ⟨eb, 1, none⟩ (.int .i64 (n - m))).heap.size ∧
        ∀ q, q < hi → q ≠ bp → (((w1.setCell ⟨bp, 0, none⟩ v').setCell ⟨eb, 0, none⟩ (.int .i64 (s + m))).setCell ⟨eb, 1, none⟩ (.int .i64 (n - m))).heap[q]? = wr.heap[q]?) ∧
      (((w1.setCell ⟨bp, 0, none⟩ v').setCell ⟨eb, 0, none⟩ (.int .i64 (s + m))).setCell ⟨eb, 1, none⟩ (.int .i64 (n - m))).os = wr.os ∧ (((w1.setCell ⟨bp, 0, none⟩ v').setCell ⟨eb, 0, none⟩ (.int .i64 (s + m))).setCell ⟨eb, 1, none⟩ (.int .i64 (n - m))).tape = wr.tape ∧
      (((w1.setCell ⟨bp, 0, none⟩ v').setCell ⟨eb, 0, none⟩ (.int .i64 (s + m))).setCell ⟨eb, 1, none⟩ (.int .i64 (n - m))).output = wr.output := by
  have hlt := (Array.getElem?_eq_some_iff.1 HE.out).1
  have hq : ∀ q, v.ownBlock = some q → hi ≤ q := fun q hq => (hown.lt q hq).1
  have hw1 := hgrow.size
  simp at hw1
  have hold : ∀ q, q < wr.heap.size → some q ≠ v.ownBlock → w1.heap[q]? = wr.heap[q]? := fun q h1 h2 => (hgrow.block q (by simp; omega) h2).trans (Below.heap_alloc _ _ _ h1)
  have hb1 : w1.heap[bp]? = some (.cells #[v] 22 (0, 0)) := (hold bp (by omega) (fun e => by have := hq _ e.symm; omega)).trans HB.out
  have he1 : w1.heap[eb]? = some (.cells #[.int .i64 s, .int .i64 n] 44 (0, 0)) := (hold eb hlt (fun e => hne e.symm)).trans HE.out
  have hbe : bp ≠ eb := by omega
  have hv'ne : v'.ownBlock ≠ some eb := by
    rcases hat with h | h
    · rw [h]; exact hne
    · rw [h]; simp; omega
  obtain ⟨g', cap', hv'⟩ := ownsRow_succ hown'
  have hg' := (hown'.lt g' (by rw [hv']; rfl)).1
  have hgb : v'.ownBlock ≠ some bp := by rw [hv']; simp [Value.ownBlock]; omega
  refine ⟨cell_of_row _ _ _ _ _ _ hb1, by unfold World.frozen?; rw [hb1]; simp, cell_of_row _ _ _ _ _ _ he1, cell_of_row _ _ _ _ _ _ he1, by unfold World.frozen?; rw [he1]; simp, by unfold World.frozen?; rw [he1]; simp, g', cap', hv', hid ⟨?_, ?_, ?_, hv'ne, ?_, ?_⟩, hgrow.os, hgrow.tape, hgrow.output⟩
  · rw [Below.heap_setCell _ _ _ _ hbe, Below.heap_setCell _ _ _ _ hbe]
    simp [World.setCell, Array.getElem?_modify, hb1]
  · have e1 : (w1.setCell ⟨bp, 0, none⟩ v').heap[eb]? = some (.cells #[.int .i64 s, .int .i64 n] 44 (0, 0)) := (Below.heap_setCell _ _ _ _ (Ne.symm hbe)).trans he1
    generalize w1.setCell ⟨bp, 0, none⟩ v' = w1' at e1
    simp [World.setCell, Array.getElem?_modify, e1]
  · exact ownsRow_setCell_other (ownsRow_setCell_other (ownsRow_setCell_other hown' hgb _) hv'ne _) hv'ne _
  · simp; omega
  · intro q hq1 hq2
    rw [Below.heap_setCell _ _ _ _ (by show q ≠ eb; omega), Below.heap_setCell _ _ _ _ (by show q ≠ eb; omega), Below.heap_setCell _ _ _ _ (by show q ≠ bp; exact hq2)]
    exact hold q (by omega) (fun e => by have := hq _ e.symm; omega)

/-- What stands behind k rounds over the pieces of an extent. -/
structure Cut (w0 W2 wr : World) (hi bp eb : Nat) (v : Value) (s n : Int) (xs : List (Int × Int)) : Prop where
  box : wr.heap[bp]? = some (.cells #[v] 22 (0, 0))
  ext : wr.heap[eb]? = some (.cells #[.int .i64 s, .int .i64 n] 44 (0, 0))
  own : wr.ownsRow hi 44 2 v xs.length (xflat xs)
  ne : v.ownBlock ≠ some eb
  size : W2.heap.size ≤ wr.heap.size
  same : ∀ q, q < hi → q ≠ bp → wr.heap[q]? = W2.heap[q]?
  os : wr.os = w0.os
  tape : wr.tape = w0.tape
  output : wr.output = w0.output

def cellNat (w : World) (eb : Nat) : Nat := match w.cell? ⟨eb, 1, none⟩ with | some (.int _ x) => x.toNat | _ => 0
theorem cellNat_of {w : World} {eb : Nat} {s n : Int} (h : w.heap[eb]? = some (.cells #[.int .i64 s, .int .i64 n] 44 (0, 0))) : cellNat w eb = n.toNat := by
  unfold cellNat
  rw [cell_of_row _ _ _ _ _ _ h]
  rfl

set_option maxHeartbeats 4000000 in
set_option maxRecDepth 100000 in
theorem split_in (a : List (Int × Int)) (va : Value) (most : Int) (w : World) (ha : Ext w va a) (la : a.length ≤ 10000) (hm : 1 ≤ most) (hmr : R64 most) :
    CallsIn Fence.wide 5 Try.prog 31 #[va, .int .i64 most] w fun e w' => ∃ v l, e = .returned (.tuple #[v, .int .i64 0]) ∧ Canon 0 l ∧ (∀ x, mem l x = mem a x) ∧ Ext w' v (splitL most l) ∧ Below w.heap.size w w' := by
  have hB : Below w.heap.size w ((w.alloc (.cells #[.int .i64 most] 3)).alloc (.cells #[.slice none 0 0] 22)) := ((Below.refl _ w).alloc (Nat.le_refl _) _).alloc (by simp) _
  have HC := hid (canonical_any a va _ (ha.below hB) la)
  obtain ⟨i0, hinf, hz0, hz1, hz2⟩ := info_parts info44
  obtain ⟨A, ca, hva⟩ : ∃ A ca, va = .slice A a.length ca := by obtain ⟨_, A, ca, h, _⟩ := ha; exact ⟨A, ca, h⟩
  subst hva
  clear ha
  obtain ⟨_, hmr2⟩ := hmr
  refine callsIn_of_wp_marks Try.func31 rfl trivial ?_ rfl
  simp only [Try.ntmps31, List.size_toArray, List.length_cons, List.length_nil, Nat.reduceAdd, Nat.reduceSub, Array.replicate_succ, Array.replicate_zero, List.push_toArray, List.append_toArray, List.nil_append, List.cons_append]
  gi_wp2_with (refine And.intro trivial ?_; gi_at_call 43; refine (callsIn_wide.2 HC.out).mono ?_; rintro e w2 ⟨fv, rfl, ⟨lb, hfv, hit⟩, hb2⟩; subst hfv)
  have HI := hid (hit 4 (by omega))
  clear hit HC
  have hzb2 := hb2.size
  simp at hzb2
  have hn2 : w2.heap[w.heap.size + 1]? = some (.cells #[.slice none 0 0] 22 (0, 0)) := (hb2.block _ (by simp)).trans (by have := heap_alloc_new (w.alloc (.cells #[.int .i64 most] 3)) (.cells #[.slice none 0 0] 22); rwa [World.size_alloc] at this)
  have hm2 : w2.heap[w.heap.size]? = some (.cells #[.int .i64 most] 3 (0, 0)) := (hb2.block _ (by simp; omega)).trans ((Below.heap_alloc _ _ _ (by simp)).trans (heap_alloc_new w _))
  have hbw : Below w.heap.size w w2 := hB.trans (hb2.mono (by simp; omega))
  refine wpIn_range rfl (by omega) (gf := 49) (lb := lb) rfl trivial (enters_of Try.func49 (by kernel_rfl) rfl) HI.out (Below.refl _ _) (Nat.le_refl _) (fun _ => rfl)
    (fun hi pre W => hi ≤ W.heap.size ∧ w2.heap.size < hi ∧ W.heap[w.heap.size]? = some (.cells #[.int .i64 most] 3 (0, 0)) ∧ (∃ v, W.heap[w.heap.size + 1]? = some (.cells #[v] 22 (0, 0)) ∧ W.ownsRow hi 44 2 v (splitL most pre).length (xflat (splitL most pre))) ∧ Below w.heap.size w W)
    (fun _ _ _ _ => False) ?h0 ?hI ?hIx ?hround ?hdone ?hstop
  case h0 =>
    intro hi' W' hb hlo hhi
    exact ⟨hhi, hlo, (hb.block _ (by omega)).trans hm2, ⟨.slice none 0 0, (hb.block _ (by omega)).trans hn2, World.ownsRow_nil _ _ _ _⟩, hbw.trans (hb.mono (by omega))⟩
  case hI =>
    rintro hi' s A B row ⟨h1, h2, hmb, ⟨v, hv, hown⟩, hbel⟩ hgr hrow
    refine ⟨Nat.le_trans h1 hgr.size, h2, (hgr.block _ (Array.getElem?_eq_some_iff.1 hmb).1 (fun e => by have := (hrow _ e.symm).1; omega)).trans hmb, ⟨v, (hgr.block _ (Array.getElem?_eq_some_iff.1 hv).1 (fun e => by have := (hrow _ e.symm).1; omega)).trans hv, hown.kept hgr ?_⟩, hbel.grown hgr hbel.size (fun k e => by have := (hrow k e).1; omega)⟩
    cases hob : v.ownBlock with
    | none => exact .inl rfl
    | some q => exact .inr (fun e => by have := (hrow q e.symm).2; have := (hown.lt q hob).1; omega)
  case hIx => exact fun _ _ _ _ _ _ h _ _ => h
  case hstop => exact fun _ _ _ _ _ _ _ h => h.elim
  case hround =>
    rintro l hi' pre ⟨s, n⟩ W hlo hlhi hhi ⟨_, hwhi, hmb, ⟨v, hv, hown⟩, hbel⟩ hcan
    obtain ⟨hpre, hs0, _, hn0, hsn⟩ := canon_split hcan
    obtain ⟨_, hc2⟩ := cnt_range hcan
    have hall := splitL_length hm hcan
    gi_wp2
    refine ⟨Kept.grown (World.grownBy_alloc W _ none) (by omega) hhi (fun r e => by cases e), fun W2 hg2 => ?_⟩
    have hzz := hg2.size
    simp at hzz
    have hB2 : W2.heap[w.heap.size + 1]? = some (.cells #[v] 22 (0, 0)) := (hg2.block _ (by simp; omega) (fun e => by injection e with e; omega)).trans ((Below.heap_alloc _ _ _ (by omega)).trans hv)
    have hM2 : W2.heap[w.heap.size]? = some (.cells #[.int .i64 most] 3 (0, 0)) := (hg2.block _ (by simp; omega) (fun e => by injection e with e; omega)).trans ((Below.heap_alloc _ _ _ (by omega)).trans hmb)
    have hx2 : W2.heap[W.heap.size]? = some (.cells #[.int .i64 s, .int .i64 n] 44 (0, 0)) := (hg2.block _ (by simp) (fun e => by injection e with e; omega)).trans (heap_alloc_new W _)
    have hown2 : W2.ownsRow hi' 44 2 v (splitL most pre).length (xflat (splitL most pre)) := (hown.alloc _).kept hg2 (by
      cases hob : v.ownBlock with
      | none => exact .inl rfl
      | some q => exact .inr (fun e => by injection e with e; have := (hown.lt q hob).1; omega))
    have hvne : v.ownBlock ≠ some W.heap.size := fun e => by have := (hown.lt _ e).2; omega
    have hb2' : Below w.heap.size w W2 := (hbel.alloc (by omega) _).grown hg2 (by simp; omega) (fun k e => by injection e with e; omega)
    have HCut : Hid (Cut W2 W2 W2 hi' (w.heap.size + 1) W.heap.size v s n (splitL most pre)) := hid ⟨hB2, hx2, hown2, hvne, Nat.le_refl _, fun _ _ _ => rfl, rfl, rfl, rfl⟩
    have HB2 := hid hb2'
    have HM2 := hid hM2
    have HW := hid hbel
    have hsp : splitL most (pre ++ [(s, n)]) = splitL most pre ++ piece most s n := by rw [splitL_append]; simp [splitL]
    rw [hsp, List.length_append] at hall
    have HSP := hid hsp
    clear hsp hB2 hM2 hx2 hown2 hvne hb2' hv hown hmb hbel
    gi_wp2
    gi_loopw [] (fun wr => ∃ (v' : Value) (s' n' : Int) (dn : List (Int × Int)), Hid (Cut W2 W2 wr hi' (w.heap.size + 1) W.heap.size v' s' n' (splitL most pre ++ dn)) ∧ Hid (dn ++ piece most s' n' = piece most s n) ∧ 0 ≤ s' ∧ 0 ≤ n' ∧ s' + n' ≤ 4096) (fun wr => cellNat wr W.heap.size)
    case atStart => exact ⟨v, s, n, [], by rw [List.append_nil]; exact HCut, hid rfl, hs0, by omega, hsn⟩
    case round =>
      obtain ⟨v', s', n', dn, HCut', HD, hs', hn', hsn'⟩ := hrel
      have hbp := HCut'.out.box
      have hep := HCut'.out.ext
      have hsz := HCut'.out.size
      have hmm := (HCut'.out.same w.heap.size (by omega) (by omega)).trans HM2.out
      have x0 : wr.cell? ⟨W.heap.size, 0, none⟩ = some (.int .i64 s') := cell_of_row _ _ _ _ _ _ hep
      have x1 : wr.cell? ⟨W.heap.size, 1, none⟩ = some (.int .i64 n') := cell_of_row _ _ _ _ _ _ hep
      have x2 : wr.cell? ⟨w.heap.size, 0, none⟩ = some (.int .i64 most) := cell_of_row _ _ _ _ _ _ hmm
      have x3 : wr.cell? ⟨w.heap.size + 1, 0, none⟩ = some v' := cell_of_row _ _ _ _ _ _ hbp
      have hcn := cellNat_of hep
      have HCN := hid hcn
      clear hbp hep hmm hcn
      by_cases hpos : 0 < n'
      · have hown' := HCut'.out.own
        have hpp := piece_pos (s := s') hm hpos
        have hlen : (splitL most pre ++ dn).length ≤ 4096 := by
          have h := congrArg List.length HD.out
          rw [List.length_append] at h ⊢
          omega
        obtain ⟨L, hL⟩ : ∃ L, L = (splitL most pre ++ dn).length := ⟨_, rfl⟩
        rw [← hL] at hown' hlen
        have HL := hid hL
        clear hL
        obtain ⟨m, hmin⟩ : ∃ m, min n' most = m := ⟨_, rfl⟩
        have hm1 : 1 ≤ m := by omega
        have hm2 : m ≤ n' := by omega
        rw [hmin] at hpp
        have HPP := hid hpp
        clear hpp
        have hne1 : W.heap.size ≠ w.heap.size + 1 := by omega
        have hne2 : w.heap.size + 1 ≠ W.heap.size := by omega
        have hhw : hi' ≤ wr.heap.size := by omega
        have hb44 := fun X => build44 s' m X
        gi_wp2_with (gi_at_builtin; refine wpListIn_append_own_at _ rfl _ _ 22 rfl hi' 44 i0 (.agg #[.int .i64 0, .int .i64 0]) 2 16 Try.underlying22 hinf hz0 hz1 hz2 rfl (by decide) _ _ _ rfl (hown'.alloc _) ⟨wr.heap.size, 0, none⟩ 1 1 _ rfl (xflat_length [(s', m)]) (cells_new wr 44 _) (one_cells s' m) (by unfold maxLen; omega) (by omega) (by simp; omega) ?_; intro v'' w1 hown'' hgrow _ hat; obtain ⟨y0, y1, y2, y3, y4, y5, g', cap', hv', HS, HO⟩ := split_step (hid HCut'.out.box) (hid HCut'.out.ext) hown' HCut'.out.ne (by omega) hhi hown'' hgrow hat; subst hv'; clear hown'' hgrow hat)
        go_roundw
        case rel =>
          obtain ⟨z1, z2, z3, z4, z5, z6⟩ := HS.out
          have hxs : splitL most pre ++ (dn ++ [(s', m)]) = (splitL most pre ++ dn) ++ [(s', m)] := by rw [List.append_assoc]
          refine ⟨_, s' + m, n' - m, dn ++ [(s', m)], hid ⟨z1, z2, ?_, z4, by omega, fun q h1 h2 => (z6 q h1 h2).trans (HCut'.out.same q h1 h2), HO.1.trans HCut'.out.os, HO.2.1.trans HCut'.out.tape, HO.2.2.trans HCut'.out.output⟩, hid ?_, by omega, by omega, by omega⟩
          · rw [hxs, xflat_append, List.length_append, ← HL.out]
            exact z3
          · rw [← HD.out, HPP.out]
            simp
        case measure =>
          obtain ⟨z1, z2, z3, z4, z5, z6⟩ := HS.out
          rw [HCN.out, cellNat_of z2]
          omega
      · have hpn := piece_none (most := most) (s := s') hpos
        have hdn : dn = piece most s n := by have := HD.out; rw [hpn, List.append_nil] at this; exact this
        subst hdn
        have HC2 := HCut'.out
        rw [← HSP.out] at HC2
        have HC3 := hid HC2
        clear HC2 hpn
        gi_wp2
        have HC2 := HC3.out
        have hws : Below w.heap.size w wr := ⟨HC2.os.trans HB2.out.os, HC2.tape.trans HB2.out.tape, HC2.output.trans HB2.out.output, Nat.le_trans HB2.out.size HC2.size, fun q hq => (HC2.same q (by omega) (by omega)).trans (HB2.out.block q hq)⟩
        exact ⟨⟨HC2.size, fun q hq => HC2.same q (by omega) (by omega)⟩, by omega, hwhi, (HC2.same w.heap.size (by omega) (by omega)).trans HM2.out, ⟨v', HC2.box, HC2.own⟩, hws⟩
  case hdone =>
    rintro D hi' xs W hD ⟨hcan, hmem⟩ ⟨_, hwhi, hmb, ⟨v, hv, hown⟩, hbel⟩ hdef
    have hcs : W.cell? ⟨w.heap.size + 1, 0, none⟩ = some v := cell_of_row _ _ _ _ _ _ hv
    have HV := hid hv
    clear hv hmb
    gi_wp2
    refine ⟨by simp, .inl ⟨_, _, rfl, run_takeDeferred hdef, ?_⟩⟩
    exact ⟨_, results_tmp2 rfl _ _ _, v, xs, rfl, hcan, hmem, ext_of_own (ownsRow_putObj hown _ hdef rfl) (splitL_r64 hm hcan), hbel.grown (grownBy_putObj' W D _) hbel.size (fun k e => by injection e with e; omega)⟩

theorem split_any (a : List (Int × Int)) (va : Value) (most : Int) (w : World) (ha : Ext w va a) (la : a.length ≤ 10000) (hmr : R64 most) :
    Calls Try.prog 31 #[va, .int .i64 most] w fun e w' => ∃ v l, e = .returned (.tuple #[v, .int .i64 (if most ≤ 0 then 1 else 0)]) ∧ Canon 0 l ∧ (0 < most → ∀ x, mem l x = mem a x) ∧ Ext w' v (if most ≤ 0 then [] else splitL most l) ∧ Below w.heap.size w w' := by
  by_cases hm : most ≤ 0
  · rw [if_pos hm]
    simp only [if_pos hm]
    have HM := hid hm
    clear hm
    obtain ⟨A, ca, hva⟩ : ∃ A ca, va = .slice A a.length ca := by obtain ⟨_, A, ca, h, _⟩ := ha; exact ⟨A, ca, h⟩
    subst hva
    clear ha
    have hm := HM.out
    go_enter Try.func31, Try.ntmps31
    go_wp2
    go_ret2
    exact ⟨_, [], rfl, trivial, fun h => by have := HM.out; omega, ext_nil _, (Below.refl _ _).alloc (Nat.le_refl _) _⟩
  · rw [if_neg hm]
    simp only [if_neg hm]
    refine (callsIn_wide.1 (split_in a va most w ha la (by omega) hmr)).mono ?_
    rintro e w' ⟨v, l, he, h1, h2, h3, h4⟩
    exact ⟨v, l, he, h1, fun _ => h2, h3, h4⟩
end Go.Proofs.Ytkchenhkolpinaa
