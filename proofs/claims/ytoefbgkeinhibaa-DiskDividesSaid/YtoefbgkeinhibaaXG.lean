/- extent.sweep, slices.Collect over it, and the functions made of both. -/
import Derived.Test.YtoefbgkeinhibaaXF
namespace Go.Proofs.Ytoefbgkeinhibaa.Xt
open Go.RowKit Go.Shelf
attribute [local go_sem] Oper.semAt_some

def enc2 (e : Int × Int) : List Value := [.int .i64 e.1, .int .i64 e.2]
def xflat (l : List (Int × Int)) : List Value := l.flatMap enc2
theorem xflat_length (l : List (Int × Int)) : (xflat l).length = l.length * 2 := by
  induction l with
  | nil => rfl
  | cons e r ih => simp only [xflat, List.flatMap_cons, List.length_append, List.length_cons] at ih ⊢; simp [enc2, ih]; omega
theorem xflat_append (a b : List (Int × Int)) : xflat (a ++ b) = xflat a ++ xflat b := by simp [xflat]
theorem xflat_get (l : List (Int × Int)) (i c : Nat) (hc : c < 2) : (xflat l)[i * 2 + c]? = (l[i]?).bind fun e => (enc2 e)[c]? := by
  induction l generalizing i with
  | nil => simp [xflat]
  | cons e r ih =>
    have hsplit : xflat (e :: r) = enc2 e ++ xflat r := by simp [xflat]
    rw [hsplit]
    cases i with
    | zero =>
      rw [List.getElem?_append_left (by simp [enc2]; omega)]
      simp
    | succ i =>
      rw [List.getElem?_append_right (by simp [enc2]; omega)]
      have : (i + 1) * 2 + c - (enc2 e).length = i * 2 + c := by simp [enc2]; omega
      rw [this, ih]
      simp

theorem ext_of_own {w : World} {base : Nat} {v : Value} {l : List (Int × Int)} (h : w.ownsRow base 29 2 v l.length (xflat l)) (hr : ∀ e ∈ l, R64 e.1 ∧ R64 e.2) : Ext w v l := by
  refine ⟨hr, ?_⟩
  rcases h.2 with ⟨rfl, hn⟩ | ⟨g, cap, cur, rfl, hb, hcur, hcap, hcm, hs, ht⟩
  · have hl : l = [] := List.eq_nil_of_length_eq_zero hn
    subst hl
    exact ⟨none, 0, rfl, Nat.le_refl _, by unfold maxLen; omega, 0, 0, fun h => absurd h (by simp), fun i e h => by simp at h⟩
  · refine ⟨some ⟨g, 0, none⟩, cap, rfl, hcap, hcm, g, 0, fun _ => ⟨rfl, (h.lt g rfl).2⟩, fun i e hi => ?_⟩
    have hl := (List.getElem?_eq_some_iff.1 hi).1
    have h0 := h.cellAt (i * 2) (by omega)
    have h1 := h.cellAt (i * 2 + 1) (by omega)
    have x0 := xflat_get l i 0 (by omega)
    have x1 := xflat_get l i 1 (by omega)
    rw [Nat.add_zero] at x0
    rw [x0, hi] at h0
    rw [x1, hi] at h1
    simp only [Nat.zero_add]
    exact ⟨h0, h1⟩
theorem r64_of_canon {l : List (Int × Int)} (h : Canon 0 l) : ∀ e ∈ l, R64 e.1 ∧ R64 e.2 := fun e he => by
  have := canon_each h e he
  unfold R64
  omega
theorem len_of_canon {l : List (Int × Int)} (h : Canon 0 l) : l.length ≤ 2049 := by
  rcases canon_length h with h | rfl
  · omega
  · simp

theorem sweep_any (va vb : Value) (A B : Option Addr) (m c m' c' fb : Nat) (hva : va = .slice A m c) (hvb : vb = .slice B m' c') (w : World) :
    Calls Try.prog 63 #[va, vb, .func (.func fb) #[] #[]] w fun e w' => e = .returned (.func (.func 73) #[] #[.pointer (some ⟨w.heap.size, 0, none⟩), .pointer (some ⟨w.heap.size + 1, 0, none⟩), .pointer (some ⟨w.heap.size + 2, 0, none⟩)]) ∧
      ((w.alloc (.cells #[va] 52)).alloc (.cells #[vb] 52)).alloc (.cells #[.func (.func fb) #[] #[]] 118) = w' := by
  subst hva hvb
  go_enter Try.func63, Try.ntmps63
  go_wp2
  go_ret
  exact ⟨rfl, rfl⟩

/-- fv is an iterator that yields the canonical list of the sectors for which p is true; what it leans on was laid from block nl on. -/
def ItV (nl : Nat) (w : World) (fv : Value) (p : Int → Bool) : Prop :=
  ∃ lb, fv = .func (.func 73) #[] lb ∧ ∀ n, 1 ≤ n → Gives Fence.wide n Try.prog 73 lb (fun e : Int × Int => #[extv e]) nl w.heap.size (fun xs => Canon 0 xs ∧ ∀ x, mem xs x = p x) (fun pre => Canon 0 pre) w

theorem sweep_it (a c : List (Int × Int)) (va vc : Value) (fb : Nat) (bf : Bool → Bool → Bool) (w : World) (hb0 : bf false false = false) (hfb : Belongs fb bf) (efb : ∀ args w, (callFunc fb args).run Try.prog w = .ok (.enter fb args) w)
    (ha : Ext w va a) (hc : Ext w vc c) (la : a.length ≤ 10000) (lc : c.length ≤ 10000) :
    Calls Try.prog 63 #[va, vc, .func (.func fb) #[] #[]] w fun e w' => ∃ fv, e = .returned fv ∧ ItV w.heap.size w' fv (fun x => bf (mem a x) (mem c x)) ∧ Below w.heap.size w w' := by
  obtain ⟨A, ca, hva⟩ : ∃ A ca, va = .slice A a.length ca := by obtain ⟨_, A, ca, h, _⟩ := ha; exact ⟨A, ca, h⟩
  obtain ⟨C, cc, hvc⟩ : ∃ C cc, vc = .slice C c.length cc := by obtain ⟨_, A, ca, h, _⟩ := hc; exact ⟨A, ca, h⟩
  refine (sweep_any va vc A C _ _ _ _ fb hva hvc w).mono ?_
  rintro e w' ⟨rfl, rfl⟩
  have hB : Below w.heap.size w (((w.alloc (.cells #[va] 52)).alloc (.cells #[vc] 52)).alloc (.cells #[.func (.func fb) #[] #[]] 118)) := (((Below.refl _ w).alloc (Nat.le_refl _) _).alloc (by simp) _).alloc (by simp; omega) _
  refine ⟨_, rfl, ⟨_, rfl, fun n hn => ?_⟩, hB⟩
  have e1 : (((w.alloc (.cells #[va] 52)).alloc (.cells #[vc] 52)).alloc (.cells #[.func (.func fb) #[] #[]] 118)).cell? ⟨w.heap.size, 0, none⟩ = some va := by
    rw [World.cell?_alloc_lt _ _ _ (by simp; omega), World.cell?_alloc_lt _ _ _ (by simp)]
    exact cell_of_row _ _ _ _ _ _ (heap_alloc_new w _)
  have e2 : (((w.alloc (.cells #[va] 52)).alloc (.cells #[vc] 52)).alloc (.cells #[.func (.func fb) #[] #[]] 118)).cell? ⟨w.heap.size + 1, 0, none⟩ = some vc := by
    rw [World.cell?_alloc_lt _ _ _ (by simp)]
    have := cell_of_row _ _ 0 _ _ _ (heap_alloc_new (w.alloc (.cells #[va] 52)) (.cells #[vc] 52))
    rw [World.size_alloc] at this
    exact this
  have e3 : (((w.alloc (.cells #[va] 52)).alloc (.cells #[vc] 52)).alloc (.cells #[.func (.func fb) #[] #[]] 118)).cell? ⟨w.heap.size + 2, 0, none⟩ = some (.func (.func fb) #[] #[]) := by
    have := cell_of_row _ _ 0 _ _ _ (heap_alloc_new ((w.alloc (.cells #[va] 52)).alloc (.cells #[vc] 52)) (.cells #[.func (.func fb) #[] #[]] 118))
    rw [World.size_alloc, World.size_alloc] at this
    exact this
  exact sweep_gives n _ _ _ fb _ _ a c va vc bf _ hb0 hn hfb efb e1 e2 e3 (by simp; omega) (by simp) (by simp) (by omega) (Nat.le_refl _) (ha.below hB) (hc.below hB) la lc

theorem one_cells (s n : Int) : ∀ u ∈ xflat [(s, n)], u.oneCell' = true := by
  intro u hu
  simp only [xflat, enc2, List.flatMap_cons, List.flatMap_nil, List.append_nil, List.mem_cons, List.not_mem_nil, or_false] at hu
  rcases hu with rfl | rfl <;> rfl
theorem collect_step {w W2 w1 : World} {nl hi' : Nat} {v v' : Value} {pre : List (Int × Int)} {s n : Int} (HB2 : Hid (W2.heap[w.heap.size]? = some (.cells #[v] 52 (0, 0)))) (hown2 : W2.ownsRow hi' 29 2 v pre.length (xflat pre))
    (hown' : w1.ownsRow hi' 29 2 v' (pre.length + 1) (xflat pre ++ xflat [(s, n)])) (hgrow : (W2.alloc (.cells (xflat [(s, n)]).toArray 29)).grownBy w1 v.ownBlock) (hws : w.heap.size < hi') (hhi2 : hi' ≤ W2.heap.size) (hb : Below w.heap.size w W2) :
    w1.cell? ⟨w.heap.size, 0, none⟩ = some v ∧ w1.frozen? ⟨w.heap.size, 0, none⟩ = false ∧ ∃ g' cap', v' = .slice (some ⟨g', 0, none⟩) (pre.length + 1) cap' ∧
      Hid (Kept nl w.heap.size (w.heap.size + 1) hi' W2 (w1.setCell ⟨w.heap.size, 0, none⟩ v') ∧ hi' ≤ (w1.setCell ⟨w.heap.size, 0, none⟩ v').heap.size ∧ (w1.setCell ⟨w.heap.size, 0, none⟩ v').heap[w.heap.size]? = some (.cells #[v'] 52 (0, 0)) ∧
        (w1.setCell ⟨w.heap.size, 0, none⟩ v').ownsRow hi' 29 2 v' (pre ++ [(s, n)]).length (xflat (pre ++ [(s, n)])) ∧ Below w.heap.size w (w1.setCell ⟨w.heap.size, 0, none⟩ v')) := by
  have hq : ∀ q, v.ownBlock = some q → hi' ≤ q := fun q hq => (hown2.lt q hq).1
  have hw1 := hgrow.size
  simp at hw1
  have hB3 : w1.heap[w.heap.size]? = some (.cells #[v] 52 (0, 0)) := (hgrow.block _ (by simp; omega) (fun e => by have := hq _ e.symm; omega)).trans ((Below.heap_alloc _ _ _ (by omega)).trans HB2.out)
  have hk3 : Kept nl w.heap.size (w.heap.size + 1) hi' W2 w1 :=
    (Kept.grown (World.grownBy_alloc W2 (.cells (xflat [(s, n)]).toArray 29) none) (by omega) hhi2 (fun r e => by cases e)).trans (Kept.grown hgrow (by simp; omega) (by simp; omega) (fun r e => by have := hq r e; exact ⟨.inr (by omega), .inr this⟩))
  have hb3 : Below w.heap.size w w1 := (hb.alloc (by omega) _).grown hgrow (by simp; omega) (fun k e => by have := hq k e; omega)
  have hlen' : pre.length + 1 = (pre ++ [(s, n)]).length := by simp
  have hown3 : w1.ownsRow hi' 29 2 v' (pre ++ [(s, n)]).length (xflat (pre ++ [(s, n)])) := by rw [xflat_append, ← hlen']; exact hown'
  obtain ⟨g', cap', hv'⟩ := ownsRow_succ hown'
  have hg' := (hown'.lt g' (by rw [hv']; rfl)).1
  refine ⟨cell_of_row _ _ _ _ _ _ hB3, by unfold World.frozen?; rw [hB3]; simp, g', cap', hv', hid ⟨?_, by simp; omega, ?_, ?_, ?_⟩⟩
  · exact hk3.trans ⟨by simp, fun q hq' => Below.heap_setCell w1 ⟨w.heap.size, 0, none⟩ v' q (by show q ≠ w.heap.size; omega)⟩
  · simp [World.setCell, Array.getElem?_modify, hB3]
  · exact ownsRow_setCell_other hown3 (by rw [hv']; simp [Value.ownBlock]; omega) _
  · exact hb3.setCell (p := ⟨w.heap.size, 0, none⟩) (Nat.le_refl _) _

set_option maxHeartbeats 2000000 in
set_option maxRecDepth 100000 in
theorem appendseq_in (nl : Nat) (fv : Value) (p : Int → Bool) (w : World) (hit : ItV nl w fv p) :
    CallsIn Fence.wide 5 Try.prog 72 #[.slice none 0 0, fv] w fun e w' => ∃ v l, e = .returned v ∧ Canon 0 l ∧ (∀ x, mem l x = p x) ∧ Ext w' v l ∧ Below w.heap.size w w' := by
  obtain ⟨lb, rfl, hg⟩ := hit
  obtain ⟨i0, hinf, hz0, hz1, hz2⟩ := info_parts info29
  have HGv := hid (hg 4 (by omega))
  clear hg
  refine callsIn_of_wp_marks Try.func72 rfl trivial ?_ rfl
  simp only [Try.ntmps72, List.size_toArray, List.length_cons, List.length_nil, Nat.reduceAdd, Nat.reduceSub, Array.replicate_succ, Array.replicate_zero, List.push_toArray, List.append_toArray, List.nil_append, List.cons_append]
  gi_wp2
  refine wpIn_range rfl (by omega) (gf := 73) (lb := lb) rfl trivial (enters_of Try.func73 (by kernel_rfl) rfl) HGv.out ((Below.refl _ _).alloc (Nat.le_refl _) _) (by simp) (fun _ => rfl)
    (fun hi pre W => hi ≤ W.heap.size ∧ w.heap.size < hi ∧ (∃ v, W.heap[w.heap.size]? = some (.cells #[v] 52 (0, 0)) ∧ W.ownsRow hi 29 2 v pre.length (xflat pre)) ∧ Below w.heap.size w W)
    (fun _ _ _ _ => False) ?h0 ?hI ?hIx ?hround ?hdone ?hstop
  case h0 =>
    intro hi' W' hb hlo hhi
    simp at hlo
    exact ⟨hhi, by omega, ⟨.slice none 0 0, (hb.block _ (by simp)).trans (heap_alloc_new w _), World.ownsRow_nil _ _ _ _⟩, ((Below.refl w.heap.size w).alloc (Nat.le_refl _) _).trans (hb.mono (by simp))⟩
  case hI =>
    rintro hi' s A B row ⟨h1, h2, ⟨v, hv, hown⟩, hbel⟩ hgr hrow
    refine ⟨Nat.le_trans h1 hgr.size, h2, ⟨v, ?_, ?_⟩, hbel.grown hgr hbel.size (fun k e => by have := (hrow k e).1; simp at this; omega)⟩
    · exact (hgr.block _ (Array.getElem?_eq_some_iff.1 hv).1 (fun e => by have := (hrow _ e.symm).1; simp at this; omega)).trans hv
    · refine hown.kept hgr ?_
      cases hob : v.ownBlock with
      | none => exact .inl rfl
      | some q => exact .inr (fun e => by have := (hrow q e.symm).2; have := (hown.lt q hob).1; omega)
  case hIx => exact fun _ _ _ _ _ _ h _ _ => h
  case hstop => exact fun _ _ _ _ _ _ _ h => h.elim
  case hround =>
    rintro l hi' pre ⟨s, n⟩ W hlo hlhi hhi ⟨_, hwhi, ⟨v, hv, hown⟩, hbel⟩ hcan
    have hplen := len_of_canon hcan
    simp only [List.length_append, List.length_cons, List.length_nil] at hplen
    have hsn := (canon_split hcan).2
    gi_wp2
    refine ⟨Kept.grown (World.grownBy_alloc W _ none) (by have := hbel.size; omega) hhi (fun r e => by cases e), fun W2 hg2 => ?_⟩
    have hlo' : w.heap.size + 1 ≤ l := by simpa using hlo
    have hzz := hg2.size
    have hB2 : W2.heap[w.heap.size]? = some (.cells #[v] 52 (0, 0)) := (hg2.block _ (by simp; omega) (fun e => by injection e with e; omega)).trans ((Below.heap_alloc _ _ _ (by omega)).trans hv)
    have hx2 : W2.heap[W.heap.size]? = some (.cells #[.int .i64 s, .int .i64 n] 29 (0, 0)) := (hg2.block _ (by simp) (fun e => by injection e with e; omega)).trans (heap_alloc_new W _)
    have hc0 : W2.cell? ⟨W.heap.size, 0, none⟩ = some (.int .i64 s) := cell_of_row _ _ _ _ _ _ hx2
    have hc1 : W2.cell? ⟨W.heap.size, 1, none⟩ = some (.int .i64 n) := cell_of_row _ _ _ _ _ _ hx2
    have hcs : W2.cell? ⟨w.heap.size, 0, none⟩ = some v := cell_of_row _ _ _ _ _ _ hB2
    have hown2 : W2.ownsRow hi' 29 2 v pre.length (xflat pre) := (hown.alloc _).kept hg2 (by
      cases hob : v.ownBlock with
      | none => exact .inl rfl
      | some q => exact .inr (fun e => by injection e with e; have := (hown.lt q hob).1; omega))
    have HB2 := hid hB2
    have hws2 : w.heap.size < W2.heap.size := by simp at hzz; omega
    have hhi2 : hi' ≤ W2.heap.size := by simp at hzz; omega
    clear hB2 hx2 hv hown
    have hb2 : Below w.heap.size w W2 := (hbel.alloc (Nat.le_of_lt (Nat.lt_of_lt_of_le hwhi hhi)) _).grown hg2 (by simp; omega) (fun k e => by injection e with e; omega)
    gi_wp2_with (gi_at_builtin; refine wpListIn_append_own _ rfl _ _ 52 rfl hi' 29 i0 (.agg #[.int .i64 0, .int .i64 0]) 2 16 Try.underlying52 hinf hz0 hz1 hz2 rfl (by decide) _ _ _ rfl (hown2.alloc _) ⟨W2.heap.size, 0, none⟩ 1 1 _ rfl (xflat_length [(s, n)]) (cells_new W2 29 _) (one_cells s n) (by unfold maxLen; omega) (by omega) (by simp; omega) ?_; intro v' w1 hown' hgrow _; obtain ⟨hv3, hf3, g', cap', hv', HS⟩ := collect_step (nl := nl) HB2 hown2 hown' hgrow hwhi hhi2 hb2; subst hv'; clear hown' hgrow)
    obtain ⟨hk, hh, hc3, ho3, hb3⟩ := HS.out
    exact ⟨by simpa using hk, hh, hwhi, ⟨_, hc3, ho3⟩, hb3⟩
  case hdone =>
    rintro D hi' xs W hD ⟨hcan, hmem⟩ ⟨_, hwhi, ⟨v, hv, hown⟩, hbel⟩ hdef
    have hcs : W.cell? ⟨w.heap.size, 0, none⟩ = some v := cell_of_row _ _ _ _ _ _ hv
    have HV := hid hv
    clear hv
    gi_wp2
    refine ⟨by simp, .inl ⟨_, _, rfl, run_takeDeferred hdef, ?_⟩⟩
    refine ⟨_, results_tmp rfl _ _ _, v, xs, rfl, hcan, hmem, ext_of_own (ownsRow_putObj hown _ hdef rfl) (r64_of_canon hcan), hbel.grown (grownBy_putObj' W D _) hbel.size (fun k e => by injection e with e; simp at hD; omega)⟩

theorem collect_any (nl : Nat) (fv : Value) (p : Int → Bool) (w : World) (hit : ItV nl w fv p) :
    Calls Try.prog 62 #[fv] w fun e w' => ∃ v l, e = .returned v ∧ Canon 0 l ∧ (∀ x, mem l x = p x) ∧ Ext w' v l ∧ Below w.heap.size w w' := by
  have h := callsIn_wide.1 (appendseq_in nl fv p w hit)
  obtain ⟨lb, rfl, _⟩ := hit
  go_enter Try.func62, Try.ntmps62
  go_wp2_with (go_at_call 72; refine h.mono ?_; rintro e w' ⟨v, l, rfl, h1, h2, h3, h4⟩)
  go_ret
  exact ⟨v, l, rfl, h1, h2, h3, h4⟩
end Go.Proofs.Ytoefbgkeinhibaa.Xt
