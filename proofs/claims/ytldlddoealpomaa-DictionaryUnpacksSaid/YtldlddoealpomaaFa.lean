/- The map of places: its keys, what it holds, a look-up, an entry. -/
import Derived.Test.YtldlddoealpomaaEc
import Derived.DeepKeys5
import Derived.Maps.GroupsBeside
import Derived.WideKeyEntry
namespace Go.Proofs.Ytldlddoealpomaa
open Go.RowKit Go.Lib Go.Maps Go.WideElems
open Go.ChangeMaps (setBlock heap_setBlock_same)
open Go.MapKept (Stamped)

/-- Four bytes. -/
def B4 (κ : List Nat) : Prop := κ.length = 4 ∧ B8 κ
def kv (κ : List Nat) : Value := .agg (κ.map byteV).toArray
theorem kv_inj {a b : List Nat} (h : kv a = kv b) : a = b := by
  unfold kv at h
  injection h with h
  have h2 : a.map byteV = b.map byteV := by have := congrArg Array.toList h; simpa using this
  exact List.map_inj_right (fun x y hxy => by unfold byteV at hxy; injection hxy with _ h; exact Int.ofNat_inj.1 h) |>.1 h2
theorem keyed95 : Keyed Try.prog 95 := Keyed.of_law (deep_law_gate (by kernel_rfl) (of_decide_eq_true (by kernel_rfl)) (of_decide_eq_true (by kernel_rfl)) (by kernel_rfl) (by rw [Try.underlying95]))
theorem keyType95 : Try.prog.keyType 95 = true := by kernel_rfl
theorem cells95 : Try.prog.cellsOf 95 = 4 := by kernel_rfl
theorem cells5' : Try.prog.cellsOf 5 = 1 := by kernel_rfl
theorem size_types : ∃ m, Try.prog.types.size = m + 1 := ⟨Try.prog.types.size - 1, by have : 0 < Try.prog.types.size := of_decide_eq_true (by kernel_rfl); omega⟩
theorem key_of {κ : List Nat} (h : B4 κ) : ∃ l, keyOf Try.prog 95 (kv κ) = some l := by
  obtain ⟨hl, h8⟩ := h
  match κ, hl with
  | [a, b, c, d], _ =>
    have wf : ∀ x ∈ [a, b, c, d], (Lit.int .u8 (x : Int)).wf = true := fun x hx => WalkArith.wf_u8 (by have := h8 x hx; omega)
    obtain ⟨m, hm⟩ := size_types
    have wa := wf a (by simp)
    have wb := wf b (by simp)
    have wc := wf c (by simp)
    have wd := wf d (by simp)
    unfold keyOf
    simp only [Try.underlying95]
    rw [if_pos (by simp [keyType95, Value.formed, Try.underlying95, kv, cells95]), hm]
    unfold Program.keyLits
    simp only [Try.underlying95, Value.cells, kv]
    rw [if_pos (by rw [cells95]; rfl), show List.range 4 = [0, 1, 2, 3] from rfl, List.mapM_cons, List.mapM_cons, List.mapM_cons, List.mapM_cons, List.mapM_nil]
    simp [cells5', Program.keyLits, Try.underlying5, wa, wb, wc, wd, byteV]
/-- The places below a at which κ stands. -/
def PF (x : List Nat) (a : Nat) (κ : List Nat) : List Nat := (List.range a).filter fun p => decide (p + 4 ≤ x.length) && decide ((x.drop p).take 4 = κ)
theorem pf_succ (x : List Nat) (a : Nat) (κ : List Nat) : PF x (a + 1) κ = PF x a κ ++ if a + 4 ≤ x.length ∧ (x.drop a).take 4 = κ then [a] else [] := by
  unfold PF
  rw [List.range_succ, List.filter_append]
  congr 1
  by_cases h : a + 4 ≤ x.length ∧ (x.drop a).take 4 = κ
  · rw [if_pos h]; simp [h.1, h.2]
  · rw [if_neg h]
    by_cases h1 : a + 4 ≤ x.length
    · simp [h1, show ¬ (x.drop a).take 4 = κ from fun e => h ⟨h1, e⟩]
    · simp [h1]
theorem pf_len (x : List Nat) (a : Nat) (κ : List Nat) : (PF x a κ).length ≤ a := by
  unfold PF
  exact Nat.le_trans (List.length_filter_le _ _) (by simp)
theorem pf_lt {x : List Nat} {a p : Nat} {κ : List Nat} (h : p ∈ PF x a κ) : p < a := by
  unfold PF at h
  exact List.mem_range.1 (List.mem_filter.1 h).1
def posV (l : List Nat) : List Value := l.map fun (p : Nat) => Value.int .i64 (p : Int)
/-- The map bm holds, at each four bytes that stand below a, a row of one's own with their places. -/
def Plc (w : World) (bm : Nat) (x : List Nat) (a : Nat) : Prop := ∃ es clock, w.heap[bm]? = some (.map es clock) ∧ Stamped es clock ∧ es.size ≤ a ∧
  (∀ e ∈ es.toList, ∃ κ, B4 κ ∧ e.key = kv κ ∧ PF x a κ ≠ [] ∧ w.ownsRow (bm + 1) 3 1 e.val (PF x a κ).length (posV (PF x a κ))) ∧
  (∀ κ, B4 κ → PF x a κ ≠ [] → ∃ e ∈ es.toList, e.key = kv κ) ∧
  (∀ e ∈ es.toList, ∀ e' ∈ es.toList, e.key ≠ e'.key → e.val.ownBlock ≠ e'.val.ownBlock)
theorem plc_made (w : World) (x : List Nat) : Plc (w.alloc (.map #[] 0)) w.heap.size x 0 :=
  ⟨#[], 0, heap_alloc_new _ _, by refine ⟨?_, ?_, ?_⟩ <;> simp, by simp, fun e he => by simp at he, fun κ _ h => absurd (by simp [PF]) h, fun e he => by simp at he⟩
theorem own_beside {w w' : World} {B E st n : Nat} {v : Value} {xs : List Value} {o : Option Nat} (h : w.ownsRow B E st v n xs) (hg : w.grownBy w' o) (hne : ∀ k, v.ownBlock = some k → some k ≠ o) : w'.ownsRow B E st v n xs := by
  refine ⟨h.1, ?_⟩
  rcases h.2 with h0 | ⟨k, cap, cur, e, hb, hgb, h2⟩
  · exact .inl h0
  · exact .inr ⟨k, cap, cur, e, hb, (hg.block k (box_lt hgb) (hne k (by rw [e]; rfl))).trans hgb, h2⟩
theorem own_type {w : World} {B E st n k : Nat} {v : Value} {xs : List Value} (h : w.ownsRow B E st v n xs) (hk : v.ownBlock = some k) : ∃ cs, w.heap[k]? = some (.cells cs E) := by
  rcases h.2 with ⟨rfl, _⟩ | ⟨g, cap, cur, rfl, _, hgb, _⟩
  · cases hk
  · injection hk with hk
    subst hk
    exact ⟨_, hgb⟩
theorem own_pos {w : World} {B E st n : Nat} {v : Value} {xs : List Value} (h : w.ownsRow B E st v n xs) (hn : 0 < n) : ∃ k, v.ownBlock = some k := by
  rcases h.2 with ⟨_, h0⟩ | ⟨g, cap, cur, rfl, _⟩
  · omega
  · exact ⟨g, rfl⟩
theorem Plc.grown {w w' : World} {bm a : Nat} {x : List Nat} {o : Option Nat} (h : Plc w bm x a) (hg : w.grownBy w' o) (h1 : some bm ≠ o) (h2 : ∀ k cs, o = some k → w.heap[k]? ≠ some (.cells cs 3)) : Plc w' bm x a := by
  obtain ⟨es, clock, hb, hs, hn, hr, hall, hap⟩ := h
  refine ⟨es, clock, (hg.block bm (box_lt hb) h1).trans hb, hs, hn, fun e he => ?_, hall, hap⟩
  obtain ⟨κ, q1, q2, q3, q4⟩ := hr e he
  refine ⟨κ, q1, q2, q3, own_beside q4 hg fun k hk e2 => ?_⟩
  obtain ⟨cs, hcs⟩ := own_type q4 hk
  exact h2 k cs e2.symm hcs
theorem Plc.below {w w' : World} {bm a : Nat} {x : List Nat} (h : Plc w bm x a) (hb : Below w.heap.size w w') : Plc w' bm x a :=
  h.grown (o := none) ⟨hb.os, hb.tape, hb.output, hb.size, fun i hi _ => hb.block i hi⟩ (by simp) (fun k cs e => by cases e)
theorem own_off {w : World} {base n E st : Nat} {v : Value} {xs : List Value} (h : w.ownsRow base E st v n xs) {x : Nat} (hx : ∀ k, v.ownBlock = some k → k ≠ x) (i : Nat) (u : Value) : (w.setCell ⟨x, i, none⟩ u).ownsRow base E st v n xs := by
  refine ⟨h.1, ?_⟩
  rcases h.2 with h0 | ⟨k, cap, cur, e, hb, hgb, h2⟩
  · exact .inl h0
  · exact .inr ⟨k, cap, cur, e, hb, (Below.heap_setCell _ _ _ _ (hx k (by rw [e]; rfl))).trans hgb, h2⟩
theorem Plc.set {w : World} {bm a g : Nat} {x : List Nat} {cs : Array Value} {T : TypeId} (h : Plc w bm x a) (hg : w.heap[g]? = some (.cells cs T)) (hT : T ≠ 3) (i : Nat) (v : Value) : Plc (w.setCell ⟨g, i, none⟩ v) bm x a := by
  obtain ⟨es, clock, hb, hs, hn, hr, hall, hap⟩ := h
  have hne : bm ≠ g := fun e => by rw [e, hg] at hb; cases hb
  refine ⟨es, clock, (Below.heap_setCell _ _ _ _ hne).trans hb, hs, hn, fun e he => ?_, hall, hap⟩
  obtain ⟨κ, q1, q2, q3, q4⟩ := hr e he
  refine ⟨κ, q1, q2, q3, own_off q4 (fun k hk e2 => ?_) i v⟩
  obtain ⟨cs', hcs⟩ := own_type q4 hk
  rw [e2, hg] at hcs
  injection hcs with hcs
  injection hcs with _ h2
  exact hT h2
theorem plc_keys {w : World} {bm a : Nat} {x : List Nat} {es : Array MapEntry} (hr : ∀ e ∈ es.toList, ∃ κ, B4 κ ∧ e.key = kv κ ∧ PF x a κ ≠ [] ∧ w.ownsRow (bm + 1) 3 1 e.val (PF x a κ).length (posV (PF x a κ))) : ∀ e ∈ es.toList, ∃ l, keyOf Try.prog 95 e.key = some l := fun e he => by
  obtain ⟨κ, q1, q2, _⟩ := hr e he
  rw [q2]
  exact key_of q1
theorem zero96 (w : World) : (zeroValue 96).run Try.prog w = .ok (.slice none 0 0) w := by kernel_rfl
/-- A look-up gives the places. -/
theorem plc_look {w : World} {bm a : Nat} {x κ : List Nat} (h : Plc w bm x a) (hk : B4 κ) : ∃ v, (Instr.lookup 47 (.map (some bm)) (kv κ) false).run Try.prog w = .ok v w ∧ w.ownsRow (bm + 1) 3 1 v (PF x a κ).length (posV (PF x a κ)) := by
  obtain ⟨es, clock, hb, hs, hn, hr, hall, hap⟩ := h
  obtain ⟨l, hl⟩ := key_of hk
  rcases keyed95.find w hl es.toList (plc_keys hr) with ⟨h1, h2⟩ | ⟨j, e0, h1, h2, h3⟩
  · have h0 : PF x a κ = [] := by
      rcases List.eq_nil_or_concat (PF x a κ) with h | ⟨l, b, h⟩
      · exact h
      · obtain ⟨e, he, hek⟩ := hall κ hk (by rw [h]; simp)
        exact absurd hek (h2 e he)
    refine ⟨.slice none 0 0, ?_, by rw [h0]; exact World.ownsRow_nil _ _ _ _⟩
    simp [Instr.lookup, run_underlying Try.underlying47, MapKept.run_getObj_map hb, keyed95.check w _ hl, h1, Result.andThen]
  · obtain ⟨κ', q1, q2, q3, q4⟩ := hr e0 (List.mem_of_getElem? h2)
    have e : κ' = κ := kv_inj (q2.symm.trans h3)
    subst e
    refine ⟨e0.val, ?_, q4⟩
    simp [Instr.lookup, run_underlying Try.underlying47, MapKept.run_getObj_map hb, keyed95.check w _ hl, h1, Result.andThen]
end Go.Proofs.Ytldlddoealpomaa
