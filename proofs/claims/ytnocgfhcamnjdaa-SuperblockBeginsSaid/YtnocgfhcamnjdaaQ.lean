/- The map of what a cache holds of each sector: a look-up, an entry. -/
import Derived.Test.YtnocgfhcamnjdaaP
import Derived.Maps.AppendAt
import Derived.Maps.OwnSet
import Derived.Maps.GroupsBeside
import Derived.WideKeyEntry
namespace Go.Proofs.Ytnocgfhcamnjdaa
open Go.RowKit Go.Lib Go.Maps Go.WideElems
open Go.ChangeMaps (setBlock heap_setBlock_same)
open Go.MapKept (Stamped)

theorem own_beside {w w' : World} {B E st n : Nat} {v : Value} {xs : List Value} {o : Option Nat} (h : w.ownsRow B E st v n xs) (hg : w.grownBy w' o) (hne : ∀ k, v.ownBlock = some k → some k ≠ o) : w'.ownsRow B E st v n xs := by
  refine ⟨h.1, ?_⟩
  rcases h.2 with h0 | ⟨k, cap, cur, e, hb, hgb, h2⟩
  · exact .inl h0
  · exact .inr ⟨k, cap, cur, e, hb, (hg.block k (box_lt hgb) (hne k (by rw [e]; rfl))).trans hgb, h2⟩
theorem own_type {w : World} {B E st n k : Nat} {v : Value} {xs : List Value} (h : w.ownsRow B E st v n xs) (hk : v.ownBlock = some k) : ∃ cs, w.heap[k]? = some (.cells cs E) := by
  rcases h.2 with ⟨rfl, _⟩ | ⟨g, cap, cur, rfl, _, hgb, _⟩
  · cases hk
  · injection hk with hk
    subst hk
    exact ⟨_, hgb⟩
theorem own_pos {w : World} {B E st n : Nat} {v : Value} {xs : List Value} (h : w.ownsRow B E st v n xs) (hn : 0 < n) : ∃ k, v.ownBlock = some k := by
  rcases h.2 with ⟨_, h0⟩ | ⟨g, cap, cur, rfl, _⟩
  · omega
  · exact ⟨g, rfl⟩
theorem set_grown (w : World) (b : Nat) (o : Obj) : w.grownBy (setBlock w b o) (some b) :=
  ⟨rfl, rfl, rfl, by simp [setBlock], fun k hk hne => by
    have : k ≠ b := fun e => hne (by rw [e])
    simp [setBlock, Ne.symm this]⟩
theorem mem_set {α : Type} {l : List α} {j : Nat} {y x : α} (h : x ∈ l.set j y) : x = y ∨ ∃ i, i ≠ j ∧ l[i]? = some x := by
  obtain ⟨i, hi⟩ := List.mem_iff_getElem?.1 h
  rw [List.getElem?_set] at hi
  split at hi
  · split at hi
    · injection hi with hi; exact .inl hi.symm
    · cases hi
  · rename_i hne
    exact .inr ⟨i, fun e => hne e.symm, hi⟩
theorem key_other {es : List MapEntry} {i j : Nat} {x y : MapEntry} (h : (es.map (·.key)).Nodup) (hi : es[i]? = some x) (hj : es[j]? = some y) (hne : i ≠ j) : x.key ≠ y.key := fun e => by
  have h1 : (es.map (·.key))[i]? = some x.key := by rw [List.getElem?_map, hi]; rfl
  have h2 : (es.map (·.key))[j]? = some x.key := by rw [List.getElem?_map, hj, e]; rfl
  obtain ⟨a1, a2⟩ := List.getElem?_eq_some_iff.1 h1
  obtain ⟨b1, b2⟩ := List.getElem?_eq_some_iff.1 h2
  rcases Nat.lt_or_gt_of_ne hne with hl | hl
  · exact List.pairwise_iff_getElem.1 h i j a1 b1 hl (a2.trans b2.symm)
  · exact List.pairwise_iff_getElem.1 h j i b1 a1 hl (b2.trans a2.symm)
theorem own_map {w : World} {B E st n bm : Nat} {v : Value} {xs : List Value} {es : Array MapEntry} {c : Nat} (h : w.ownsRow B E st v n xs) (hb : w.heap[bm]? = some (.map es c)) : ∀ k, v.ownBlock = some k → some k ≠ some bm := fun k hk e => by
  obtain ⟨cs, hcs⟩ := own_type h hk
  injection e with e
  rw [e, hb] at hcs
  cases hcs
theorem kI_inj {a b : Int} (h : Value.int .i64 a = .int .i64 b) : a = b := by injection h
theorem keyed3 : Keyed Try.prog 3 := int_keyed Try.underlying3
theorem wf_r64 {x : Int} (h : R64 x) : (Lit.int .i64 x).wf = true := WalkArith.wf_i64 h
theorem key_of {κ : Int} (h : R64 κ) : keyOf Try.prog 3 (.int .i64 κ) = some (.int .i64 κ) := by
  simp [keyOf, Try.underlying3, mapKey, wf_r64 h]
/-- What the cache holds of a sector, in order. -/
def G (l : List Ca) (κ : Int) : List Sect := (l.filter fun x => decide (x.1 = κ)).map (·.2)
theorem g_snoc (l : List Ca) (x : Ca) (κ : Int) : G (l ++ [x]) κ = G l κ ++ if x.1 = κ then [x.2] else [] := by
  unfold G
  rw [List.filter_append, List.map_append]
  congr 1
  by_cases h : x.1 = κ
  · rw [if_pos h]; simp [h]
  · rw [if_neg h]; simp [h]
theorem g_len (l : List Ca) (κ : Int) : (G l κ).length ≤ l.length := by
  unfold G
  rw [List.length_map]
  exact List.length_filter_le _ _
theorem g_mem {l : List Ca} {κ : Int} {s : Sect} (h : s ∈ G l κ) : (κ, s) ∈ l := by
  unfold G at h
  obtain ⟨x, hx, rfl⟩ := List.mem_map.1 h
  obtain ⟨h1, h2⟩ := List.mem_filter.1 hx
  have h2 := of_decide_eq_true h2
  subst h2
  exact h1
theorem g_secs {l : List Ca} (h : CasL l) (κ : Int) : Secs (G l κ) := fun _ hs => ⟨(h _ (g_mem hs)).1, (h _ (g_mem hs)).2.1⟩
theorem g_same {l : List Ca} {x : Ca} {κ : Int} (h : κ ≠ x.1) : G (l ++ [x]) κ = G l κ := by rw [g_snoc, if_neg (fun e => h e.symm), List.append_nil]
theorem g_new (l : List Ca) (x : Ca) : G (l ++ [x]) x.1 = G l x.1 ++ [x.2] := by rw [g_snoc, if_pos rfl]
/-- The map bm holds, at each sector that occurs, a row of one's own with its contents. -/
def Occ (w : World) (bm : Nat) (l : List Ca) : Prop := ∃ es clock, w.heap[bm]? = some (.map es clock) ∧ Stamped es clock ∧ es.size ≤ l.length ∧
  (∀ e ∈ es.toList, ∃ κ, R64 κ ∧ e.key = .int .i64 κ ∧ G l κ ≠ [] ∧ w.ownsRow (bm + 1) 57 8 e.val (G l κ).length ((G l κ).map cSec).flatten) ∧
  (∀ κ, R64 κ → G l κ ≠ [] → ∃ e ∈ es.toList, e.key = .int .i64 κ) ∧
  (∀ e ∈ es.toList, ∀ e' ∈ es.toList, e.key ≠ e'.key → e.val.ownBlock ≠ e'.val.ownBlock)
theorem occ_made (w : World) : Occ (w.alloc (.map #[] 0)) w.heap.size [] :=
  ⟨#[], 0, heap_alloc_new _ _, by refine ⟨?_, ?_, ?_⟩ <;> simp, by simp, fun e he => by simp at he, fun κ _ h => absurd (by simp [G]) h, fun e he => by simp at he⟩
theorem Occ.grown {w w' : World} {bm : Nat} {l : List Ca} {o : Option Nat} (h : Occ w bm l) (hg : w.grownBy w' o) (h1 : some bm ≠ o) (h2 : ∀ k cs, o = some k → w.heap[k]? ≠ some (.cells cs 57)) : Occ w' bm l := by
  obtain ⟨es, clock, hb, hs, hn, hr, hall, hap⟩ := h
  refine ⟨es, clock, (hg.block bm (box_lt hb) h1).trans hb, hs, hn, fun e he => ?_, hall, hap⟩
  obtain ⟨κ, q1, q2, q3, q4⟩ := hr e he
  refine ⟨κ, q1, q2, q3, own_beside q4 hg fun k hk e2 => ?_⟩
  obtain ⟨cs, hcs⟩ := own_type q4 hk
  exact h2 k cs e2.symm hcs
theorem Occ.below {w w' : World} {bm : Nat} {l : List Ca} (h : Occ w bm l) (hb : Below w.heap.size w w') : Occ w' bm l :=
  h.grown (o := none) ⟨hb.os, hb.tape, hb.output, hb.size, fun i hi _ => hb.block i hi⟩ (by simp) (fun k cs e => by cases e)
theorem occ_keys {w : World} {bm : Nat} {l : List Ca} {es : Array MapEntry} (hr : ∀ e ∈ es.toList, ∃ κ, R64 κ ∧ e.key = .int .i64 κ ∧ G l κ ≠ [] ∧ w.ownsRow (bm + 1) 57 8 e.val (G l κ).length ((G l κ).map cSec).flatten) : ∀ e ∈ es.toList, ∃ l, keyOf Try.prog 3 e.key = some l := fun e he => by
  obtain ⟨κ, q1, q2, _⟩ := hr e he
  rw [q2]
  exact ⟨_, key_of q1⟩
theorem zero22 (w : World) : (zeroValue 32).run Try.prog w = .ok (.slice none 0 0) w := by kernel_rfl
/-- The new entries, from the old ones and a row that is new or was the old one's. -/
theorem occ_put {w wm w2 : World} {bm clock clock' : Nat} {l : List Ca} {x : Ca} {es es' : Array MapEntry} {v0 v' : Value}
    (hb : w.heap[bm]? = some (.map es clock)) (hn' : es'.size ≤ l.length + 1) (hs' : Stamped es' clock')
    (hr : ∀ e ∈ es.toList, ∃ κ, R64 κ ∧ e.key = .int .i64 κ ∧ G l κ ≠ [] ∧ w.ownsRow (bm + 1) 57 8 e.val (G l κ).length ((G l κ).map cSec).flatten)
    (hall : ∀ κ, R64 κ → G l κ ≠ [] → ∃ e ∈ es.toList, e.key = .int .i64 κ) (hap : ∀ e ∈ es.toList, ∀ e' ∈ es.toList, e.key ≠ e'.key → e.val.ownBlock ≠ e'.val.ownBlock) (hk : R64 x.1)
    (hwm : Below w.heap.size w wm) (hg : wm.grownBy w2 v0.ownBlock) (hv0 : ∀ e ∈ es.toList, e.key ≠ .int .i64 x.1 → e.val.ownBlock ≠ v0.ownBlock) (hv0b : v0.ownBlock ≠ some bm)
    (hown : w2.ownsRow (bm + 1) 57 8 v' ((G l x.1).length + 1) (((G l x.1).map cSec).flatten ++ cSec x.2)) (hat : v'.ownBlock = v0.ownBlock ∨ v'.ownBlock = some wm.heap.size)
    (hwho : ∀ e ∈ es'.toList, (e ∈ es.toList ∧ e.key ≠ .int .i64 x.1) ∨ (e.key = .int .i64 x.1 ∧ e.val = v')) (hold : ∀ e ∈ es.toList, e.key ≠ .int .i64 x.1 → e ∈ es'.toList) (hnew : ∃ e ∈ es'.toList, e.key = .int .i64 x.1) :
    Occ (setBlock w2 bm (.map es' clock')) bm (l ++ [x]) := by
  have hb1 : wm.heap[bm]? = some (.map es clock) := (hwm.block _ (box_lt hb)).trans hb
  have hbl : bm < wm.heap.size := box_lt hb1
  have hb2 : w2.heap[bm]? = some (.map es clock) := (hg.block bm hbl (fun e => hv0b e.symm)).trans hb1
  have hg3 := set_grown w2 bm (.map es' clock')
  have keep : ∀ e ∈ es.toList, e.key ≠ .int .i64 x.1 → ∀ n xs, w.ownsRow (bm + 1) 57 8 e.val n xs → (setBlock w2 bm (.map es' clock')).ownsRow (bm + 1) 57 8 e.val n xs := fun e he hek n xs ho => by
    have h1 := own_keep ho (keep_below hwm)
    have h2 := own_beside h1 hg (fun k hk e2 => hv0 e he hek (hk.trans e2))
    exact own_beside h2 hg3 (own_map h2 hb2)
  have fresh : ∀ e ∈ es.toList, e.key ≠ .int .i64 x.1 → e.val.ownBlock ≠ v'.ownBlock := fun e he hek e2 => by
    rcases hat with h | h
    · exact hv0 e he hek (e2.trans h)
    · obtain ⟨κe, _, _, _, ho⟩ := hr e he
      have h1 := own_keep ho (keep_below hwm)
      have := (h1.lt _ (e2.trans h)).2
      omega
  have hkn : ∀ κ' : Int, Value.int .i64 κ' ≠ .int .i64 x.1 → κ' ≠ x.1 := fun κ' h e => h (by rw [e])
  refine ⟨es', clock', heap_setBlock_same hb2 _, hs', by rw [List.length_append]; exact hn', fun e he => ?_, fun κ' hκ' hne => ?_, fun e he e' he' hne => ?_⟩
  · rcases hwho e he with ⟨h1, h2⟩ | ⟨h1, h2⟩
    · obtain ⟨κe, q1, q2, q3, q4⟩ := hr e h1
      have hk' : κe ≠ x.1 := hkn κe (by rw [← q2]; exact h2)
      exact ⟨κe, q1, q2, by rw [g_same hk']; exact q3, by rw [g_same hk']; exact keep e h1 h2 _ _ q4⟩
    · refine ⟨x.1, hk, h1, by rw [g_new]; simp, ?_⟩
      rw [g_new, List.length_append, List.length_singleton, List.map_append, List.flatten_append, h2]
      have h3 := own_beside hown hg3 (own_map hown hb2)
      simpa using h3
  · by_cases hc : κ' = x.1
    · rw [hc]; exact hnew
    · rw [g_same hc] at hne
      obtain ⟨e, he, hek⟩ := hall κ' hκ' hne
      exact ⟨e, hold e he (by rw [hek]; exact fun e2 => hc (kI_inj e2)), hek⟩
  · rcases hwho e he with ⟨h1, h2⟩ | ⟨h1, h2⟩
    · rcases hwho e' he' with ⟨h3, h4⟩ | ⟨h3, h4⟩
      · exact hap e h1 e' h3 hne
      · rw [h4]; exact fresh e h1 h2
    · rcases hwho e' he' with ⟨h3, h4⟩ | ⟨h3, h4⟩
      · rw [h2]; exact fun e2 => fresh e' h3 h4 e2.symm
      · exact absurd (h1.trans h3.symm) hne
set_option maxRecDepth 100000 in
/-- A look-up gives what the cache holds of a sector; a longer row is stored there. -/
theorem occ_look {w : World} {bm : Nat} {l : List Ca} {κ : Int} (h : Occ w bm l) (hk : R64 κ) :
    ∃ v, (∀ X : World, X.heap[bm]? = w.heap[bm]? → (Instr.lookup 106 (.map (some bm)) (.int .i64 κ) false).run Try.prog X = .ok v X) ∧ w.ownsRow (bm + 1) 57 8 v (G l κ).length ((G l κ).map cSec).flatten ∧
      ∀ (s : Sect) (wm w2 : World) (v' : Value), Below w.heap.size w wm → wm.grownBy w2 v.ownBlock → w2.ownsRow (bm + 1) 57 8 v' ((G l κ).length + 1) (((G l κ).map cSec).flatten ++ cSec s) → (v'.ownBlock = v.ownBlock ∨ v'.ownBlock = some wm.heap.size) →
        ∃ w3, (Instr.mapUpdate 106 (.map (some bm)) (.int .i64 κ) v').run Try.prog w2 = .ok () w3 ∧ w2.grownBy w3 (some bm) ∧ Occ w3 bm (l ++ [(κ, s)]) := by
  obtain ⟨es, clock, hb, ⟨s1, s2, s3⟩, hn, hr, hall, hap⟩ := h
  have hl := key_of hk
  rcases keyed3.find w hl es.toList (occ_keys hr) with ⟨h1, h2⟩ | ⟨j, e0, h1, h2, h3⟩
  · have h0 : G l κ = [] := by
      rcases List.eq_nil_or_concat (G l κ) with h | ⟨l', b, h⟩
      · exact h
      · obtain ⟨e, he, hek⟩ := hall κ hk (by rw [h]; simp)
        exact absurd hek (h2 e he)
    have hf : ∀ X : World, (Instr.findKey 3 (.int .i64 κ) es.toList).run Try.prog X = .ok none X := fun X => by
      rcases keyed3.find X hl es.toList (occ_keys hr) with ⟨q, _⟩ | ⟨j, e, _, q2, q3⟩
      · exact q
      · exact absurd q3 (h2 e (List.mem_of_getElem? q2))
    refine ⟨.slice none 0 0, fun X hX => ?_, by rw [h0]; exact World.ownsRow_nil _ _ _ _, fun s wm w2 v' hwm hg hown hat => ?_⟩
    · have hb' := hX.trans hb
      simp [Instr.lookup, run_underlying Try.underlying106, MapKept.run_getObj_map hb', keyed3.check X _ hl, hf X, Result.andThen]
    · have hw2 : w2.heap[bm]? = some (.map es clock) := (hg.block bm (Nat.lt_of_lt_of_le (box_lt hb) hwm.size) (by simp [Value.ownBlock])).trans ((hwm.block _ (box_lt hb)).trans hb)
      refine ⟨setBlock w2 bm (.map (es.push ⟨.int .i64 κ, v', clock⟩) (clock + 1)), ?_, set_grown _ _ _, ?_⟩
      · simp [Instr.mapUpdate, run_underlying Try.underlying106, MapKept.run_getObj_map hw2, keyed3.check w2 _ hl, hf w2, MapKept.run_setObj_map _ hw2, Result.andThen, setBlock]
      · refine occ_put (x := (κ, s)) (v0 := .slice none 0 0) hb (by simp; omega) (Go.MapKept.stamped_push (val := v') ⟨s1, s2, s3⟩ h2) hr hall hap hk hwm hg ?_ (by simp [Value.ownBlock]) hown hat ?_ ?_ ?_
        · intro e he _ e2
          obtain ⟨κe, _, _, q3, ho⟩ := hr e he
          obtain ⟨k, hk⟩ := own_pos ho (List.length_pos_iff.2 q3)
          rw [hk] at e2
          simp [Value.ownBlock] at e2
        · intro e he
          rw [Array.toList_push, List.mem_append] at he
          rcases he with he | he
          · exact .inl ⟨he, h2 e he⟩
          · rw [List.mem_singleton] at he; subst he; exact .inr ⟨rfl, rfl⟩
        · intro e he _
          rw [Array.toList_push, List.mem_append]
          exact .inl he
        · exact ⟨⟨.int .i64 κ, v', clock⟩, by simp, rfl⟩
  · obtain ⟨κ', q1, q2, q3, q4⟩ := hr e0 (List.mem_of_getElem? h2)
    have e : κ' = κ := kI_inj (q2.symm.trans h3)
    subst e
    have hj : es[j]? = some e0 := by simpa using h2
    have hf : ∀ X : World, (Instr.findKey 3 (.int .i64 κ') es.toList).run Try.prog X = .ok (some (j, e0.val)) X := fun X => by
      rcases keyed3.find X hl es.toList (occ_keys hr) with ⟨_, q⟩ | ⟨j', e', q1', q2', q3'⟩
      · exact absurd h3 (q e0 (List.mem_of_getElem? h2))
      · have hjj : j' = j := by
          rcases Nat.lt_trichotomy j' j with hlt | heq | hgt
          · exact absurd (q3'.trans h3.symm) (key_other s3 q2' h2 (by omega))
          · exact heq
          · exact absurd (q3'.trans h3.symm) (key_other s3 q2' h2 (by omega))
        subst hjj
        rw [h2] at q2'
        injection q2' with q2'
        subst q2'
        exact q1'
    have hmemo := List.mem_of_getElem? h2
    refine ⟨e0.val, fun X hX => ?_, q4, fun s wm w2 v' hwm hg hown hat => ?_⟩
    · have hb' := hX.trans hb
      simp [Instr.lookup, run_underlying Try.underlying106, MapKept.run_getObj_map hb', keyed3.check X _ hl, hf X, Result.andThen]
    · have hw2 : w2.heap[bm]? = some (.map es clock) := (hg.block bm (Nat.lt_of_lt_of_le (box_lt hb) hwm.size) (fun e => own_map q4 hb bm e.symm rfl)).trans ((hwm.block _ (box_lt hb)).trans hb)
      have hlist : (es.modify j (fun e => { e with key := .int .i64 κ', val := v' })).toList = es.toList.set j { e0 with val := v' } := by
        rw [Array.toList_modify, Go.ChangeMaps.modify_eq_set _ _ _ _ h2]
        have : ({ e0 with key := .int .i64 κ', val := v' } : MapEntry) = { e0 with val := v' } := by rw [← h3]
        rw [this]
      refine ⟨setBlock w2 bm (.map (es.modify j (fun e => { e with key := .int .i64 κ', val := v' })) clock), ?_, set_grown _ _ _, ?_⟩
      · simp [Instr.mapUpdate, run_underlying Try.underlying106, MapKept.run_getObj_map hw2, keyed3.check w2 _ hl, hf w2, hj, h3, keyed3.stays w2 hl, MapKept.run_setObj_map _ hw2, Result.andThen, setBlock]
      · refine occ_put (x := (κ', s)) (v0 := e0.val) hb (by simp; omega) ?_ hr hall hap hk hwm hg (fun e he hne => hap e he e0 hmemo (by rw [h3]; exact hne)) (fun e => own_map q4 hb bm e rfl) hown hat ?_ ?_ ?_
        · refine ⟨fun e he => ?_, ?_, ?_⟩
          · rw [hlist] at he
            rcases mem_set he with rfl | ⟨i, _, hi⟩
            · exact s1 e0 hmemo
            · exact s1 e (List.mem_of_getElem? hi)
          · rw [hlist, List.map_set, show ({ e0 with val := v' } : MapEntry).born = e0.born from rfl, set_self _ _ _ (by rw [List.getElem?_map, h2]; rfl)]
            exact s2
          · rw [hlist, List.map_set, show ({ e0 with val := v' } : MapEntry).key = e0.key from rfl, set_self _ _ _ (by rw [List.getElem?_map, h2]; rfl)]
            exact s3
        · intro e he
          rw [hlist] at he
          rcases mem_set he with rfl | ⟨i, hij, hi⟩
          · exact .inr ⟨h3, rfl⟩
          · exact .inl ⟨List.mem_of_getElem? hi, by rw [← h3]; exact key_other s3 hi h2 hij⟩
        · intro e he hne
          rw [hlist]
          obtain ⟨i, hi⟩ := List.mem_iff_getElem?.1 he
          refine List.mem_iff_getElem?.2 ⟨i, ?_⟩
          rw [List.getElem?_set, if_neg (fun e2 => ?_)]
          · exact hi
          · subst e2; rw [h2] at hi; injection hi with hi; rw [← hi] at hne; exact hne h3
        · refine ⟨{ e0 with val := v' }, ?_, h3⟩
          rw [hlist]
          refine List.mem_iff_getElem?.2 ⟨j, ?_⟩
          rw [List.getElem?_set, if_pos rfl, if_pos (List.getElem?_eq_some_iff.1 h2).1]
end Go.Proofs.Ytnocgfhcamnjdaa
