/- An entry of the map of places. -/
import Derived.Test.YtldlddoealpomaaFa
namespace Go.Proofs.Ytldlddoealpomaa
open Go.RowKit Go.Lib Go.Maps Go.WideElems
open Go.ChangeMaps (setBlock heap_setBlock_same)
open Go.MapKept (Stamped)

theorem set_grown (w : World) (b : Nat) (o : Obj) : w.grownBy (setBlock w b o) (some b) :=
  ⟨rfl, rfl, rfl, by simp [setBlock], fun k hk hne => by
    have : k ≠ b := fun e => hne (by rw [e])
    simp [setBlock, Ne.symm this]⟩
theorem grown_any {a b : World} {o : Option Nat} (h : a.grownBy b none) : a.grownBy b o := ⟨h.os, h.tape, h.output, h.size, fun k hk _ => h.block k hk (by simp)⟩
theorem own_map {w : World} {B E st n bm : Nat} {v : Value} {xs : List Value} {es : Array MapEntry} {c : Nat} (h : w.ownsRow B E st v n xs) (hb : w.heap[bm]? = some (.map es c)) : ∀ k, v.ownBlock = some k → some k ≠ some bm := fun k hk e => by
  obtain ⟨cs, hcs⟩ := own_type h hk
  injection e with e
  rw [e, hb] at hcs
  cases hcs
theorem mem_set {α : Type} {l : List α} {j : Nat} {y x : α} (h : x ∈ l.set j y) : x = y ∨ ∃ i, i ≠ j ∧ l[i]? = some x := by
  obtain ⟨i, hi⟩ := List.mem_iff_getElem?.1 h
  rw [List.getElem?_set] at hi
  split at hi
  · split at hi
    · injection hi with hi; exact .inl hi.symm
    · cases hi
  · rename_i hne
    exact .inr ⟨i, fun e => hne e.symm, hi⟩
theorem key_other {es : List MapEntry} {i j : Nat} {x y : MapEntry} (h : (es.map (·.key)).Nodup) (hi : es[i]? = some x) (hj : es[j]? = some y) (hne : i ≠ j) : x.key ≠ y.key := fun e => by
  have h1 : (es.map (·.key))[i]? = some x.key := by rw [List.getElem?_map, hi]; rfl
  have h2 : (es.map (·.key))[j]? = some x.key := by rw [List.getElem?_map, hj, e]; rfl
  obtain ⟨a1, a2⟩ := List.getElem?_eq_some_iff.1 h1
  obtain ⟨b1, b2⟩ := List.getElem?_eq_some_iff.1 h2
  rcases Nat.lt_or_gt_of_ne hne with hl | hl
  · exact List.pairwise_iff_getElem.1 h i j a1 b1 hl (a2.trans b2.symm)
  · exact List.pairwise_iff_getElem.1 h j i b1 a1 hl (b2.trans a2.symm)
theorem pf_same {x : List Nat} {a : Nat} {κ κ' : List Nat} (h : (x.drop a).take 4 = κ) (hne : κ' ≠ κ) : PF x (a + 1) κ' = PF x a κ' := by
  rw [pf_succ, if_neg (fun e => hne (e.2.symm.trans h)), List.append_nil]
theorem pf_new {x : List Nat} {a : Nat} {κ : List Nat} (ha : a + 4 ≤ x.length) (h : (x.drop a).take 4 = κ) : PF x (a + 1) κ = PF x a κ ++ [a] := by rw [pf_succ, if_pos ⟨ha, h⟩]
theorem pf_none {x : List Nat} {a : Nat} {κ : List Nat} (ha : ¬ a + 4 ≤ x.length) : PF x (a + 1) κ = PF x a κ := by rw [pf_succ, if_neg (fun e => ha e.1), List.append_nil]
theorem plc_skip {w : World} {bm a : Nat} {x : List Nat} (h : Plc w bm x a) (ha : ¬ a + 4 ≤ x.length) : Plc w bm x (a + 1) := by
  obtain ⟨es, clock, hb, hs, hn, hr, hall, hap⟩ := h
  refine ⟨es, clock, hb, hs, by omega, fun e he => ?_, fun κ hκ hne => ?_, hap⟩
  · obtain ⟨κ, h⟩ := hr e he
    rw [← pf_none ha] at h
    exact ⟨κ, h⟩
  · rw [pf_none ha] at hne
    exact hall κ hκ hne
theorem posV_snoc (l : List Nat) (a : Nat) : posV (l ++ [a]) = posV l ++ [.int .i64 (a : Int)] := by simp [posV]
/-- The new entries, from the old ones and a row that is new or was the old one's. -/
theorem plc_put {w wm w2 : World} {bm a clock clock' : Nat} {x κ : List Nat} {es es' es1 : Array MapEntry} {v0 v' : Value} {c1 : Nat}
    (hb : w.heap[bm]? = some (.map es clock)) (hn' : es'.size ≤ a + 1) (hs' : Stamped es' clock')
    (hr : ∀ e ∈ es.toList, ∃ κ, B4 κ ∧ e.key = kv κ ∧ PF x a κ ≠ [] ∧ w.ownsRow (bm + 1) 3 1 e.val (PF x a κ).length (posV (PF x a κ)))
    (hall : ∀ κ, B4 κ → PF x a κ ≠ [] → ∃ e ∈ es.toList, e.key = kv κ) (hap : ∀ e ∈ es.toList, ∀ e' ∈ es.toList, e.key ≠ e'.key → e.val.ownBlock ≠ e'.val.ownBlock)
    (ha : a + 4 ≤ x.length) (hκ : (x.drop a).take 4 = κ) (hk : B4 κ)
    (hwm : w.grownBy wm (some bm)) (hg : wm.grownBy w2 v0.ownBlock) (hb1 : wm.heap[bm]? = some (.map es1 c1)) (hv0 : ∀ e ∈ es.toList, e.key ≠ kv κ → e.val.ownBlock ≠ v0.ownBlock) (hv0b : v0.ownBlock ≠ some bm)
    (hown : w2.ownsRow (bm + 1) 3 1 v' ((PF x a κ).length + 1) (posV (PF x a κ) ++ [.int .i64 (a : Int)])) (hat : v'.ownBlock = v0.ownBlock ∨ ∃ g, v'.ownBlock = some g ∧ wm.heap.size ≤ g)
    (hwho : ∀ e ∈ es'.toList, (e ∈ es.toList ∧ e.key ≠ kv κ) ∨ (e.key = kv κ ∧ e.val = v')) (hold : ∀ e ∈ es.toList, e.key ≠ kv κ → e ∈ es'.toList) (hnew : ∃ e ∈ es'.toList, e.key = kv κ) :
    Plc (setBlock w2 bm (.map es' clock')) bm x (a + 1) := by
  have hbl : bm < wm.heap.size := box_lt hb1
  have hb2 : w2.heap[bm]? = some (.map es1 c1) := (hg.block bm hbl (fun e => hv0b e.symm)).trans hb1
  have hg3 := set_grown w2 bm (.map es' clock')
  have keep : ∀ e ∈ es.toList, e.key ≠ kv κ → ∀ n xs, w.ownsRow (bm + 1) 3 1 e.val n xs → (setBlock w2 bm (.map es' clock')).ownsRow (bm + 1) 3 1 e.val n xs := fun e he hek n xs ho => by
    have h1 := own_beside ho hwm (own_map ho hb)
    have h2 := own_beside h1 hg (fun k hk e2 => hv0 e he hek (hk.trans e2))
    exact own_beside h2 hg3 (own_map h2 hb2)
  have fresh : ∀ e ∈ es.toList, e.key ≠ kv κ → e.val.ownBlock ≠ v'.ownBlock := fun e he hek e2 => by
    rcases hat with h | ⟨g, h, hgs⟩
    · exact hv0 e he hek (e2.trans h)
    · obtain ⟨κe, _, _, _, ho⟩ := hr e he
      have h1 := own_beside ho hwm (own_map ho hb)
      have := (h1.lt g (e2.trans h)).2
      omega
  have hkn : ∀ κ', kv κ' ≠ kv κ → κ' ≠ κ := fun κ' h e => h (by rw [e])
  refine ⟨es', clock', heap_setBlock_same hb2 _, hs', hn', fun e he => ?_, fun κ' hκ' hne => ?_, fun e he e' he' hne => ?_⟩
  · rcases hwho e he with ⟨h1, h2⟩ | ⟨h1, h2⟩
    · obtain ⟨κe, q1, q2, q3, q4⟩ := hr e h1
      have hk' : κe ≠ κ := hkn κe (by rw [← q2]; exact h2)
      exact ⟨κe, q1, q2, by rw [pf_same hκ hk']; exact q3, by rw [pf_same hκ hk']; exact keep e h1 h2 _ _ q4⟩
    · refine ⟨κ, hk, h1, by rw [pf_new ha hκ]; simp, ?_⟩
      rw [pf_new ha hκ, List.length_append, List.length_singleton, posV_snoc, h2]
      exact own_beside hown hg3 (own_map hown hb2)
  · by_cases hc : κ' = κ
    · rw [hc]; exact hnew
    · rw [pf_same hκ hc] at hne
      obtain ⟨e, he, hek⟩ := hall κ' hκ' hne
      exact ⟨e, hold e he (by rw [hek]; exact fun e2 => hc (kv_inj e2)), hek⟩
  · rcases hwho e he with ⟨h1, h2⟩ | ⟨h1, h2⟩
    · rcases hwho e' he' with ⟨h3, h4⟩ | ⟨h3, h4⟩
      · exact hap e h1 e' h3 hne
      · rw [h4]; exact fresh e h1 h2
    · rcases hwho e' he' with ⟨h3, h4⟩ | ⟨h3, h4⟩
      · rw [h2]; exact fun e2 => fresh e' h3 h4 e2.symm
      · exact absurd (h1.trans h3.symm) hne
/-- What stands at an entry is a row of places; a longer row is stored there. -/
theorem plc_entry {w : World} {bm a : Nat} {x κ : List Nat} (h : Plc w bm x a) (ha : a + 4 ≤ x.length) (hκ : (x.drop a).take 4 = κ) (hk : B4 κ) :
    ∃ v0 st wm, (Instr.mapEntry 47 (.map (some bm)) (kv κ)).run Try.prog w = .ok (.tuple #[v0, goInt st]) wm ∧ w.grownBy wm (some bm) ∧ wm.ownsRow (bm + 1) 3 1 v0 (PF x a κ).length (posV (PF x a κ)) ∧ (∃ es c, wm.heap[bm]? = some (.map es c)) ∧
      ∀ (w2 : World) (v' : Value), wm.grownBy w2 v0.ownBlock → w2.ownsRow (bm + 1) 3 1 v' ((PF x a κ).length + 1) (posV (PF x a κ) ++ [.int .i64 (a : Int)]) → (v'.ownBlock = v0.ownBlock ∨ ∃ g, v'.ownBlock = some g ∧ wm.heap.size ≤ g) →
        ∃ w3, (Instr.entryStore 47 (.map (some bm)) (goInt st) v').run Try.prog w2 = .ok () w3 ∧ w2.grownBy w3 (some bm) ∧ Plc w3 bm x (a + 1) := by
  obtain ⟨es, clock, hb, hs, hn, hr, hall, hap⟩ := h
  obtain ⟨l, hl⟩ := key_of hk
  obtain ⟨s1, s2, s3⟩ := hs
  rcases keyed95.find w hl es.toList (plc_keys hr) with ⟨h1, h2⟩ | ⟨j, e0, h1, h2, h3⟩
  · have h0 : PF x a κ = [] := by
      rcases List.eq_nil_or_concat (PF x a κ) with h | ⟨l, b, h⟩
      · exact h
      · obtain ⟨e, he, hek⟩ := hall κ hk (by rw [h]; simp)
        exact absurd hek (h2 e he)
    have hb1 : (setBlock w bm (.map (es.push ⟨kv κ, .slice none 0 0, clock⟩) (clock + 1))).heap[bm]? = some (.map (es.push ⟨kv κ, .slice none 0 0, clock⟩) (clock + 1)) := heap_setBlock_same hb _
    refine ⟨.slice none 0 0, clock, setBlock w bm (.map (es.push ⟨kv κ, .slice none 0 0, clock⟩) (clock + 1)), ?_, set_grown _ _ _, by rw [h0]; exact World.ownsRow_nil _ _ _ _, ⟨_, _, hb1⟩, fun w2 v' hg hown hat => ⟨setBlock w2 bm (.map (es.push ⟨kv κ, v', clock⟩) (clock + 1)), ?_, set_grown _ _ _, ?_⟩⟩
    · simp [Instr.mapEntry, run_underlying Try.underlying47, MapKept.run_getObj_map hb, keyed95.check w false hl, h1, MapKept.run_setObj_map _ hb, Result.andThen, setBlock]
    · have hw2 : w2.heap[bm]? = some (.map (es.push ⟨kv κ, .slice none 0 0, clock⟩) (clock + 1)) := (hg.block bm (box_lt hb1) (by simp [Value.ownBlock])).trans hb1
      have hidx : (es.push ⟨kv κ, .slice none 0 0, clock⟩).findIdx? (fun e => ((e.born : Nat) : Int) == ((clock : Nat) : Int)) = some es.size := by
        rw [findIdx_arr]
        have hnd : ((es.push ⟨kv κ, .slice none 0 0, clock⟩ : Array MapEntry).toList.map (·.born)).Nodup := (Go.MapKept.stamped_push (val := .slice none 0 0) ⟨s1, s2, s3⟩ h2).2.1
        exact findIdx_born hnd (j := es.size) (e0 := ⟨kv κ, .slice none 0 0, clock⟩) (by simp)
      have hmod : (es.push ⟨kv κ, .slice none 0 0, clock⟩).modify es.size (fun e => { e with val := v' }) = es.push ⟨kv κ, v', clock⟩ := by
        apply Array.ext'
        rw [Array.toList_modify, Array.toList_push, Array.toList_push, ← Array.length_toList, modify_last]
      simp [Instr.entryStore, MapKept.run_getObj_map hw2, asInt, asIntOf, goInt, hidx, hmod, MapKept.run_setObj_map _ hw2, Result.andThen, setBlock]
    · refine plc_put (wm := setBlock w bm (.map (es.push ⟨kv κ, .slice none 0 0, clock⟩) (clock + 1))) (v0 := .slice none 0 0) hb (by simp; omega) (Go.MapKept.stamped_push (val := v') ⟨s1, s2, s3⟩ h2) hr hall hap ha hκ hk (set_grown _ _ _) hg hb1 ?_ (by simp [Value.ownBlock]) hown hat ?_ ?_ ?_
      · intro e he _ e2
        obtain ⟨κe, _, _, q3, ho⟩ := hr e he
        obtain ⟨k, hk⟩ := own_pos ho (List.length_pos_iff.2 q3)
        rw [hk] at e2
        simp [Value.ownBlock] at e2
      · intro e he
        rw [Array.toList_push, List.mem_append] at he
        rcases he with he | he
        · exact .inl ⟨he, h2 e he⟩
        · rw [List.mem_singleton] at he; subst he; exact .inr ⟨rfl, rfl⟩
      · intro e he _
        rw [Array.toList_push, List.mem_append]
        exact .inl he
      · exact ⟨⟨kv κ, v', clock⟩, by simp, rfl⟩
  · obtain ⟨κ', q1, q2, q3, q4⟩ := hr e0 (List.mem_of_getElem? h2)
    have e : κ' = κ := kv_inj (q2.symm.trans h3)
    subst e
    have hj : es[j]? = some e0 := by simpa using h2
    have hb1 : (setBlock w bm (.map es clock)).heap[bm]? = some (.map es clock) := heap_setBlock_same hb _
    have hsame : es.modify j (fun e => { e with key := kv κ' }) = es := by
      apply Array.ext'
      rw [Array.toList_modify, Go.ChangeMaps.modify_eq_set _ _ _ _ h2]
      have : ({ e0 with key := kv κ' } : MapEntry) = e0 := by rw [← h3]
      rw [this]
      exact set_self _ _ _ h2
    have hlist : ∀ v' : Value, (es.modify j (fun e => { e with val := v' })).toList = es.toList.set j { e0 with val := v' } := fun v' => by rw [Array.toList_modify, Go.ChangeMaps.modify_eq_set _ _ _ _ h2]
    have hmemo := List.mem_of_getElem? h2
    refine ⟨e0.val, e0.born, setBlock w bm (.map es clock), ?_, set_grown _ _ _, own_beside q4 (set_grown _ _ _) (own_map q4 hb), ⟨_, _, hb1⟩, fun w2 v' hg hown hat => ⟨setBlock w2 bm (.map (es.modify j (fun e => { e with val := v' })) clock), ?_, set_grown _ _ _, ?_⟩⟩
    · simp [Instr.mapEntry, run_underlying Try.underlying47, MapKept.run_getObj_map hb, keyed95.check w false hl, h1, hj, h3, keyed95.stays w hl, hsame, MapKept.run_setObj_map _ hb, Result.andThen, setBlock]
    · have hw2 : w2.heap[bm]? = some (.map es clock) := (hg.block bm (box_lt hb1) (fun e => own_map q4 hb bm e.symm rfl)).trans hb1
      have hidx : es.findIdx? (fun e => ((e.born : Nat) : Int) == ((e0.born : Nat) : Int)) = some j := by
        rw [findIdx_arr]
        exact findIdx_born s2 h2
      simp [Instr.entryStore, MapKept.run_getObj_map hw2, asInt, asIntOf, goInt, hidx, MapKept.run_setObj_map _ hw2, Result.andThen, setBlock]
    · refine plc_put (wm := setBlock w bm (.map es clock)) (v0 := e0.val) (es1 := es) (c1 := clock) hb (by simp; omega) ?_ hr hall hap ha hκ hk (set_grown _ _ _) hg hb1 (fun e he hne => hap e he e0 hmemo (by rw [h3]; exact hne)) (fun e => own_map q4 hb bm e rfl) hown hat ?_ ?_ ?_
      · refine ⟨fun e he => ?_, ?_, ?_⟩
        · rw [hlist] at he
          rcases mem_set he with rfl | ⟨i, _, hi⟩
          · exact s1 e0 hmemo
          · exact s1 e (List.mem_of_getElem? hi)
        · rw [hlist, List.map_set, show ({ e0 with val := v' } : MapEntry).born = e0.born from rfl, set_self _ _ _ (by rw [List.getElem?_map, h2]; rfl)]
          exact s2
        · rw [hlist, List.map_set, show ({ e0 with val := v' } : MapEntry).key = e0.key from rfl, set_self _ _ _ (by rw [List.getElem?_map, h2]; rfl)]
          exact s3
      · intro e he
        rw [hlist] at he
        rcases mem_set he with rfl | ⟨i, hij, hi⟩
        · exact .inr ⟨h3, rfl⟩
        · exact .inl ⟨List.mem_of_getElem? hi, by rw [← h3]; exact key_other s3 hi h2 hij⟩
      · intro e he hne
        rw [hlist]
        obtain ⟨i, hi⟩ := List.mem_iff_getElem?.1 he
        refine List.mem_iff_getElem?.2 ⟨i, ?_⟩
        rw [List.getElem?_set, if_neg (fun e2 => ?_)]
        · exact hi
        · subst e2; rw [h2] at hi; injection hi with hi; rw [← hi] at hne; exact hne h3
      · refine ⟨{ e0 with val := v' }, ?_, h3⟩
        rw [hlist]
        refine List.mem_iff_getElem?.2 ⟨j, ?_⟩
        rw [List.getElem?_set, if_pos rfl, if_pos (List.getElem?_eq_some_iff.1 h2).1]
end Go.Proofs.Ytldlddoealpomaa
