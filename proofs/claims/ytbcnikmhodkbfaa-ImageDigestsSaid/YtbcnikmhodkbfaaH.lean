/- Writes; New; copy of sectors into a row of one's own. -/
import Derived.Test.YtbcnikmhodkbfaaG
import Derived.Laws.CopyOwn
namespace Go.Proofs.Ytbcnikmhodkbfaa
open Go.RowKit Go.Lib

/-- A write: where it goes, the slice that leads to its data, and these. -/
structure Wri where
  v : Int
  s : Int
  d : Value
  l : List Sect
def cWri (x : Wri) : List Value := [.int .i64 x.v, .int .i64 x.s, x.d]
def WrsA (w : World) (v : Value) (l : List Wri) : Prop := (∀ x ∈ l, Sec w x.d x.l ∧ NilOk x.d ∧ R64 x.v ∧ R64 x.s) ∧ Arr w v 3 (l.map cWri)
theorem WrsA.below {w w' : World} {v : Value} {l : List Wri} (h : WrsA w v l) (hb : Below w.heap.size w w') : WrsA w' v l := ⟨fun x hx => ⟨(h.1 x hx).1.below hb, (h.1 x hx).2⟩, h.2.below hb⟩
theorem wrs_form {w : World} {v : Value} {l : List Wri} (h : WrsA w v l) : ∃ A c, v = .slice A l.length c := by
  obtain ⟨A, c, e⟩ := arr_form h.2
  rw [List.length_map] at e
  exact ⟨A, c, e⟩

/- The model of writes. -/
def spl (l : List Sect) (s : Nat) (d : List Sect) : List Sect := l.take s ++ d ++ l.drop (s + d.length)
theorem spl_len {l d : List Sect} {s : Nat} (h : s + d.length ≤ l.length) : (spl l s d).length = l.length := by
  unfold spl
  rw [List.length_append, List.length_append, List.length_take, List.length_drop]
  omega
theorem spl_secs {l d : List Sect} {s : Nat} (h1 : Secs l) (h2 : Secs d) : Secs (spl l s d) := fun x hx => by
  unfold spl at hx
  rcases List.mem_append.1 hx with hx | hx
  · rcases List.mem_append.1 hx with hx | hx
    · exact h1 x (List.mem_of_mem_take hx)
    · exact h2 x hx
  · exact h1 x (List.mem_of_mem_drop hx)
def app1 (L : List (List Sect)) (v s : Nat) (d : List Sect) : List (List Sect) := L.set v (spl (L.getD v []) s d)
def appW : List (List Sect) → List Wri → Nat → Except (Nat × Int) (List (List Sect))
  | L, [], _ => .ok L
  | L, x :: t, i => if fitE L x.v x.s x.l.length ≠ 0 then .error (i, fitE L x.v x.s x.l.length) else appW (app1 L x.v.toNat x.s.toNat x.l) t (i + 1)
def appM (L : List (List Sect)) (ws : List Wri) : Except (Nat × Int) (List (List Sect)) := if chkS (siz L) ≠ 0 then .error (0, chkS (siz L)) else appW L ws 0
theorem fit_ok {L : List (List Sect)} {v s : Int} {m : Nat} (h : fitE L v s m = 0) : chkS (siz L) = 0 ∧ 0 ≤ v ∧ v < L.length ∧ 0 < m ∧ 0 ≤ s ∧ s + m ≤ (L.getD v.toNat []).length := by
  unfold fitE at h
  split at h
  · rename_i h1; exact absurd h h1
  · split at h
    · cases h
    · split at h
      · cases h
      · split at h
        · cases h
        · rename_i h1 h2 h3 h4
          have h5 : insB (L.getD v.toNat []).length s m = true := by simpa using h4
          have h6 := of_decide_eq_true h5
          have h7 : 0 ≤ v ∧ v < L.length := Classical.not_not.1 h2
          exact ⟨Classical.not_not.1 h1, h7.1, h7.2, by omega, h6.1, by omega⟩
theorem siz_set {L : List (List Sect)} {v : Nat} {l : List Sect} (h : l.length = (L.getD v []).length) : siz (L.set v l) = siz L := by
  unfold siz
  rw [List.map_set, h]
  apply List.ext_getElem?
  intro i
  rw [List.getElem?_set]
  split
  · rename_i e
    subst e
    rw [List.getD_eq_getElem?_getD, List.getElem?_map]
    split
    · rename_i hlt
      rw [List.length_map] at hlt
      rw [List.getElem?_eq_getElem hlt]
      rfl
    · rename_i hlt
      rw [List.length_map] at hlt
      rw [List.getElem?_eq_none (by omega)]
      rfl
  · rfl

/- copy, of elements of any size. -/
theorem run_copy_rowN {P : Program} (w : World) (dT sT ty elem : TypeId) (g o dLen dCap : Nat) (a : Addr) (sLen sCap st : Nat) (cur : Array Value) (t : TypeId) (cs : List Value)
    (hu : P.underlying dT = some (.slice elem)) (hs : (P.info? elem).map (·.size) = some st)
    (hg : w.heap[g]? = some (.cells cur t (0, 0))) (hn : cs.length = Nat.min sLen dLen * st)
    (hsrc : ∀ j v, cs[j]? = some v → w.cell? (a.add j) = some v) (hfit : o + cs.length ≤ cur.size) (h1 : ∀ v ∈ cs, v.oneCell' = true) :
    (Builtin.copy_ #[dT, sT] ty #[.slice (some ⟨g, o, none⟩) dLen dCap, .slice (some a) sLen sCap]).run P w =
      .ok (goInt (Nat.min sLen dLen)) (w.setRow g (cur.toList.take o ++ cs ++ cur.toList.drop (o + cs.length)).toArray) := by
  have hl := run_loadCells_list (P := P) w a cs hsrc
  have hst := run_storeCells_at P g o t cs 0 cur w hg (by simpa using hfit) h1
  cases hq : P.info? elem with
  | none => simp [hq] at hs
  | some i =>
    have hi : i.size = st := by simpa [hq] using hs
    simp [Builtin.copy_, run_underlying hu, Builtin.lenOf, Builtin.firstCells, sizeOf, typeInfo, hq, hi, ← hn, hl, hst]
theorem own_at {w : World} {base n c b E st : Nat} {xs : List Value} (h : w.ownsRow base E st (.slice (some ⟨b, 0, none⟩) n c) n xs) : base ≤ b ∧ n ≤ c ∧ ∃ cur, w.heap[b]? = some (.cells cur E (0, 0)) ∧ cur.size = c * st ∧ cur.toList.take (n * st) = xs := by
  rcases h.2 with ⟨e, _⟩ | ⟨g, cap, cur, e, hb, hg, hc, _, hs, ht⟩
  · cases e
  · injection e with e1 _ e3
    injection e1 with e1
    injection e1 with e1
    subst e1 e3
    exact ⟨hb, hc, cur, hg, hs, ht⟩
/-- A row of one's own, some of whose cells have been laid anew. -/
theorem own_splice {w : World} {base n c b E st : Nat} {F D : List Value} {cur : Array Value} {o : Nat} (h : w.ownsRow base E st (.slice (some ⟨b, 0, none⟩) n c) n F) (hg : w.heap[b]? = some (.cells cur E (0, 0))) (ho : o + D.length ≤ F.length) :
    o + D.length ≤ cur.size ∧ (w.setRow b (cur.toList.take o ++ D ++ cur.toList.drop (o + D.length)).toArray).ownsRow base E st (.slice (some ⟨b, 0, none⟩) n c) n (F.take o ++ D ++ F.drop (o + D.length)) := by
  have hF := h.1
  rcases h.2 with ⟨e, _⟩ | ⟨g, cap, cur', e, hb, hg', hc, hcm, hs, ht⟩
  · cases e
  · injection e with e1 _ e3
    injection e1 with e1
    injection e1 with e1
    subst e1 e3
    rw [hg] at hg'
    cases hg'
    have hle : n * st ≤ c * st := Nat.mul_le_mul_right _ hc
    have hcl : cur.toList.length = c * st := by rw [Array.length_toList, hs]
    have hcur : cur.toList = F ++ cur.toList.drop (n * st) := by rw [← ht, List.take_append_drop]
    refine ⟨by omega, by rw [List.length_append, List.length_append, List.length_take, List.length_drop]; omega, .inr ⟨b, c, _, rfl, hb, setRow_heap _ _ _ _ _ _ hg, hc, hcm, ?_, ?_⟩⟩
    · rw [List.size_toArray, List.length_append, List.length_append, List.length_take, List.length_drop, hcl]
      omega
    · rw [List.toList_toArray]
      have e1 : cur.toList.take o = F.take o := by
        conv => lhs; rw [hcur]
        rw [List.take_append_of_le_length (by omega)]
      have e2 : cur.toList.drop (o + D.length) = F.drop (o + D.length) ++ cur.toList.drop (n * st) := by
        conv => lhs; rw [hcur]
        rw [List.drop_append_of_le_length (by omega)]
      rw [e1, e2, ← List.append_assoc, List.take_append_of_le_length (by rw [List.length_append, List.length_append, List.length_take, List.length_drop]; omega), List.take_of_length_le (by rw [List.length_append, List.length_append, List.length_take, List.length_drop]; omega)]
theorem own_same {w w' : World} {base E st n : Nat} {v : Value} {xs : List Value} (h : w.ownsRow base E st v n xs) (hk : ∀ k, v.ownBlock = some k → w'.heap[k]? = w.heap[k]?) : w'.ownsRow base E st v n xs :=
  ⟨h.1, h.2.imp id fun ⟨g, cap, cur, e, hb, hg, r⟩ => ⟨g, cap, cur, e, hb, (hk g (by rw [e]; rfl)).trans hg, r⟩⟩
theorem flat_spl {l d : List Sect} {s : Nat} (h1 : Secs l) (h2 : Secs d) (h : s + d.length ≤ l.length) : ((spl l s d).map cSec).flatten = (l.map cSec).flatten.take (s * 8) ++ (d.map cSec).flatten ++ (l.map cSec).flatten.drop (s * 8 + (d.map cSec).flatten.length) := by
  have e : ∀ k, k ≤ l.length → (l.map cSec).flatten = ((l.take k).map cSec).flatten ++ ((l.drop k).map cSec).flatten := fun k _ => by rw [← List.flatten_append, ← List.map_append, List.take_append_drop]
  have ht : Secs (l.take s) := fun x hx => h1 x (List.mem_of_mem_take hx)
  have ht2 : Secs (l.take (s + d.length)) := fun x hx => h1 x (List.mem_of_mem_take hx)
  have hl1 := flat_cells ht
  have hl2 := flat_cells h2
  have hl3 := flat_cells ht2
  rw [List.length_take, Nat.min_eq_left (by omega)] at hl1 hl3
  have e1 : (l.map cSec).flatten.take (s * 8) = ((l.take s).map cSec).flatten := by
    rw [e s (by omega), List.take_append_of_le_length (by omega), List.take_of_length_le (by omega)]
  have e2 : (l.map cSec).flatten.drop (s * 8 + (d.map cSec).flatten.length) = ((l.drop (s + d.length)).map cSec).flatten := by
    rw [e (s + d.length) h, List.drop_append_of_le_length (by omega), List.drop_of_length_le (by omega), List.nil_append]
  rw [e1, e2]
  unfold spl
  rw [List.map_append, List.map_append, List.flatten_append, List.flatten_append]
/-- Rows, one of which has been laid anew. -/
theorem rows_put {w w' : World} {base k b n c : Nat} {ys : List Vol} {y : Vol} {l' : List Sect} (h : Rows w base ys) (hk : ys[k]? = some y) (hd : y.d = .slice (some ⟨b, 0, none⟩) n c) (hs : Secs l') (hl : l'.length = y.l.length)
    (ho : w'.ownsRow base 58 8 y.d y.l.length (l'.map cSec).flatten) (hw : ∀ i, i ≠ b → w'.heap[i]? = w.heap[i]?) : Rows w' base (ys.set k ⟨y.d, l'⟩) := by
  obtain ⟨hlt, hyk⟩ := List.getElem?_eq_some_iff.1 hk
  refine ⟨fun z hz => ?_, ?_⟩
  · obtain ⟨i, hi⟩ := List.mem_iff_getElem?.1 hz
    rw [List.getElem?_set] at hi
    by_cases e : k = i
    · subst e
      rw [if_pos rfl, if_pos hlt] at hi
      injection hi with hi
      rw [← hi]
      show Secs l' ∧ w'.ownsRow base 58 8 y.d l'.length (l'.map cSec).flatten
      exact ⟨hs, by rw [hl]; exact ho⟩
    · rw [if_neg e] at hi
      have hm := List.mem_of_getElem? hi
      obtain ⟨hli, hzi⟩ := List.getElem?_eq_some_iff.1 hi
      refine ⟨(h.1 z hm).1, own_same (h.1 z hm).2 fun q hq => hw q fun hqb => ?_⟩
      subst hqb
      have hp := List.pairwise_iff_getElem.1 h.2
      rcases Nat.lt_or_gt_of_ne e with hlt2 | hlt2
      · have := hp k i (by rw [List.length_map]; exact hlt) (by rw [List.length_map]; exact hli) hlt2 q (by rw [List.getElem_map, hyk, hd]; rfl)
        rw [List.getElem_map, hzi] at this
        exact this hq
      · have := hp i k (by rw [List.length_map]; exact hli) (by rw [List.length_map]; exact hlt) hlt2 q (by rw [List.getElem_map, hzi]; exact hq)
        rw [List.getElem_map, hyk, hd] at this
        exact this rfl
  · have e : (ys.set k ⟨y.d, l'⟩).map (·.d) = ys.map (·.d) := by
      rw [List.map_set]
      apply List.ext_getElem?
      intro i
      rw [List.getElem?_set]
      split
      · rename_i e
        subst e
        rw [if_pos (by rw [List.length_map]; exact hlt), List.getElem?_map, hk]
        rfl
      · rfl
    rw [e]
    exact h.2
theorem con_set (ys : List Vol) (k : Nat) (y : Vol) : con (ys.set k y) = (con ys).set k y.l := by unfold con; rw [List.map_set]

/-- What New answers. -/
def NewQ (w : World) (l : List Int) (e : Ending) (w' : World) : Prop :=
  Below w.heap.size w w' ∧ ((chkS l ≠ 0 ∧ e = .returned (.tuple #[.slice none 0 0, .int .i64 (chkS l)])) ∨ (chkS l = 0 ∧ ∃ g ys, e = .returned (.tuple #[.slice (some ⟨g, 0, none⟩) ys.length ys.length, .int .i64 0]) ∧ con ys = (l.map fun x => List.replicate x.toNat zs) ∧ OwnIm w' w.heap.size g ys))
theorem chk_sizes {l : List Int} (h : chkS l = 0) : l.length ≤ 8 ∧ ∀ x ∈ l, 1 ≤ x ∧ x ≤ 4096 := by
  unfold chkS at h
  split at h
  · cases h
  · split at h
    · rename_i h1 h2
      exact ⟨by omega, fun x hx => of_decide_eq_true (List.all_eq_true.1 h2 x hx)⟩
    · cases h
set_option maxHeartbeats 2000000 in
set_option maxRecDepth 100000 in
theorem new_any (l : List Int) (v : Value) (w : World) (hv : Arr w v 1 (l.map cInt)) : Calls Try.prog 15 #[v] w (NewQ w l) := by
  have HC := hid (checkSizes_any l v w hv)
  have HM : Hid (chkS l = 0 → Calls Try.prog 44 #[v, .func (.func 45) #[] #[]] w (MadeM w (l.map fun x => List.replicate x.toNat zs))) := hid (fun h => mapped44_any l v w hv (by have := (chk_sizes h).1; omega) (chk_sizes h).2)
  obtain ⟨A, c, rfl⟩ := arr_form hv
  clear hv
  rw [List.length_map] at HC HM ⊢
  obtain ⟨ck, hck⟩ : ∃ ck, chkS l = ck := ⟨_, rfl⟩
  unfold NewQ
  rw [hck] at HC HM ⊢
  clear hck
  by_cases h0 : ck = 0
  · subst h0
    have HM2 := hid (HM.out rfl)
    go_enter Try.func15, Try.ntmps15
    go_wp2_with fail
    refine HC.out.mono ?_
    rintro e w1 ⟨rfl, rfl⟩
    go_wp2_with fail
    refine HM2.out.mono ?_
    rintro e w2 ⟨g, ys, rfl, hc, ho, hb⟩
    have HCN := hid hc
    have HO := hid ho
    have HB := hid hb
    clear hc ho hb HM2 HM HC
    go_wp2
    refine bodyPost_ret (v := .tuple #[.slice (some ⟨g, 0, none⟩) ys.length ys.length, .int .i64 0]) (by simp [results, Try.results15, go_sem]) rfl ?_
    exact ⟨HB.out, .inr ⟨trivial, g, ys, rfl, HCN.out, HO.out⟩⟩
  · have d1 : (ck != 0) = true := by simpa using h0
    have H0 := hid h0
    clear h0 HM
    go_enter Try.func15, Try.ntmps15
    go_wp2_with fail
    refine HC.out.mono ?_
    rintro e w1 ⟨rfl, rfl⟩
    go_wp2
    refine bodyPost_ret (v := .tuple #[.slice none 0 0, .int .i64 ck]) (by simp [results, Try.results15, go_sem]) rfl ?_
    exact ⟨Below.refl _ _, .inl ⟨H0.out, rfl⟩⟩
end Go.Proofs.Ytbcnikmhodkbfaa
