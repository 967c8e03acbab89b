/- Superblock: bytes.Equal 17; operations by what they do; the examples of the chapter on lists. -/
import Derived.Test.YtnocgfhcamnjdaaAt
import Derived.Test.YtnocgfhcamnjdaaRa
import Derived.Shelf.Bytes.SlSmallAll
namespace Go.Proofs.Ytnocgfhcamnjdaa
open Go.RowKit Go.Lib

set_option maxRecDepth 100000 in
theorem byt_conv {w : World} {A : Option Addr} {n c : Nat} {l : List Nat} (h : Byt w (.slice A n c) l) : (convert 22 9 (.slice A n c)).run Try.prog w = .ok (.string (strOfNums (ints l))) w := by
  obtain ⟨A', c', e⟩ := byt_form h
  injection e with e1 e2 e3
  subst e1 e2 e3
  rcases Nat.eq_zero_or_pos l.length with hn | hn
  · have hl : l = [] := List.eq_nil_of_length_eq_zero hn
    subst hl
    exact run_convert_bytes_zero w 22 5 Try.underlying22 Try.underlying5 A c 9 Try.underlying9
  · obtain ⟨b, off, rfl, _, hc⟩ := byt_cells h hn
    refine run_convert_bytes_arg (P := Try.prog) w 22 5 Try.underlying22 Try.underlying5 b off l.length c (ints l) (by simp [ints]) (fun i hi => ?_) 9 Try.underlying9
    rw [hc i l[i] (List.getElem?_eq_getElem hi)]
    simp [ints, List.getD, hi]
theorem str_eq {a b : List Nat} (ha : B8 a) (hb : B8 b) : ((strOfNums (ints a)).toList == (strOfNums (ints b)).toList) = decide (a = b) := by
  rw [ByteArray.toList_eq, ByteArray.toList_eq]
  by_cases h : a = b
  · subst h; simp
  · rw [decide_eq_false h]
    rw [beq_eq_false_iff_ne]
    intro he
    apply h
    have h1 := he
    simp only [strOfNums_data, ints, List.map_map] at h1
    clear he h
    induction a generalizing b with
    | nil => cases b with
      | nil => rfl
      | cons y b => simp at h1
    | cons x a ih =>
      cases b with
      | nil => simp at h1
      | cons y b =>
        simp only [List.map_cons, List.cons.injEq] at h1
        have hx := ha x (List.mem_cons_self ..)
        have hy := hb y (List.mem_cons_self ..)
        have h2 := congrArg UInt8.toNat h1.1
        simp at h2
        rw [ih (fun z hz => ha z (List.mem_cons_of_mem _ hz)) (fun z hz => hb z (List.mem_cons_of_mem _ hz)) h1.2, show x = y by omega]
/-- What a call answers that only looks. -/
def Says (b : Bool) (w : World) (e : Ending) (w' : World) : Prop := e = .returned (.bool b) ∧ w = w'
set_option maxHeartbeats 2000000 in
set_option maxRecDepth 100000 in
theorem equal_any (a b : List Nat) (v u : Value) (w : World) (hv : Byt w v a) (hu : Byt w u b) :
    Calls Try.prog 17 #[v, u] w (Says (decide (a = b)) w) := by
  obtain ⟨A, c, rfl⟩ := byt_form hv
  obtain ⟨C, d, rfl⟩ := byt_form hu
  have e1 := byt_conv hv
  have e2 := byt_conv hu
  have e3 := str_eq hv.1 hu.1
  obtain ⟨s, hs⟩ : ∃ s, strOfNums (ints a) = s := ⟨_, rfl⟩
  obtain ⟨t, ht⟩ : ∃ t, strOfNums (ints b) = t := ⟨_, rfl⟩
  obtain ⟨q, hq⟩ : ∃ q, decide (a = b) = q := ⟨_, rfl⟩
  rw [hs] at e1 e3
  rw [ht] at e2 e3
  rw [hq] at e3 ⊢
  clear hs ht hq hv hu
  go_enter Try.func17, Try.ntmps17
  go_wp2
  go_ret
  exact ⟨rfl, rfl⟩
/-- An operation of what SameOps looks at. -/
def mkO (c : Int × Int × List Sect) : OpT := ⟨c.1, c.2.1, .slice none 0 0, c.2.2⟩
theorem exec_mk (st : List Sect) (ca : List Ca) (l : List OpT) (i : Nat) : exec st ca l i = exec st ca ((l.map opC).map mkO) i := by
  induction l generalizing st ca i with
  | nil => rfl
  | cons x r ih =>
    rw [List.map_cons, List.map_cons, exec, exec]
    show (if x.k = 0 then if insB st.length x.a x.l.length = true then exec st (ca ++ putL x.a x.l) r (i + 1) else _ else if x.k = 1 then exec (newL st ca) [] r (i + 1) else _) = (if x.k = 0 then if insB st.length x.a x.l.length = true then exec st (ca ++ putL x.a x.l) ((r.map opC).map mkO) (i + 1) else _ else if x.k = 1 then exec (newL st ca) [] ((r.map opC).map mkO) (i + 1) else _)
    rw [ih, ih]
def runC (st : List Sect) (ca : List Ca) (C : List (Int × Int × List Sect)) : Int × Int × List Sect × List Ca := runS st ca (C.map mkO)
theorem runS_C (st : List Sect) (ca : List Ca) (l : List OpT) : runS st ca l = runC st ca (l.map opC) := by
  unfold runC runS
  rw [← exec_mk]
theorem tot_mk (l : List OpT) : tot l = tot ((l.map opC).map mkO) := by
  induction l with
  | nil => rfl
  | cons x r ih => rw [List.map_cons, List.map_cons, tot, tot, ← ih]; rfl
theorem run_dk {X : World} {v u : Value} {st st' : List Sect} {ca ca' : List Ca} {l : List OpT} {C : List (Int × Int × List Sect)} {n er : Int} (hd : Dk X v st ca) (ho : OpsA X u l) (hl : l.map opC = C) (hr : runC st ca C = (n, er, st', ca')) (hb : ca.length + tot (C.map mkO) ≤ 500000) :
    Calls Try.prog 25 #[v, u] X fun e w' => ∃ A c B d, e = .returned (.tuple #[.agg #[.slice A st'.length c, .slice B ca'.length d], .int .i64 n, .int .i64 er]) ∧ OwnG w' X.heap.size st' ca' (.agg #[.slice A st'.length c, .slice B ca'.length d]) ∧ Below X.heap.size X w' := by
  obtain ⟨sv, cv, rfl, h1, h2, h3⟩ := hd
  refine (run_any st ca sv cv u l X h1 h2 h3 ho (by rw [tot_mk, hl]; exact hb)).mono ?_
  rintro e w' ⟨v', rfl, hg, hbl⟩
  rw [runS_C, hl, hr] at hg ⊢
  obtain ⟨sv', cv', rfl, h1', h2', h3'⟩ := hg.dk
  obtain ⟨A, c, rfl⟩ := sec_form h1'
  obtain ⟨B, d, rfl⟩ := cas_form h3'
  exact ⟨A, c, B, d, rfl, hg, hbl⟩
theorem load_dk {X : World} {v : Value} {st : List Sect} {ca : List Ca} {a er : Int} {p : List Nat} {k : Nat} (hd : Dk X v st ca) (hr : R64 a) (hca : ca.length ≤ 500000) (hl : loadR st ca a = (er, p, k)) :
    Calls Try.prog 15 #[v, .int .i64 a] X fun e w' => ∃ A c, e = .returned (.tuple #[.slice A p.length c, .int .i64 (k : Int), .int .i64 er]) ∧ Byt w' (.slice A p.length c) p ∧ Below X.heap.size X w' := by
  obtain ⟨sv, cv, rfl, h1, h2, h3⟩ := hd
  refine (load_any st ca sv cv a X h1 h2 h3 hr hca).mono ?_
  rintro e w' ⟨u, rfl, hb, hbl⟩
  rw [hl] at hb ⊢
  obtain ⟨A, c, rfl⟩ := byt_form hb
  exact ⟨A, c, rfl, hb, hbl⟩
theorem made_open {w w' : World} {er : Int} {C : List (Int × Int × List Sect)} {e : Ending} (h : MadeOps w er C e w') : ∃ A c l, e = .returned (.tuple #[.slice A C.length c, .int .i64 er]) ∧ OpsA w' (.slice A C.length c) l ∧ NilOk (.slice A C.length c) ∧ l.map opC = C ∧ Below w.heap.size w w' := by
  obtain ⟨u, l, rfl, ho, hn, hl, hb⟩ := h
  obtain ⟨A, c, rfl⟩ := ops_form ho
  have e : l.length = C.length := by rw [← hl, List.length_map]
  rw [e] at ho hn ⊢
  exact ⟨A, c, l, rfl, ho, hn, hl, hb⟩
def sb1 : List Sect := secsN 1 8 (conL [7, 8]) ++ List.replicate 12 zs
def sb2 : List Sect := secsN 1 8 (conL [7, 8]) ++ secsN 2 8 (conL [9]) ++ List.replicate 4 zs
theorem ex_fE : fmtE 0 [7, 8] = 0 := by decide
theorem ex_run1 : runC (List.replicate 20 zs) [] (fmtC 0 [7, 8]) = (4, 0, sb1, []) := by decide +kernel
theorem ex_load1 : loadR sb1 [] 0 = (0, [7, 8], 1) := by decide +kernel
theorem ex_sE : storE sb1 [] 0 [9] = 0 := by decide +kernel
theorem ex_sC : storC sb1 [] 0 [9] = repC 8 (secsN 2 8 (conL [9])) := by decide +kernel
theorem ex_run2 : runC sb1 [] (repC 8 (secsN 2 8 (conL [9]))) = (2, 0, sb2, []) := by decide +kernel
theorem ex_load2 : loadR sb2 [] 0 = (0, [9], 2) := by decide +kernel
end Go.Proofs.Ytnocgfhcamnjdaa
