/- The reader's number in any state; what a call answers that reads; Int. -/
import Derived.Test.YtldlddoealpomaaQ
import Derived.Deep.QuietTactic
import Derived.BigQuiet
namespace Go.Proofs.Ytldlddoealpomaa
open Go.RowKit Go.Lib

set_option maxHeartbeats 2000000 in
set_option maxRecDepth 100000 in
theorem rnum_old (er : Int) (g : Nat) (w0 w : World) (hr : Rd w0 w g [] er) (he : er ≠ 0) :
    Calls Try.prog 74 #[.pointer (some ⟨g, 0, none⟩)] w (Got dNum VNat ShNat w0 w g [] er) := by
  have HF := hid (fail_old [] 10 er g w0 w hr he)
  have HE := hid he
  obtain ⟨v, hb, hv, hn⟩ := hr
  obtain ⟨A, c, rfl⟩ := byt_form hv
  rw [List.length_nil] at hb
  have c0 : w.cell? ⟨g, 0, none⟩ = some (.slice A 0 c) := cell_of_row _ _ 0 _ _ _ hb
  clear hb hv hn he
  go_enter Try.func74, Try.ntmps74
  go_wp2
  go_loopw [3, 6] (fun n i wr => i = .int .i64 0 ∧ n = .int .i64 0 ∧ w = wr) (fun _ i _ => 8 - (intOf i).toNat)
  case atStart => exact ⟨rfl, rfl, rfl⟩
  case round =>
    obtain ⟨rfl, rfl, rfl⟩ := hrel
    go_wp2_with fail
    refine HF.out.mono ?_
    rintro e w1 ⟨⟨v1, rfl⟩, hu, hr⟩
    have HU := hid hu
    have HRd := hid hr
    clear hu hr
    go_wp2
    go_ret
    exact ⟨_, rfl, ⟨0, by omega, rfl⟩, HU.out, .inr ⟨er, HE.out, fun h => absurd h HE.out, fun _ => rfl, HRd.out⟩⟩
theorem rnum_any (s : List Nat) (er : Int) (g : Nat) (w0 w : World) (hb0 : Below w0.heap.size w0 w) (hr : Rd w0 w g s er) (he : er ≠ 0 → s = []) (hl : s.length ≤ 90000) :
    Calls Try.prog 74 #[.pointer (some ⟨g, 0, none⟩)] w (Got dNum VNat ShNat w0 w g s er) := by
  rcases Classical.em (er = 0) with h | h
  · subst h; exact rnum_new s g w0 w hb0 hr hl
  · obtain rfl := he h; exact rnum_old er g w0 w hr h
theorem Rd.lt {w0 w : World} {g : Nat} {s : List Nat} {er : Int} (h : Rd w0 w g s er) : g < w.heap.size := by
  obtain ⟨v, hb, _⟩ := h
  exact box_lt hb
theorem Rd.alloc {w0 w : World} {g : Nat} {s : List Nat} {er : Int} (h : Rd w0 w g s er) (o : Obj) : Rd w0 (w.alloc o) g s er := by
  obtain ⟨v, hb, h2⟩ := h
  exact ⟨v, (Below.heap_alloc _ _ _ (box_lt hb)).trans hb, h2⟩
theorem vnat {w : World} {n x : Nat} (h : VNat w (.int .i64 (n : Int)) x) : x = n := by unfold VNat at h; injection h with _ h; omega
/-- Reading leaves no more than there was. -/
def Shrinks {α : Type} (D : Reads α) : Prop := ∀ s x t, D s = .ok (x, t) → t.length ≤ s.length
theorem shr_num : Shrinks dNum := fun s x t h => by
  unfold dNum at h
  split at h
  · injection h with h
    injection h with _ h
    rw [← h, List.length_drop]; omega
  · cases h
/-- Blocks with cells of type T are as they were. -/
def Keep (T : TypeId) (w w' : World) : Prop := ∀ (k : Nat) (cs : Array Value), w.heap[k]? = some (.cells cs T) → w'.heap[k]? = some (.cells cs T)
theorem Keep.trans {T : TypeId} {a b c : World} (h : Keep T a b) (k : Keep T b c) : Keep T a c := fun i cs hi => k i cs (h i cs hi)
theorem keep_below {T : TypeId} {a b : World} (h : Below a.heap.size a b) : Keep T a b := fun i _ hi => (h.block i (box_lt hi)).trans hi
theorem keep_grown {T E : TypeId} {st base n : Nat} {a b : World} {v : Value} {xs : List Value} (ho : a.ownsRow base E st v n xs) (hT : T ≠ E) (hg : a.grownBy b v.ownBlock) : Keep T a b := fun i cs hi => by
  refine (hg.block i (box_lt hi) ?_).trans hi
  rcases ho.2 with ⟨rfl, _⟩ | ⟨k, cap, cur, rfl, _, hgb, _⟩
  · simp [Value.ownBlock]
  · intro e
    obtain rfl : i = k := by simpa [Value.ownBlock] using e
    have := hi.symm.trans hgb
    simp at this
    exact hT this.2
theorem own_keep {T : TypeId} {st base n : Nat} {a b : World} {v : Value} {xs : List Value} (ho : a.ownsRow base T st v n xs) (h : Keep T a b) : b.ownsRow base T st v n xs := by
  refine ⟨ho.1, ?_⟩
  rcases ho.2 with h0 | ⟨k, cap, cur, e, hb, hgb, h2⟩
  · exact .inl h0
  · exact .inr ⟨k, cap, cur, e, hb, h _ _ hgb, h2⟩
theorem rd_err {w0 w : World} {g : Nat} {s : List Nat} {er : Int} (h : Rd w0 w g s er) : w.cell? ⟨g, 1, none⟩ = some (.int .i64 er) := by
  obtain ⟨v, hb, _⟩ := h
  exact cell_of_row _ _ 1 _ _ _ hb
def VByt (w : World) (v : Value) (l : List Nat) : Prop := B8 l ∧ ∃ base, w.ownsRow base 5 1 v l.length (l.map byteV)
theorem vbyt_byt {w : World} {v : Value} {l : List Nat} (h : VByt w v l) : Byt w v l := by
  obtain ⟨h8, base, ho⟩ := h
  exact byt_of_own ho h8
theorem vbyt_nil {w : World} {v : Value} {l : List Nat} (h : VByt w v l) : NilOk v := by
  obtain ⟨h8, base, ho⟩ := h
  exact own_nilOk ho
theorem vbyt_below {w w' : World} {v : Value} {l : List Nat} (hb : Below w.heap.size w w') (h : VByt w v l) : VByt w' v l := by
  obtain ⟨h8, base, ho⟩ := h
  exact ⟨h8, base, own_keep ho (keep_below hb)⟩
/-- What a call answers that reads at the beginning of s. -/
def Red {α : Type} (D : Reads α) (V : World → Value → α → Prop) (none : Value) (w : World) (s : List Nat) (e : Ending) (w' : World) : Prop :=
  ∃ v r er, e = .returned (.tuple #[v, r, .int .i64 er]) ∧ Below w.heap.size w w' ∧ ((∃ x t, D s = .ok (x, t) ∧ er = 0 ∧ V w' v x ∧ VByt w' r t) ∨ (D s = .error er ∧ er ≠ 0 ∧ v = none ∧ r = .slice .none 0 0))
set_option maxHeartbeats 2000000 in
set_option maxRecDepth 100000 in
theorem readInt_any (s : List Nat) (v : Value) (w : World) (hv : Byt w v s) (hn : NilOk v) (hl : s.length ≤ 90000) :
    Calls Try.prog 73 #[v, .func (.func 74) #[] #[]] w (Red dNum VNat (.int .i64 0) w s) := by
  have hB := al1 w (.cells #[v, .int .i64 0] 126)
  have HD := hid (rnum_any s 0 w.heap.size w (w.alloc (.cells #[v, .int .i64 0] 126)) hB ⟨v, heap_alloc_new _ _, hv, hn⟩ (fun h => absurd rfl h) hl)
  have HCL := hid (fun (t : List Nat) (u : Value) (W : World) (h : Byt W u t) (hn : NilOk u) (hl : t.length ≤ 90000) => clone_any t u W h hn (by omega))
  have HBL : Hid (∀ (W W' : World) (u : Value) (x : Nat), Below W.heap.size W W' → VNat W u x → VNat W' u x) := hid (fun _ _ _ _ hb h => h)
  have HB := hid hB
  obtain ⟨A, ca, rfl⟩ := byt_form hv
  clear hv hn hB
  go_enter Try.func73, Try.ntmps73
  go_wp2_with fail
  refine HD.out.mono ?_
  rintro e w1 ⟨v1, rfl, hsh, hu, h⟩
  obtain ⟨m, hm, rfl⟩ := hsh
  have HU := hid hu
  have hz := hu.low.size
  have hz2 : w.heap.size + 1 ≤ w1.heap.size := by simpa using hz
  have hbw : Below w.heap.size w w1 := HB.out.trans (hu.below (Nat.le_refl _) (by simp))
  have HBW := hid hbw
  clear hu hbw hz
  rcases h with ⟨x, t, _, hd, hv, hr⟩ | ⟨er', he', ha, _, hr⟩
  · have ce := rd_err hr
    obtain ⟨u, hb, hu, hnu⟩ := hr
    have hw1 : Byt w1 u t := hu.below HBW.out
    obtain ⟨A4, c4, rfl⟩ := byt_form hu
    have c0 : w1.cell? ⟨w.heap.size, 0, none⟩ = some (.slice A4 t.length c4) := cell_of_row _ _ 0 _ _ _ hb
    have HD1 := hid hd
    have HV := hid hv
    have HC := hid (HCL.out t _ w1 hw1 hnu (by have := shr_num _ _ _ hd; omega))
    have HB8 := hid hw1.1
    clear hb hu hnu hd hv hw1
    go_wp2_with fail
    refine HC.out.mono ?_
    rintro e w2 ⟨v2, rfl, ho2, hb2⟩
    obtain ⟨a2, c2, rfl⟩ := own_form ho2
    have HO2 := hid ho2
    have HB2 := hid hb2
    clear ho2 hb2
    go_wp2
    refine bodyPost_ret (v := .tuple #[.int .i64 (m : Int), .slice a2 t.length c2, .int .i64 0]) (by simp [results, Try.results73, go_sem]) rfl ?_
    exact ⟨_, _, 0, rfl, below_both HBW.out HB2.out, .inl ⟨x, t, HD1.out, rfl, HBL.out w1 w2 _ _ HB2.out HV.out, HB8.out, _, HO2.out⟩⟩
  · have ce := rd_err hr
    have d1 : (er' == 0) = false := by simpa using he'
    have d2 : (er' != 0) = true := by simpa using he'
    have HA := hid (ha rfl)
    have HE := hid he'
    have HR := hid hr
    clear ha he' hr
    go_wp2_with fail
    go_quiet (fail)
    have HB9 : Hid (Below w.heap.size w (w1.drewN nq)) := hid ⟨HBW.out.os, HBW.out.tape, HBW.out.output, HBW.out.size, HBW.out.block⟩
    go_wp2
    refine bodyPost_ret (v := .tuple #[(.int .i64 0), .slice none 0 0, .int .i64 er']) (by simp [results, Try.results73, go_sem]) rfl ?_
    exact ⟨_, _, er', rfl, HB9.out, .inr ⟨HA.out, HE.out, rfl, rfl⟩⟩
set_option maxHeartbeats 2000000 in
set_option maxRecDepth 100000 in
theorem int_any (s : List Nat) (v : Value) (w : World) (hv : Byt w v s) (hn : NilOk v) (hl : s.length ≤ 90000) :
    Calls Try.prog 62 #[v] w (Red dNum VNat (.int .i64 0) w s) := by
  have HP := hid (readInt_any s v w hv hn hl)
  obtain ⟨A, ca, rfl⟩ := byt_form hv
  clear hv hn
  go_enter Try.func62, Try.ntmps62
  go_wp2_with fail
  refine HP.out.mono ?_
  rintro e w1 ⟨v1, r1, er1, rfl, hb1, h1⟩
  have HB := hid hb1
  have HH := hid h1
  clear hb1 h1
  go_wp2
  refine bodyPost_ret (v := .tuple #[v1, r1, .int .i64 er1]) (by simp [results, Try.results62, go_sem]) rfl ?_
  exact ⟨_, _, _, rfl, HB.out, HH.out⟩
theorem red_ok {α : Type} {D : Reads α} {V : World → Value → α → Prop} {n : Value} {w w' : World} {s t : List Nat} {x : α} {e : Ending} (h : Red D V n w s e w') (hd : D s = .ok (x, t)) :
    ∃ v r, e = .returned (.tuple #[v, r, .int .i64 0]) ∧ Below w.heap.size w w' ∧ V w' v x ∧ VByt w' r t := by
  obtain ⟨v, r, er, rfl, hb, h⟩ := h
  rcases h with ⟨x', t', hd', rfl, hv, hr⟩ | ⟨hd', _⟩
  · rw [hd] at hd'
    cases hd'
    exact ⟨v, r, rfl, hb, hv, hr⟩
  · rw [hd] at hd'; cases hd'
theorem red_err {α : Type} {D : Reads α} {V : World → Value → α → Prop} {n : Value} {w w' : World} {s : List Nat} {er : Int} {e : Ending} (h : Red D V n w s e w') (hd : D s = .error er) :
    e = .returned (.tuple #[n, .slice none 0 0, .int .i64 er]) ∧ Below w.heap.size w w' ∧ er ≠ 0 := by
  obtain ⟨v, r, er', rfl, hb, h⟩ := h
  rcases h with ⟨x', t', hd', _⟩ | ⟨hd', hne, rfl, rfl⟩
  · rw [hd] at hd'; cases hd'
  · rw [hd] at hd'
    cases hd'
    exact ⟨rfl, hb, hne⟩
end Go.Proofs.Ytldlddoealpomaa
