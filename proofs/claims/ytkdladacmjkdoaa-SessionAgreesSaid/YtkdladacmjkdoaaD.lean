/- enter, close, send; the reference's late, message, phase. -/
import Derived.Test.YtkdladacmjkdoaaB
import Derived.Test.YtkdladacmjkdoaaRe
import Derived.Handy
namespace Go.Proofs.Ytkdladacmjkdoaa
open Go.RowKit Go.Lib
abbrev iv (x : Int) : Value := .int .i64 x
def cS (s : Ses) : Array Value := #[.int .i64 s.l, .int .i64 s.r, .int .i64 s.e, .int .i64 s.n, .int .i64 s.p, .int .i64 s.d]
/-- An end's box. -/
def EndAt (w : World) (g : Nat) (s : Ses) : Prop := w.heap[g]? = some (.cells (cS s) 71)
theorem end_set4 {w : World} {g : Nat} {s : Ses} (h : EndAt w g s) (p : Int) : EndAt (w.setCell ⟨g, 4, none⟩ (.int .i64 p)) g { s with p := p } := box_set h 4 _
theorem end_set5 {w : World} {g : Nat} {s : Ses} (h : EndAt w g s) (d : Int) : EndAt (w.setCell ⟨g, 5, none⟩ (.int .i64 d)) g { s with d := d } := box_set h 5 _
theorem end_set3 {w : World} {g : Nat} {s : Ses} (h : EndAt w g s) (n : Int) : EndAt (w.setCell ⟨g, 3, none⟩ (.int .i64 n)) g { s with n := n } := box_set h 3 _
theorem end_set2 {w : World} {g : Nat} {s : Ses} (h : EndAt w g s) (e : Int) : EndAt (w.setCell ⟨g, 2, none⟩ (.int .i64 e)) g { s with e := e } := box_set h 2 _
set_option maxRecDepth 100000 in
theorem enter_any (g : Nat) (s : Ses) (p d : Int) (w : World) (h : EndAt w g s) : Calls Try.prog 32 #[.pointer (some ⟨g, 0, none⟩), .int .i64 p, .int .i64 d] w fun e w' => e = .returned (.tuple #[]) ∧ EndAt w' g { s with p := p, d := d } ∧ Upd g w w' := by
  have h4 := end_set4 h p
  have h5 := end_set5 h4 d
  have hu := ((Upd.refl g w).set 4 (.int .i64 p)).set 5 (.int .i64 d)
  have x4 := cell_of_row _ _ 4 _ _ _ h
  have x5 := cell_of_row _ _ 5 _ _ _ h4
  have f4 := box_fr h 4
  have f5 := box_fr h4 5
  have H5 := hid h5
  have HU := hid hu
  clear h h4 h5 hu
  go_enter Try.func32, Try.ntmps32
  go_wp2_with fail
  exact bodyPost_end (results_none (by kernel_rfl) _ _ _) rfl ⟨rfl, H5.out, HU.out⟩
set_option maxRecDepth 100000 in
theorem close_any (g : Nat) (s : Ses) (w : World) (h : EndAt w g s) : Calls Try.prog 37 #[.pointer (some ⟨g, 0, none⟩)] w fun e w' => e = .returned (.tuple #[]) ∧ EndAt w' g { s with p := 0, d := 0 } ∧ Upd g w w' := by
  have HC := hid (enter_any g s 0 0 w h)
  clear h
  go_enter Try.func37, Try.ntmps37
  go_wp2_with (refine HC.out.mono ?_; rintro e w' ⟨rfl, h1, h2⟩; have H1 := hid h1; have H2 := hid h2; clear h1 h2)
  exact bodyPost_end (results_none (by kernel_rfl) _ _ _) rfl ⟨rfl, H1.out, H2.out⟩
/-- A message: its kind, from, to, number and epoch. -/
structure Mes where
  k : Int
  f : Int
  t : Int
  n : Int
  e : Int
deriving DecidableEq
def cM (m : Mes) : List Value := [.int .i64 m.k, .int .i64 m.f, .int .i64 m.t, .int .i64 m.n, .int .i64 0, .int .i64 m.e, .slice none 0 0, .slice none 0 0]
def nm (k : Int) (s : Ses) : Mes := ⟨k, s.l, s.r, s.n, s.e⟩
/-- A row of messages. -/
def Msgs (w : World) (v : Value) (l : List Mes) : Prop := NilOk v ∧ Arr w v 8 (l.map cM)
theorem Msgs.below {w w' : World} {v : Value} {l : List Mes} (h : Msgs w v l) (hb : Below w.heap.size w w') : Msgs w' v l := ⟨h.1, h.2.below hb⟩
theorem msgs_nil (w : World) : Msgs w (.slice none 0 0) [] := ⟨nilOk_nil, arr_nil w 8⟩
theorem msgs_form {w : World} {v : Value} {l : List Mes} (h : Msgs w v l) : ∃ A c, v = .slice A l.length c := by
  obtain ⟨A, c, e⟩ := arr_form h.2
  rw [List.length_map] at e
  exact ⟨A, c, e⟩
theorem msgs_one {w : World} {g : Nat} {m : Mes} (h : w.heap[g]? = some (.cells (cM m).toArray 47)) : Msgs w (.slice (some ⟨g, 0, none⟩) 1 1) [m] := by
  refine ⟨nilOk_some _ _ _, some ⟨g, 0, none⟩, 1, rfl, Nat.le_refl _, by unfold maxLen; omega, g, 0, fun _ => ⟨rfl, box_lt h⟩, ?_⟩
  intro i r hr j u hu
  rcases i with _ | i
  · simp only [List.map_cons, List.getElem?_cons_zero, Option.some.injEq] at hr
    subst hr
    have e : (0 + 0 * 8 + j) = j := by omega
    simp only [e]
    rw [cell_of_row _ _ j _ _ _ h, ← hu]
    simp
  · simp at hr
/-- No message, or one in a block that is not older than B. -/
def MsgQ (B : Nat) (w : World) (v : Value) (l : List Mes) : Prop := (v = .slice none 0 0 ∧ l = []) ∨ ∃ b m, v = .slice (some ⟨b, 0, none⟩) 1 1 ∧ l = [m] ∧ B ≤ b ∧ w.heap[b]? = some (.cells (cM m).toArray 47)
theorem msgQ_nil (B : Nat) (w : World) : MsgQ B w (.slice none 0 0) [] := .inl ⟨rfl, rfl⟩
theorem MsgQ.keep {B C : Nat} {w w' : World} {v : Value} {l : List Mes} (h : MsgQ B w v l) (hc : C ≤ B) (hk : ∀ b x, B ≤ b → w.heap[b]? = some x → w'.heap[b]? = some x) : MsgQ C w' v l := by
  rcases h with h | ⟨b, m, h1, h2, h3, h4⟩
  · exact .inl h
  · exact .inr ⟨b, m, h1, h2, Nat.le_trans hc h3, hk _ _ h3 h4⟩
theorem MsgQ.below {B C : Nat} {w w' : World} {v : Value} {l : List Mes} (h : MsgQ B w v l) (hc : C ≤ B) (hb : Below w.heap.size w w') : MsgQ C w' v l := h.keep hc fun _ _ _ hx => (hb.block _ (box_lt hx)).trans hx
theorem MsgQ.msgs {B : Nat} {w : World} {v : Value} {l : List Mes} (h : MsgQ B w v l) : Msgs w v l := by
  rcases h with ⟨rfl, rfl⟩ | ⟨b, m, rfl, rfl, _, h4⟩
  · exact msgs_nil w
  · exact msgs_one h4
theorem ret_b {a b : Bool} (h : a = b) : Ending.returned (.bool a) = .returned (.bool b) := by rw [h]
theorem w64 {x : Int} (h1 : -9223372036854775808 ≤ x) (h2 : x ≤ 9223372036854775807) : wrap64 x = x := by
  have := IntKind.wrap_i64 x
  unfold wrap64
  omega
def lateB (n p : Int) : Bool := decide (n < 0 ∨ 1073741824 < n ∨ p < 0 ∨ 1073741824 < n + p)
theorem lateB_fit {n p : Int} (hn : 0 ≤ n) (hr : n ≤ 9223372036854775807) : lateB n p = !fitB n p := by
  unfold lateB fitB
  rw [w64 (by omega) (by omega)]
  by_cases a : 0 ≤ p
  · by_cases b : p ≤ 1073741824 - n
    · rw [decide_eq_false (by omega), decide_eq_true a, decide_eq_true b]; rfl
    · rw [decide_eq_true (by omega), decide_eq_true a, decide_eq_false b]; rfl
  · rw [decide_eq_true (by omega), decide_eq_false a]; rfl
theorem lateB_time {n p : Int} (h : timeB n = false) : lateB n p = true := by
  unfold lateB
  unfold timeB at h
  simp only [Bool.and_eq_false_iff, decide_eq_false_iff_not] at h
  exact decide_eq_true (by omega)
set_option maxRecDepth 100000 in
theorem late_any (n p : Int) (w : World) : Calls Try.prog 34 #[.int .i64 n, .int .i64 p] w fun e w' => e = .returned (.bool (lateB n p)) ∧ w' = w := by
  by_cases a0 : n < 0
  · have b0 : decide (n < 0) = true := decide_eq_true a0
    go_enter Try.func34, Try.ntmps34
    go_wp2_with fail
    go_ret
    exact ⟨ret_b (by unfold lateB; simp; try omega), rfl⟩
  have b0 : decide (n < 0) = false := decide_eq_false a0
  by_cases a1 : 1073741824 < n
  · have b1 : decide (1073741824 < n) = true := decide_eq_true a1
    go_enter Try.func34, Try.ntmps34
    go_wp2_with fail
    go_ret
    exact ⟨ret_b (by unfold lateB; simp; try omega), rfl⟩
  have b1 : decide (1073741824 < n) = false := decide_eq_false a1
  by_cases a2 : p < 0
  · have b2 : decide (p < 0) = true := decide_eq_true a2
    go_enter Try.func34, Try.ntmps34
    go_wp2_with fail
    go_ret
    exact ⟨ret_b (by unfold lateB; simp; try omega), rfl⟩
  have b2 : decide (p < 0) = false := decide_eq_false a2
  by_cases a3 : 1073741824 < p
  · have b3 : decide (1073741824 < p) = true := decide_eq_true a3
    go_enter Try.func34, Try.ntmps34
    go_wp2_with fail
    go_ret
    exact ⟨ret_b (by unfold lateB; simp; try omega), rfl⟩
  have b3 : decide (1073741824 < p) = false := decide_eq_false a3
  have hw : wrap64 (n + p) = n + p := w64 (by omega) (by omega)
  by_cases a9 : 1073741824 < n + p
  · have b9 : decide (1073741824 < n + p) = true := decide_eq_true a9
    go_enter Try.func34, Try.ntmps34
    go_wp2_with fail
    go_ret
    exact ⟨ret_b (by unfold lateB; simp; try omega), rfl⟩
  have b9 : decide (1073741824 < n + p) = false := decide_eq_false a9
  go_enter Try.func34, Try.ntmps34
  go_wp2_with fail
  go_ret
  exact ⟨ret_b (by unfold lateB; simp; try omega), rfl⟩
set_option maxRecDepth 100000 in
theorem phase_any (s : Ses) (p : Int) (w : World) : Calls Try.prog 38 #[sv s, .int .i64 p] w fun e w' => e = .returned (sv { s with p := p, d := 0 }) ∧ Below w.heap.size w w' := by
  have HB := hid (fun (x y : Obj) => below_both (al1 w x) (al1 (w.alloc x) y))
  unfold sv
  go_enter Try.func38, Try.ntmps38
  go_wp2_with fail
  go_returns
  exact ⟨rfl, HB.out _ _⟩
theorem new_two (w : World) (x y : Obj) : ((w.alloc x).alloc y).heap[w.heap.size + 1]? = some y := by
  have h := heap_alloc_new (w.alloc x) y
  rwa [show (w.alloc x).heap.size = w.heap.size + 1 from Array.size_push ..] at h
set_option maxRecDepth 100000 in
theorem message_any (s : Ses) (k : Int) (w : World) : Calls Try.prog 35 #[sv s, .int .i64 k] w fun e w' => ∃ v, e = .returned v ∧ MsgQ w.heap.size w' v [nm k s] ∧ Below w.heap.size w w' := by
  have HB := hid (fun (x y : Obj) => below_both (al1 w x) (al1 (w.alloc x) y))
  have HM := hid (fun (x : Obj) => (show MsgQ w.heap.size ((w.alloc x).alloc (.cells (cM (nm k s)).toArray 47)) (.slice (some ⟨w.heap.size + 1, 0, none⟩) 1 1) [nm k s] from .inr ⟨_, nm k s, rfl, rfl, Nat.le_succ _, new_two w x (.cells (cM (nm k s)).toArray 47)⟩))
  unfold sv
  go_enter Try.func35, Try.ntmps35
  go_wp2_with fail
  go_ret
  exact ⟨_, rfl, HM.out _, HB.out _ _⟩
end Go.Proofs.Ytkdladacmjkdoaa
