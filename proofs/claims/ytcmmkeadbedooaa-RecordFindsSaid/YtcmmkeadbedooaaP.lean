/- Decode. -/
import Derived.Test.YtcmmkeadbedooaaO
import Derived.Defers
import Derived.Recover
import Derived.Laws.Pointers
namespace Go.Proofs.Ytcmmkeadbedooaa
open Go.RowKit Go.Lib

set_option maxRecDepth 100000 in
theorem catch_idle (p q r : Addr) (w : World) :
    CallsD Try.prog 32 #[.pointer (some p), .pointer (some q), .pointer (some r)] .returning w fun e u' w' => e = .returned (.tuple #[]) ∧ u' = .returning ∧ w' = w := by
  refine callsD_of_wpS Try.func32 rfl fun c₀ cs hu => ?_
  apply wpS_seq
  apply wpS_region
  simp [wpOpsS, go_sem, recoverD, hu, Try.ntmps32, Exit.thenS]
  apply wpS_seq
  apply wpS_region
  simp [wpOpsS, go_sem, Act.eval, Array.replicate, Exit.thenS]
  refine wpS_cond (t := false) (by simp [Act.eval]) ?_
  simp only [Bool.false_eq_true, if_false]
  refine wpS_of_wp (wp_skip ?_)
  cases c₀
  simp_all [bodyPostS, results, Try.results32]
theorem und29 : Try.prog.underlying 29 = some (.int .i64) := by kernel_rfl
set_option maxRecDepth 100000 in
theorem run_assert (er : Int) (W : World) : (Instr.typeAssert (.iface 29 (.int .i64 er)) 20 29 false).run Try.prog W = .ok (.int .i64 er) W := by
  simp [Instr.typeAssert, run_underlying und29, Sem.run_bind]
/-- The world behind what Decode stores; behind a panic that was recovered. -/
def fin (w : World) (a b c : Nat) (v0 v1 v2 u z : Value) : World := ((((w.setCell ⟨a, 0, none⟩ v0).setCell ⟨a, 1, none⟩ v1).setCell ⟨a, 2, none⟩ v2).setCell ⟨b, 0, none⟩ u).setCell ⟨c, 0, none⟩ z
abbrev after (w : World) (a b c : Nat) (er : Int) : World := fin w a b c (.int .i64 0) (.int .i64 0) (.slice none 0 0) (.int .i64 0) (.int .i64 er)
set_option maxRecDepth 100000 in
theorem catch_pan (a b c : Nat) (er : Int) (w : World) (older : List PanicEntry) (x0 x1 x2 y z : Value) (ha : w.heap[a]? = some (.cells #[x0, x1, x2] 27)) (hb : w.heap[b]? = some (.cells #[y] 3)) (hc : w.heap[c]? = some (.cells #[z] 29)) (hab : a ≠ b) (hac : a ≠ c) (hbc : b ≠ c) :
    CallsD Try.prog 32 #[.pointer (some ⟨a, 0, none⟩), .pointer (some ⟨b, 0, none⟩), .pointer (some ⟨c, 0, none⟩)] (.panicking ({ v := .iface 29 (.int .i64 er), recovered := false } :: older)) w fun e u' w' =>
      e = .returned (.tuple #[]) ∧ u' = .panicking ({ v := .iface 29 (.int .i64 er), recovered := true } :: older) ∧ ∃ n, w' = (after w a b c er).drewN n := by
  refine callsD_of_wpS Try.func32 rfl fun c₀ cs hu => ?_
  apply wpS_seq
  apply wpS_region
  simp [wpOpsS, go_sem, recoverD, hu, Try.ntmps32, Exit.thenS]
  apply wpS_seq
  apply wpS_region
  simp [wpOpsS, go_sem, Act.eval, Array.replicate, Exit.thenS]
  refine wpS_cond (t := true) (by simp [Act.eval]) ?_
  simp only [if_true]
  refine wpS_of_wp ?_
  have hra := run_assert er
  have hba : ¬ b = a := fun e => hab e.symm
  have hca : ¬ c = a := fun e => hac e.symm
  have hcb : ¬ c = b := fun e => hbc e.symm
  have a0 : w.cell? ⟨a, 0, none⟩ = some x0 := cell_of_row _ _ 0 _ _ _ ha
  have a1 : w.cell? ⟨a, 1, none⟩ = some x1 := cell_of_row _ _ 1 _ _ _ ha
  have a2 : w.cell? ⟨a, 2, none⟩ = some x2 := cell_of_row _ _ 2 _ _ _ ha
  have b0 : w.cell? ⟨b, 0, none⟩ = some y := cell_of_row _ _ 0 _ _ _ hb
  have c0 : w.cell? ⟨c, 0, none⟩ = some z := cell_of_row _ _ 0 _ _ _ hc
  have fa := box_fr ha
  have fb := box_fr hb 0
  have fc := box_fr hc 0
  clear ha hb hc
  go_region
  all_goals
    have hfin : ∃ n, (after w a b c er).drew = (after w a b c er).drewN n := ⟨1, rfl⟩
    simp [bodyPostS, results, Try.results32]
    exact hfin
theorem fin_facts {w : World} {a b c : Nat} (v0 v1 v2 u z' : Value) {x0 x1 x2 y z : Value} (ha : w.heap[a]? = some (.cells #[x0, x1, x2] 27)) (hb : w.heap[b]? = some (.cells #[y] 3)) (hc : w.heap[c]? = some (.cells #[z] 29)) (hab : a ≠ b) (hac : a ≠ c) (hbc : b ≠ c) :
    (fin w a b c v0 v1 v2 u z').heap[a]? = some (.cells #[v0, v1, v2] 27) ∧ (fin w a b c v0 v1 v2 u z').heap[b]? = some (.cells #[u] 3) ∧ (fin w a b c v0 v1 v2 u z').heap[c]? = some (.cells #[z'] 29) := by
  unfold fin
  have h1 := box_set (box_set (box_set (cs := [x0, x1, x2]) ha 0 v0) 1 v1) 2 v2
  obtain ⟨W, hW⟩ : ∃ W, ((w.setCell ⟨a, 0, none⟩ v0).setCell ⟨a, 1, none⟩ v1).setCell ⟨a, 2, none⟩ v2 = W := ⟨_, rfl⟩
  have hb1 : W.heap[b]? = some (.cells #[y] 3) := by
    rw [← hW, Below.heap_setCell _ _ _ _ (show b ≠ a from fun e => hab e.symm), Below.heap_setCell _ _ _ _ (show b ≠ a from fun e => hab e.symm), Below.heap_setCell _ _ _ _ (show b ≠ a from fun e => hab e.symm)]; exact hb
  have hc1 : W.heap[c]? = some (.cells #[z] 29) := by
    rw [← hW, Below.heap_setCell _ _ _ _ (show c ≠ a from fun e => hac e.symm), Below.heap_setCell _ _ _ _ (show c ≠ a from fun e => hac e.symm), Below.heap_setCell _ _ _ _ (show c ≠ a from fun e => hac e.symm)]; exact hc
  rw [hW] at h1 ⊢
  refine ⟨?_, ?_, ?_⟩
  · rw [Below.heap_setCell _ _ _ _ (show a ≠ c from hac), Below.heap_setCell _ _ _ _ (show a ≠ b from hab)]; exact h1
  · rw [Below.heap_setCell _ _ _ _ (show b ≠ c from hbc)]
    exact box_set (cs := [y]) hb1 0 u
  · refine box_set (cs := [z]) ?_ 0 z'
    rw [Below.heap_setCell _ _ _ _ (show c ≠ b from fun e => hbc e.symm)]; exact hc1
theorem fin_other {w : World} {a b c : Nat} (v0 v1 v2 u z : Value) {k : Nat} (ha : k ≠ a) (hb : k ≠ b) (hc : k ≠ c) : (fin w a b c v0 v1 v2 u z).heap[k]? = w.heap[k]? := by
  unfold fin
  rw [Below.heap_setCell _ _ _ _ hc, Below.heap_setCell _ _ _ _ hb, Below.heap_setCell _ _ _ _ ha, Below.heap_setCell _ _ _ _ ha, Below.heap_setCell _ _ _ _ ha]
theorem fin_below {B : Nat} {w0 w : World} {a b c : Nat} (v0 v1 v2 u z : Value) (h : Below B w0 w) (ha : B ≤ a) (hb : B ≤ b) (hc : B ≤ c) : Below B w0 (fin w a b c v0 v1 v2 u z) :=
  ((((h.setCell (p := ⟨a, 0, none⟩) ha _).setCell (p := ⟨a, 1, none⟩) ha _).setCell (p := ⟨a, 2, none⟩) ha _).setCell (p := ⟨b, 0, none⟩) hb _).setCell (p := ⟨c, 0, none⟩) hc _
theorem fin_keep {w : World} {a b c : Nat} (v0 v1 v2 u z' : Value) {x y z : Array Value} (ha : w.heap[a]? = some (.cells x 27)) (hb : w.heap[b]? = some (.cells y 3)) (hc : w.heap[c]? = some (.cells z 29)) : Keep 5 w (fin w a b c v0 v1 v2 u z') := fun k cs hk => by
  refine (fin_other v0 v1 v2 u z' ?_ ?_ ?_).trans hk
  · rintro rfl; rw [ha] at hk; cases hk
  · rintro rfl; rw [hb] at hk; cases hk
  · rintro rfl; rw [hc] at hk; cases hk
theorem firE_ok {l : List Sect} {n : Nat} (h : firE l = .ok n) : ∃ s, l[0]? = some s ∧ lenOf s ≤ 4096 ∧ n = size (lenOf s) ∧ n ≤ l.length ∧ dR l = dB (num s) n (lenOf s) (dts (l.take n)) := by
  rcases l with _ | ⟨s, t⟩
  · cases h
  · rw [firE_cons] at h
    unfold firS at h
    split at h
    · cases h
    rename_i h0
    split at h
    · cases h
    rename_i h1
    split at h
    · cases h
    rename_i h2
    injection h with h
    refine ⟨s, rfl, by omega, h.symm, by rw [← h]; omega, ?_⟩
    show dS s (s :: t) = _
    unfold dS
    rw [if_neg h0, if_neg h1, if_neg h2, h]
theorem firE_err {l : List Sect} {er : Int} (h : firE l = .error er) : dR l = .error er := by
  rcases l with _ | ⟨s, t⟩
  · have h' : (Except.error 10 : Except Int Nat) = .error er := h
    injection h' with h'
    rw [← h']; rfl
  · rw [firE_cons] at h
    show dS s (s :: t) = _
    unfold firS at h
    unfold dS
    split at h
    · rename_i h0; rw [if_pos h0]; injection h with h; rw [h]
    rename_i h0
    split at h
    · rename_i h1; rw [if_neg h0, if_pos h1]; injection h with h; rw [h]
    rename_i h1
    split at h
    · rename_i h2; rw [if_neg h0, if_neg h1, if_pos h2]; injection h with h; rw [h]
    · cases h
/-- What Decode answers. -/
def DecQ (w : World) (l : List Sect) (e : Ending) (w' : World) : Prop :=
  Below w.heap.size w w' ∧ ((∃ (r : Rc) (n : Nat) (pv : Value), dR l = .ok (r, n) ∧ e = .returned (.tuple #[.agg #[.int .i64 (r.1 : Nat), .int .i64 (r.2.1 : Nat), pv], .int .i64 (n : Nat), .int .i64 0]) ∧ w'.ownsRow w.heap.size 5 1 pv r.2.2.length (r.2.2.map byteV) ∧ B8 r.2.2) ∨
    ∃ er, dR l = .error er ∧ e = .returned (.tuple #[.agg #[.int .i64 0, .int .i64 0, .slice none 0 0], .int .i64 0, .int .i64 er]))

set_option maxHeartbeats 4000000 in
set_option maxRecDepth 100000 in
theorem decode_any (l : List Sect) (v : Value) (w : World) (hv : Sec w v l) (hl : l.length ≤ 100000) :
    Calls Try.prog 17 #[v] w (DecQ w l) := by
  have hmf : ∀ (fn : Fn) (first cap : Array Value) (w : World), (Instr.makeFunc fn first cap).run Try.prog w = .ok (.func fn first cap) w := fun _ _ _ _ => rfl
  obtain ⟨A, c, rfl⟩ := sec_form hv
  obtain ⟨W3, hW3⟩ : ∃ W3, ((w.alloc (.cells #[.int .i64 0, .int .i64 0, .slice none 0 0] 27)).alloc (.cells #[.int .i64 0] 3)).alloc (.cells #[.int .i64 0] 29) = W3 := ⟨_, rfl⟩
  have hz3 : W3.heap.size = w.heap.size + 3 := by rw [← hW3]; simp
  have hB3 : Below w.heap.size w W3 := by rw [← hW3]; exact (((Below.refl _ w).alloc (Nat.le_refl _) _).alloc (by simp) _).alloc (by simp; omega) _
  have hx0 : W3.heap[w.heap.size]? = some (.cells #[.int .i64 0, .int .i64 0, .slice none 0 0] 27) := by rw [← hW3]; exact (Below.heap_alloc _ _ _ (by simp; omega)).trans ((Below.heap_alloc _ _ _ (by simp)).trans (heap_alloc_new w _))
  have hx1 : W3.heap[w.heap.size + 1]? = some (.cells #[.int .i64 0] 3) := by
    rw [← hW3]
    refine (Below.heap_alloc _ _ _ (by simp)).trans ?_
    have h := heap_alloc_new (w.alloc (.cells #[.int .i64 0, .int .i64 0, .slice none 0 0] 27)) (.cells #[.int .i64 0] 3)
    rw [show (w.alloc (.cells #[.int .i64 0, .int .i64 0, .slice none 0 0] 27)).heap.size = w.heap.size + 1 by simp] at h
    exact h
  have hx2 : W3.heap[w.heap.size + 1 + 1]? = some (.cells #[.int .i64 0] 29) := by
    rw [← hW3]
    have h := heap_alloc_new ((w.alloc (.cells #[.int .i64 0, .int .i64 0, .slice none 0 0] 27)).alloc (.cells #[.int .i64 0] 3)) (.cells #[.int .i64 0] 29)
    rw [show ((w.alloc (.cells #[.int .i64 0, .int .i64 0, .slice none 0 0] 27)).alloc (.cells #[.int .i64 0] 3)).heap.size = w.heap.size + 1 + 1 by simp] at h
    exact h
  have HV := hid hv
  have HX0 := hid hx0
  have HX1 := hid hx1
  have HX2 := hid hx2
  have HB3 := hid hB3
  have HW3 := hid hW3
  have HF := hid (first_any l A c W3 (hv.below hB3) hl)
  clear hv hx0 hx1 hx2 hB3 hW3
  go_enter_defers Try.func17, Try.ntmps17
  go_wp2_with fail
  rw [HW3.out]
  refine HF.out.mono ?_
  rintro e w4 ⟨hb4, ⟨n, hfe, rfl⟩ | ⟨er, hfe, hp⟩⟩
  · have HFE := hid hfe
    have hX4 := (hb4.block w.heap.size (by omega)).trans HX0.out
    have hY4 := (hb4.block (w.heap.size + 1) (by omega)).trans HX1.out
    have hZ4 := (hb4.block (w.heap.size + 1 + 1) (by omega)).trans HX2.out
    have hbw4 : Below w.heap.size w w4 := HB3.out.trans (hb4.mono HB3.out.size)
    obtain ⟨s, hs0, hm4, hns, hnl, hdr⟩ := firE_ok hfe
    have hv4 := sec_upto (HV.out.below hbw4) n
    have htl : (l.take n).length = n := by rw [List.length_take]; omega
    have hn2 : 2 ≤ n := by rw [hns]; exact size_two _
    have HR := hid (read_any (l.take n) s (lenOf s) A c w4 hv4 (by rw [List.getElem?_take, if_pos (by omega)]; exact hs0) rfl hm4 (by rw [htl]; exact hns))
    rw [htl] at HR
    have HDR := hid hdr
    have HBW4 := hid hbw4
    have HX4 := hid hX4
    have HY4 := hid hY4
    have HZ4 := hid hZ4
    have hz4 : w.heap.size + 3 ≤ w4.heap.size := by have := hb4.size; omega
    clear hfe hb4 hX4 hY4 hZ4 hbw4 hv4 hs0 hns hdr HF HX0 HX1 HX2
    go_wp2_with fail
    refine HR.out.mono ?_
    rintro e w5 ⟨hb5, ⟨r, pv, hdb, rfl, hpv, hpn⟩ | ⟨er, hdb, hp⟩⟩
    · have HDB := hid hdb
      have HB5 := hid (HBW4.out.trans (hb5.mono HBW4.out.size))
      have hX5 := (hb5.block w.heap.size (by omega)).trans HX4.out
      have hY5 := (hb5.block (w.heap.size + 1) (by omega)).trans HY4.out
      have hZ5 := (hb5.block (w.heap.size + 1 + 1) (by omega)).trans HZ4.out
      have x0 : w5.cell? ⟨w.heap.size, 0, none⟩ = some (.int .i64 0) := cell_of_row _ _ 0 _ _ _ hX5
      have x1 : w5.cell? ⟨w.heap.size, 1, none⟩ = some (.int .i64 0) := cell_of_row _ _ 1 _ _ _ hX5
      have x2 : w5.cell? ⟨w.heap.size, 2, none⟩ = some (.slice none 0 0) := cell_of_row _ _ 2 _ _ _ hX5
      have y0 : w5.cell? ⟨w.heap.size + 1, 0, none⟩ = some (.int .i64 0) := cell_of_row _ _ 0 _ _ _ hY5
      have z0 : w5.cell? ⟨w.heap.size + 1 + 1, 0, none⟩ = some (.int .i64 0) := cell_of_row _ _ 0 _ _ _ hZ5
      have fx := box_fr hX5
      have fy := box_fr hY5 0
      have fz := box_fr hZ5 0
      have HX5 := hid hX5
      have HY5 := hid hY5
      have HZ5 := hid hZ5
      have HZ4s := hid HBW4.out.size
      obtain ⟨pA, pc, rfl⟩ := own_form hpv
      have HPV := hid hpv
      have HPN := hid hpn
      clear hX5 hY5 hZ5 HX4 HY4 HZ4 hdb hb5 hpv hpn HR
      obtain ⟨h1, h2, h3⟩ := fin_facts (.int .i64 (r.1 : Nat)) (.int .i64 (r.2.1 : Nat)) (.slice pA r.2.2.length pc) (.int .i64 (n : Nat)) (.int .i64 0) HX5.out HY5.out HZ5.out (by omega) (by omega) (by omega)
      have h4 := fin_below (.int .i64 (r.1 : Nat)) (.int .i64 (r.2.1 : Nat)) (.slice pA r.2.2.length pc) (.int .i64 (n : Nat)) (.int .i64 0) HB5.out (Nat.le_refl _) (show w.heap.size ≤ w.heap.size + 1 by omega) (show w.heap.size ≤ w.heap.size + 1 + 1 by omega)
      have hbyt := own_base (own_keep HPV.out (fin_keep (.int .i64 (r.1 : Nat)) (.int .i64 (r.2.1 : Nat)) (.slice pA r.2.2.length pc) (.int .i64 (n : Nat)) (.int .i64 0) HX5.out HY5.out HZ5.out)) HZ4s.out
      have hq0 := cell_of_row _ _ 0 _ _ _ h1
      have hq1 := cell_of_row _ _ 1 _ _ _ h1
      have hq2 := cell_of_row _ _ 2 _ _ _ h1
      have hq3 := cell_of_row _ _ 0 _ _ _ h2
      have hq4 := cell_of_row _ _ 0 _ _ _ h3
      obtain ⟨W6, hW6⟩ : ∃ W6, fin w5 w.heap.size (w.heap.size + 1) (w.heap.size + 1 + 1) (.int .i64 (r.1 : Nat)) (.int .i64 (r.2.1 : Nat)) (.slice pA r.2.2.length pc) (.int .i64 (n : Nat)) (.int .i64 0) = W6 := ⟨_, rfl⟩
      rw [hW6] at h4 hbyt hq0 hq1 hq2 hq3 hq4
      have q0 : W6.cell? ⟨w.heap.size, 0, none⟩ = some (.int .i64 (r.1 : Nat)) := hq0
      have q1 : W6.cell? ⟨w.heap.size, 1, none⟩ = some (.int .i64 (r.2.1 : Nat)) := hq1
      have q2 : W6.cell? ⟨w.heap.size, 2, none⟩ = some (.slice pA r.2.2.length pc) := hq2
      have q3 : W6.cell? ⟨w.heap.size + 1, 0, none⟩ = some (.int .i64 (n : Nat)) := hq3
      have q4 : W6.cell? ⟨w.heap.size + 1 + 1, 0, none⟩ = some (.int .i64 0) := hq4
      have HBYT := hid hbyt
      have HH4 := hid h4
      have HW6 := hid hW6
      clear h1 h2 h3 h4 hbyt hq0 hq1 hq2 hq3 hq4 hW6
      go_wp2_with fail
      have hW : ((((w5.setCell ⟨w.heap.size, 0, none⟩ (.int .i64 (r.1 : Nat))).setCell ⟨w.heap.size, 1, none⟩ (.int .i64 (r.2.1 : Nat))).setCell ⟨w.heap.size, 2, none⟩ (.slice pA r.2.2.length pc)).setCell ⟨w.heap.size + 1, 0, none⟩ (.int .i64 (n : Nat))).setCell ⟨w.heap.size + 1 + 1, 0, none⟩ (.int .i64 0) = W6 := HW6.out
      rw [hW]
      refine leaves_cons (f := 32) (args := #[.pointer (some ⟨w.heap.size, 0, none⟩), .pointer (some ⟨w.heap.size + 1, 0, none⟩), .pointer (some ⟨w.heap.size + 1 + 1, 0, none⟩)]) (by simp) (by simp [go_sem]) ?_
      refine (catch_idle _ _ _ _).mono ?_
      rintro e u' w' ⟨rfl, rfl, rfl⟩
      simp [Leaves, settle, results, Try.results17, go_sem, q0, q1, q2, q3, q4]
      exact ⟨HH4.out, .inl ⟨r, n, _, HDR.out.trans HDB.out, rfl, HBYT.out, HPN.out⟩⟩
    · subst hp
      have HE : Hid (dR l = .error er) := hid (HDR.out.trans hdb)
      have HB5 := hid (HBW4.out.trans (hb5.mono HBW4.out.size))
      have hX5 := (hb5.block w.heap.size (by omega)).trans HX4.out
      have hY5 := (hb5.block (w.heap.size + 1) (by omega)).trans HY4.out
      have hZ5 := (hb5.block (w.heap.size + 1 + 1) (by omega)).trans HZ4.out
      go_wp2_with fail
      refine leaves_cons (f := 32) (args := #[.pointer (some ⟨w.heap.size, 0, none⟩), .pointer (some ⟨w.heap.size + 1, 0, none⟩), .pointer (some ⟨w.heap.size + 1 + 1, 0, none⟩)]) (by simp) (by simp [go_sem]) ?_
      refine (catch_pan w.heap.size (w.heap.size + 1) (w.heap.size + 1 + 1) er w5 [] _ _ _ _ _ hX5 hY5 hZ5 (by omega) (by omega) (by omega)).mono ?_
      rintro e u' w' ⟨rfl, rfl, m, rfl⟩
      obtain ⟨h1, h2, h3⟩ := fin_facts (.int .i64 0) (.int .i64 0) (.slice none 0 0) (.int .i64 0) (.int .i64 er) hX5 hY5 hZ5 (by omega) (by omega) (by omega)
      have h4 := fin_below (.int .i64 0) (.int .i64 0) (.slice none 0 0) (.int .i64 0) (.int .i64 er) HB5.out (Nat.le_refl _) (show w.heap.size ≤ w.heap.size + 1 by omega) (show w.heap.size ≤ w.heap.size + 1 + 1 by omega)
      obtain ⟨W6, hW6⟩ : ∃ W6, (after w5 w.heap.size (w.heap.size + 1) (w.heap.size + 1 + 1) er).drewN m = W6 := ⟨_, rfl⟩
      have h1' : W6.heap[w.heap.size]? = some (.cells #[.int .i64 0, .int .i64 0, .slice none 0 0] 27) := by rw [← hW6]; exact h1
      have h2' : W6.heap[w.heap.size + 1]? = some (.cells #[.int .i64 0] 3) := by rw [← hW6]; exact h2
      have h3' : W6.heap[w.heap.size + 1 + 1]? = some (.cells #[.int .i64 er] 29) := by rw [← hW6]; exact h3
      have h4' : Below w.heap.size w W6 := by rw [← hW6]; exact below_drewN h4 m
      have q0 : W6.cell? ⟨w.heap.size, 0, none⟩ = some (.int .i64 0) := cell_of_row _ _ 0 _ _ _ h1'
      have q1 : W6.cell? ⟨w.heap.size, 1, none⟩ = some (.int .i64 0) := cell_of_row _ _ 1 _ _ _ h1'
      have q2 : W6.cell? ⟨w.heap.size, 2, none⟩ = some (.slice none 0 0) := cell_of_row _ _ 2 _ _ _ h1'
      have q3 : W6.cell? ⟨w.heap.size + 1, 0, none⟩ = some (.int .i64 0) := cell_of_row _ _ 0 _ _ _ h2'
      have q4 : W6.cell? ⟨w.heap.size + 1 + 1, 0, none⟩ = some (.int .i64 er) := cell_of_row _ _ 0 _ _ _ h3'
      rw [hW6]
      simp [Leaves, settle, results, Try.results17, go_sem, q0, q1, q2, q3, q4]
      exact ⟨h4', .inr ⟨er, HE.out, rfl⟩⟩
  · subst hp
    have HE : Hid (dR l = .error er) := hid (firE_err hfe)
    have hX5 := (hb4.block w.heap.size (by omega)).trans HX0.out
    have hY5 := (hb4.block (w.heap.size + 1) (by omega)).trans HX1.out
    have hZ5 := (hb4.block (w.heap.size + 1 + 1) (by omega)).trans HX2.out
    have hbw4 : Below w.heap.size w w4 := HB3.out.trans (hb4.mono HB3.out.size)
    go_wp2_with fail
    refine leaves_cons (f := 32) (args := #[.pointer (some ⟨w.heap.size, 0, none⟩), .pointer (some ⟨w.heap.size + 1, 0, none⟩), .pointer (some ⟨w.heap.size + 1 + 1, 0, none⟩)]) (by simp) (by simp [go_sem]) ?_
    refine (catch_pan w.heap.size (w.heap.size + 1) (w.heap.size + 1 + 1) er w4 [] _ _ _ _ _ hX5 hY5 hZ5 (by omega) (by omega) (by omega)).mono ?_
    rintro e u' w' ⟨rfl, rfl, m, rfl⟩
    obtain ⟨h1, h2, h3⟩ := fin_facts (.int .i64 0) (.int .i64 0) (.slice none 0 0) (.int .i64 0) (.int .i64 er) hX5 hY5 hZ5 (by omega) (by omega) (by omega)
    have h4 := fin_below (.int .i64 0) (.int .i64 0) (.slice none 0 0) (.int .i64 0) (.int .i64 er) hbw4 (Nat.le_refl _) (show w.heap.size ≤ w.heap.size + 1 by omega) (show w.heap.size ≤ w.heap.size + 1 + 1 by omega)
    obtain ⟨W6, hW6⟩ : ∃ W6, (after w4 w.heap.size (w.heap.size + 1) (w.heap.size + 1 + 1) er).drewN m = W6 := ⟨_, rfl⟩
    have h1' : W6.heap[w.heap.size]? = some (.cells #[.int .i64 0, .int .i64 0, .slice none 0 0] 27) := by rw [← hW6]; exact h1
    have h2' : W6.heap[w.heap.size + 1]? = some (.cells #[.int .i64 0] 3) := by rw [← hW6]; exact h2
    have h3' : W6.heap[w.heap.size + 1 + 1]? = some (.cells #[.int .i64 er] 29) := by rw [← hW6]; exact h3
    have h4' : Below w.heap.size w W6 := by rw [← hW6]; exact below_drewN h4 m
    have q0 : W6.cell? ⟨w.heap.size, 0, none⟩ = some (.int .i64 0) := cell_of_row _ _ 0 _ _ _ h1'
    have q1 : W6.cell? ⟨w.heap.size, 1, none⟩ = some (.int .i64 0) := cell_of_row _ _ 1 _ _ _ h1'
    have q2 : W6.cell? ⟨w.heap.size, 2, none⟩ = some (.slice none 0 0) := cell_of_row _ _ 2 _ _ _ h1'
    have q3 : W6.cell? ⟨w.heap.size + 1, 0, none⟩ = some (.int .i64 0) := cell_of_row _ _ 0 _ _ _ h2'
    have q4 : W6.cell? ⟨w.heap.size + 1 + 1, 0, none⟩ = some (.int .i64 er) := cell_of_row _ _ 0 _ _ _ h3'
    rw [hW6]
    simp [Leaves, settle, results, Try.results17, go_sem, q0, q1, q2, q3, q4]
    exact ⟨h4', .inr ⟨er, HE.out, rfl⟩⟩
end Go.Proofs.Ytcmmkeadbedooaa
