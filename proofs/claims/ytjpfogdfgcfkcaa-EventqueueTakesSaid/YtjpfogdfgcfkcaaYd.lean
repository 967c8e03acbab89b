/- Adds. -/
import Derived.Test.YtjpfogdfgcfkcaaYc
namespace Go.Proofs.Ytjpfogdfgcfkcaa
open Go.RowKit Go.Lib

theorem addQ_err {w w' : World} {er next : Int} {e : Ending} (h : AddQ w (.error er) next e w') : e = .returned (.tuple #[.agg #[.slice none 0 0, .int .i64 0], .int .i64 0, .int .i64 er]) ∧ Below w.heap.size w w' := by
  rcases h with ⟨er', h1, h2, h3⟩ | ⟨l, q, h1, _⟩
  · injection h1 with h1
    subst h1
    exact ⟨h2, h3⟩
  · cases h1
theorem addQ_ok {w w' : World} {L : List Ec} {next : Int} {e : Ending} (h : AddQ w (.ok L) next e w') : ∃ u vs, e = .returned (.tuple #[.agg #[u, .int .i64 (next + 1)], .int .i64 next, .int .i64 0]) ∧ EL w' u vs ∧ vs.map core = L ∧ Below w.heap.size w w' := by
  rcases h with ⟨er', h1, _⟩ | ⟨l, q, h1, h2, u, vs, rfl, h4, h5, h6, h7⟩
  · cases h1
  · injection h1 with h1
    subst h1
    exact ⟨u, vs, h2, el_of_own h4 rfl h6, h5, h7⟩
theorem el_nil (w : World) : EL w (.slice none 0 0) [] := el_of_own (base := 0) (m := 0) (vs := []) (World.ownsRow_nil _ _ _ _) rfl (fun x hx => by cases hx)
/-- What both sides answer, as the law reads it. -/
def BothQ (w : World) (L : List Ec) (m n3 er : Int) (e : Ending) (w' : World) : Prop := ∃ u vs, e = .returned (.tuple #[.agg #[u, .int .i64 m], .int .i64 n3, .int .i64 er]) ∧ EL w' u vs ∧ vs.map core = L ∧ Below w.heap.size w w'
theorem both_of (r : Except Int (List Ec)) (next : Int) : ∃ L m n3 er, (∀ l, r = .ok l → L = l) ∧ (∀ e, r = .error e → L = []) ∧ ∀ w e w', AddQ w r next e w' → BothQ w L m n3 er e w' := by
  rcases r with er | l
  · exact ⟨[], 0, 0, er, fun l h => (by cases h), fun e _ => rfl, fun w e w' h => by
      obtain ⟨h1, h2⟩ := addQ_err h
      exact ⟨_, [], h1, el_nil w', rfl, h2⟩⟩
  · exact ⟨l, next + 1, next, 0, fun l' h => (by injection h), fun e h => (by cases h), fun w e w' h => by
      obtain ⟨u, vs, h1, h2, h3, h4⟩ := addQ_ok h
      exact ⟨u, vs, h1, h2, h3, h4⟩⟩
theorem addS_len {l : List Ec} {next t k o : Int} {p : List Nat} {L : List Ec} (h : addS l next t k o p = .ok L) : L.length ≤ l.length + 1 := by
  unfold addS at h
  split at h
  · cases h
  · split at h
    · cases h
    · split at h
      · cases h
      · injection h with h
        subst h
        unfold insE
        simp only [List.length_append, List.length_take, List.length_drop, List.length_cons, List.length_nil]
        omega

set_option maxHeartbeats 4000000 in
set_option maxRecDepth 100000 in
theorem adds_walk (u : Value) (next : Int) (l : List Ev) (t n k o : Int) (d : Value) (p : List Nat) (w : World) (hv : EL w u l) (hr : ∀ x ∈ l, R64 x.n) (hd : Byt w d p) (hdn : NilOk d) :
    Calls Try.prog 4 #[.agg #[u, .int .i64 next], .agg #[.int .i64 t, .int .i64 n, .int .i64 k, .int .i64 o, d]] w fun e w' => e = .returned (.bool true) ∧ Below w.heap.size w w' := by
  obtain ⟨A, c, rfl⟩ := el_form hv
  obtain ⟨dA, dc, rfl⟩ := byt_form hd
  obtain ⟨N, hN⟩ : ∃ N, l.length = N := ⟨_, rfl⟩
  obtain ⟨M, hM⟩ : ∃ M, p.length = M := ⟨_, rfl⟩
  rw [hN] at hv ⊢
  rw [hM] at hd hdn ⊢
  obtain ⟨W1, hW1⟩ : ∃ W1, (w.alloc (.cells #[.slice A N c, .int .i64 next] 24)).alloc (.cells #[.int .i64 t, .int .i64 n, .int .i64 k, .int .i64 o, .slice dA M dc] 32) = W1 := ⟨_, rfl⟩
  obtain ⟨g, hg⟩ : ∃ g, w.heap.size = g := ⟨_, rfl⟩
  have hb1 : Below w.heap.size w W1 := by rw [← hW1]; exact ((Below.refl _ w).alloc (Nat.le_refl _) _).alloc (by simp) _
  have hx1 : W1.heap[g]? = some (.cells #[.slice A N c, .int .i64 next] 24) := by rw [← hW1, ← hg]; exact (Below.heap_alloc _ _ _ (by simp)).trans (heap_alloc_new w _)
  have hy1 : W1.heap[g + 1]? = some (.cells #[.int .i64 t, .int .i64 n, .int .i64 k, .int .i64 o, .slice dA M dc] 32) := by rw [← hW1, ← hg]; simpa using heap_alloc_new (w.alloc (.cells #[.slice A N c, .int .i64 next] 24)) (.cells #[.int .i64 t, .int .i64 n, .int .i64 k, .int .i64 o, .slice dA M dc] 32)
  have HFW := hid (fun (X : World) (hX : Below W1.heap.size W1 X) => few_dec l _ next X ((hv.below hb1).below hX))
  have HAD := hid (fun (X : World) (hX : Below W1.heap.size W1 X) => add_any l _ next t k o _ p X ((hv.below hb1).below hX) hr ((hd.below hb1).below hX) hdn)
  have HRA := hid (fun (X : World) (hX : Below W1.heap.size W1 X) => refAdd_any l _ next t k o _ p X ((hv.below hb1).below hX) ((hd.below hb1).below hX) hdn)
  have HAW := hid (fun (X : World) => awake_any X)
  have HK := hid (show ∀ X, Below W1.heap.size W1 X → X.cell? ⟨g, 0, none⟩ = some (.slice A N c) ∧ X.cell? ⟨g, 1, none⟩ = some (.int .i64 next) ∧ X.cell? ⟨g + 1, 0, none⟩ = some (.int .i64 t) ∧ X.cell? ⟨g + 1, 2, none⟩ = some (.int .i64 k) ∧ X.cell? ⟨g + 1, 3, none⟩ = some (.int .i64 o) ∧ X.cell? ⟨g + 1, 4, none⟩ = some (.slice dA M dc) from fun X hX => by
    have h0 := (hX.block _ (box_lt hx1)).trans hx1
    have h1 := (hX.block _ (box_lt hy1)).trans hy1
    exact ⟨cell_of_row _ _ 0 _ _ _ h0, cell_of_row _ _ 1 _ _ _ h0, cell_of_row _ _ 0 _ _ _ h1, cell_of_row _ _ 2 _ _ _ h1, cell_of_row _ _ 3 _ _ _ h1, cell_of_row _ _ 4 _ _ _ h1⟩)
  have HLL := hid (show ∀ L, addS (l.map core) next t k o p = .ok L → L.length ≤ N + 1 from fun L h => by have := addS_len h; rw [List.length_map, hN] at this; exact this)
  obtain ⟨x0, x1, z0, z2, z3, z4⟩ := HK.out W1 (Below.refl _ _)
  have HB1 := hid hb1
  have HW1 := hid hW1
  have HG := hid hg
  have HN := hid hN
  have h1 : Below W1.heap.size W1 W1 := Below.refl _ _
  clear hv hd hdn hN hM hb1 hx1 hy1 hW1 hg hr
  go_enter Try.func4, Try.ntmps4
  go_wp2_with fail
  rw [HW1.out, HG.out]
  refine (HFW.out W1 h1).mono ?_
  rintro e w2 ⟨hc, hb2⟩
  have HB2 := hid hb2
  obtain ⟨x0, x1, z0, z2, z3, z4⟩ := HK.out w2 hb2
  clear h1 hb2
  rcases hc with ⟨rfl, hf⟩ | ⟨rfl, hf⟩
  · have hN60 : N ≤ 60 := by have := hf.2; rw [HN.out] at this; exact this
    clear hf
    by_cases hm : 5000 < M
    · have d1 : decide ((5000 : Int) < (M : Int)) = true := decide_eq_true (by omega)
      go_wp2_with fail
      refine (HAW.out w2).mono ?_
      rintro e w3 ⟨rfl, hb3⟩
      have HBF := hid (HB1.out.trans ((HB2.out.trans (hb3.mono HB2.out.size)).mono HB1.out.size))
      clear hb3
      go_wp2_with fail
      go_ret
      exact ⟨rfl, HBF.out⟩
    · have d1 : decide ((5000 : Int) < (M : Int)) = false := decide_eq_false (by omega)
      obtain ⟨L, m, n3, er, hL1, hL2, hL3⟩ := both_of (addS (l.map core) next t k o p) next
      have hLl : L.length ≤ 100000 := by
        rcases hr : addS (l.map core) next t k o p with er | L'
        · rw [hL2 er hr]; simp
        · rw [hL1 L' hr]; have := HLL.out L' hr; omega
      have HL3 := hid hL3
      clear hL1 hL2 hL3 hm
      go_wp2_with fail
      refine (HAD.out w2 HB2.out).mono ?_
      rintro e w3 ha
      obtain ⟨ua, va, rfl, hela, hca, hb3⟩ := HL3.out _ _ _ ha
      obtain ⟨aA, ac, rfl⟩ := el_form hela
      obtain ⟨an, han⟩ : ∃ an, va.length = an := ⟨_, rfl⟩
      rw [han] at hela ⊢
      have hb23 := HB2.out.trans (hb3.mono HB2.out.size)
      obtain ⟨W4, hW4⟩ : ∃ W4, w3.alloc (.cells #[.slice aA an ac, .int .i64 m] 24) = W4 := ⟨_, rfl⟩
      obtain ⟨h, hh⟩ : ∃ h, w3.heap.size = h := ⟨_, rfl⟩
      have hb4 : Below w3.heap.size w3 W4 := by rw [← hW4]; exact al1 _ _
      have hb24 := hb23.trans (hb4.mono hb23.size)
      have HY4 : Hid (W4.heap[h]? = some (.cells #[.slice aA an ac, .int .i64 m] 24)) := hid (by rw [← hW4, ← hh]; exact heap_alloc_new _ _)
      have HEA := hid (hela.below hb4)
      have HB4 := hid hb24
      have HW4 := hid hW4
      have HH := hid hh
      have hK4 := HK.out W4 hb24
      rw [← hW4] at hK4
      obtain ⟨x0', x1', z0', z2', z3', z4'⟩ := hK4
      clear hb3 hb23 hb4 hb24 hW4 hh ha hela x0 x1 z0 z2 z3 z4
      go_wp2_with fail
      rw [HW4.out, HH.out]
      clear x0' x1' z0' z2' z3' z4'
      refine (HRA.out W4 HB4.out).mono ?_
      rintro e w5 hb
      obtain ⟨ub, vb, rfl, helb, hcb, hb5⟩ := HL3.out _ _ _ hb
      obtain ⟨bA, bc, rfl⟩ := el_form helb
      obtain ⟨bn, hbn⟩ : ∃ bn, vb.length = bn := ⟨_, rfl⟩
      rw [hbn] at helb ⊢
      obtain ⟨W6, hW6⟩ : ∃ W6, w5.alloc (.cells #[.slice bA bn bc, .int .i64 m] 24) = W6 := ⟨_, rfl⟩
      obtain ⟨h', hh'⟩ : ∃ h', w5.heap.size = h' := ⟨_, rfl⟩
      have hb6 : Below w5.heap.size w5 W6 := by rw [← hW6]; exact al1 _ _
      have hb56 := hb5.trans (hb6.mono hb5.size)
      have HZ6 : Hid (W6.heap[h']? = some (.cells #[.slice bA bn bc, .int .i64 m] 24)) := hid (by rw [← hW6, ← hh']; exact heap_alloc_new _ _)
      have HY6 := hid ((hb56.block _ (box_lt HY4.out)).trans HY4.out)
      have HEA6 := hid (HEA.out.below hb56)
      have HEB6 := hid (helb.below hb6)
      have HB6 := hid (HB4.out.trans (hb56.mono HB4.out.size))
      have HAB := hid (hca.trans hcb.symm)
      have hal : va.length ≤ 100000 := by have := congrArg List.length hca; rw [List.length_map] at this; omega
      have HW6 := hid hW6
      have HH' := hid hh'
      clear hb5 hb6 hb56 hW6 hh' hb helb hca hcb HEA HY4
      go_wp2_with fail
      rw [HW6.out, HH'.out]
      refine (HAW.out W6).mono ?_
      rintro e w7 ⟨rfl, hb7⟩
      have HB7 := hid (HB6.out.trans (hb7.mono HB6.out.size))
      have HY7 := hid ((hb7.block _ (box_lt HY6.out)).trans HY6.out)
      have HZ7 := hid ((hb7.block _ (box_lt HZ6.out)).trans HZ6.out)
      have HSM := hid (sameQ_any va vb (.slice aA an ac) (.slice bA bn bc) m w7 (HEA6.out.below hb7) (HEB6.out.below hb7) hal HAB.out)
      have y0 := cell_of_row _ _ 0 _ _ _ HY7.out
      have y1 := cell_of_row _ _ 1 _ _ _ HY7.out
      have q0 := cell_of_row _ _ 0 _ _ _ HZ7.out
      have q1 := cell_of_row _ _ 1 _ _ _ HZ7.out
      have e1 : (n3 == n3) = true := beq_self_eq_true _
      have e2 : (er == er) = true := beq_self_eq_true _
      clear hb7
      go_wp2_with fail
      refine HSM.out.mono ?_
      rintro e w8 ⟨rfl, hb8⟩
      have HBF := hid (HB1.out.trans ((HB7.out.trans (hb8.mono HB7.out.size)).mono HB1.out.size))
      clear hb8
      go_wp2_with fail
      go_ret
      exact ⟨rfl, HBF.out⟩
  · clear hf
    go_wp2_with fail
    refine (HAW.out w2).mono ?_
    rintro e w3 ⟨rfl, hb3⟩
    have HBF := hid (HB1.out.trans ((HB2.out.trans (hb3.mono HB2.out.size)).mono HB1.out.size))
    clear hb3
    go_wp2_with fail
    go_ret
    exact ⟨rfl, HBF.out⟩
variable {H : Type} {enc : TypeId × Value → H} {W : World}
theorem readEv : Try.prog.readableRec 32 = true := by kernel_rfl
theorem rowEv : 32 < Try.prog.types.size := of_decide_eq_true (by kernel_rfl)
set_option maxRecDepth 100000 in
theorem ev_of_trod {base : Nat} {v : Value} {d : DataW H} {p : List MemPlace} (hv : Value.okWide Try.prog W .any base 32 v) (h : DataW.Trod enc Try.prog W 0 (fun _ => true) true 32 v d p) : ∃ (t n k o : Int) (b : Value) (q : List Nat), v = .agg #[.int .i64 t, .int .i64 n, .int .i64 k, .int .i64 o, b] ∧ Byt W b q ∧ NilOk b := by
  have h32 : ∃ cs, v = .agg cs := by
    simp only [Value.okWide, Try.underlying32] at hv
    obtain ⟨cs, h1, _⟩ := hv
    exact ⟨cs, h1⟩
  obtain ⟨cs0, rfl⟩ := h32
  obtain ⟨fuel, hf⟩ := h
  obtain ⟨a, ha, hok⟩ := ev_of_fuel hf
  refine ⟨a.t, a.n, a.k, a.o, a.d, a.p, ?_, hok.1, hok.2.1⟩
  have : cs0.toList = cEv a := by simpa [Value.cells] using ha
  have h2 : cs0 = (cEv a).toArray := by rw [← this]
  rw [h2]; rfl
end Go.Proofs.Ytjpfogdfgcfkcaa
