/- added; numbers. -/
import Derived.Test.YtjpfogdfgcfkcaaN
namespace Go.Proofs.Ytjpfogdfgcfkcaa
open Go.RowKit Go.Lib

def cI (t : Int) : List Value := [.int .i64 t]
/-- A list of numbers that can be read. -/
def IL (w : World) (v : Value) (l : List Int) : Prop := Arr w v 1 (l.map cI)
theorem IL.below {w w' : World} {v : Value} {l : List Int} (h : IL w v l) (hb : Below w.heap.size w w') : IL w' v l := Arr.below h hb
theorem il_form {w : World} {v : Value} {l : List Int} (h : IL w v l) : ∃ A c, v = .slice A l.length c := by
  obtain ⟨A, c, e⟩ := arr_form h
  rw [List.length_map] at e
  exact ⟨A, c, e⟩
theorem il_cells {w : World} {A : Option Addr} {n c : Nat} {l : List Int} (h : IL w (.slice A n c) l) (hp : 0 < l.length) : ∃ b off, A = some ⟨b, off, none⟩ ∧ b < w.heap.size ∧ ∀ (i : Nat) (x : Int), l[i]? = some x → w.cell? ⟨b, off + i, none⟩ = some (.int .i64 x) := by
  obtain ⟨b, off, h1, h2, h3⟩ := arr_at1 h (by rw [List.length_map]; exact hp)
  refine ⟨b, off, h1, h2, fun i x hx => ?_⟩
  have := h3 i (cI x) (by rw [List.getElem?_map, hx]; rfl) 0 _ rfl
  simpa using this
theorem byt_nil (w : World) : Byt w (.slice none 0 0) [] := ⟨fun x hx => (by cases hx), none, 0, rfl, Nat.le_refl _, by unfold maxLen; omega, 0, 0, fun h => absurd h (by simp), fun i x h => by simp at h⟩

def addsF (l : List Ec) (i : Nat) : List Int → List Ec × Nat × Bool
  | [] => (l, i, true)
  | t :: r => match addS l i t i 0 [] with
    | .error _ => (l, i, false)
    | .ok l' => addsF l' (i + 1) r
theorem addsF_err {l : List Ec} {i : Nat} {t : Int} {r : List Int} {er : Int} (h : addS l i t i 0 [] = .error er) : addsF l i (t :: r) = (l, i, false) := by rw [addsF, h]
theorem addsF_ok {l l' : List Ec} {i : Nat} {t : Int} {r : List Int} (h : addS l i t i 0 [] = .ok l') : addsF l i (t :: r) = addsF l' (i + 1) r := by rw [addsF, h]
theorem addS_mem {l l' : List Ec} {next t k o : Int} {p : List Nat} (h : addS l next t k o p = .ok l') : l' = insE l t (t, next, k, o, p) := by
  unfold addS at h
  split at h
  · cases h
  · split at h
    · cases h
    · split at h
      · cases h
      · injection h with h; exact h.symm
theorem insE_mem {l : List Ec} {t : Int} {e x : Ec} (h : x ∈ insE l t e) : x ∈ l ∨ x = e := by
  unfold insE at h
  rcases List.mem_append.1 h with h | h
  · rcases List.mem_append.1 h with h | h
    · exact .inl (List.mem_of_mem_take h)
    · exact .inr (List.mem_singleton.1 h)
  · exact .inl (List.mem_of_mem_drop h)
theorem addS_ne0 {l : List Ec} {next t k o er : Int} {p : List Nat} (h : addS l next t k o p = .error er) : er ≠ 0 := by
  unfold addS at h
  split at h
  · rename_i h0; injection h with h; rw [← h]; exact h0
  · split at h
    · rename_i h0; injection h with h; rw [← h]; exact h0
    · split at h
      · injection h with h; omega
      · cases h

set_option maxHeartbeats 4000000 in
set_option maxRecDepth 100000 in
theorem added_any (ts : List Int) (v : Value) (w : World) (hv : IL w v ts) (hl : ts.length ≤ 1000) :
    Calls Try.prog 28 #[v] w fun e w' => ∃ q, e = .returned (.tuple #[q, .bool (addsF [] 0 ts).2.2]) ∧ QuQ w (addsF [] 0 ts).1 ((addsF [] 0 ts).2.1 : Nat) q w' := by
  obtain ⟨A, c, rfl⟩ := il_form hv
  obtain ⟨N, hN⟩ : ∃ N, ts.length = N := ⟨_, rfl⟩
  rw [hN] at hv hl ⊢
  obtain ⟨W1, hW1⟩ : ∃ W1, (w.alloc (.cells #[.slice none 0 0, .int .i64 0] 24)).alloc (.cells #[.slice none 0 0, .int .i64 0] 24) = W1 := ⟨_, rfl⟩
  obtain ⟨g, hg⟩ : ∃ g, w.heap.size = g := ⟨_, rfl⟩
  have hb1 : Below w.heap.size w W1 := by rw [← hW1]; exact ((Below.refl _ w).alloc (Nat.le_refl _) _).alloc (by simp) _
  have hx1 : W1.heap[g]? = some (.cells #[.slice none 0 0, .int .i64 0] 24) := by rw [← hW1, ← hg]; exact (Below.heap_alloc _ _ _ (by simp)).trans (heap_alloc_new w _)
  have hy1 : W1.heap[g + 1]? = some (.cells #[.slice none 0 0, .int .i64 0] 24) := by
    rw [← hW1, ← hg]
    have h := heap_alloc_new (w.alloc (.cells #[.slice none 0 0, .int .i64 0] 24)) (.cells #[.slice none 0 0, .int .i64 0] 24)
    simpa using h
  have hz1 : W1.heap.size = g + 2 := by rw [← hW1, ← hg]; simp
  have HV := hid hv
  have HN := hid hN
  have HB1 := hid hb1
  have HX1 := hid hx1
  have HY1 := hid hy1
  have HZ1 := hid hz1
  have HW1 := hid hW1
  have HG := hid hg
  clear hv hN hb1 hx1 hy1 hz1 hW1 hg
  go_enter Try.func28, Try.ntmps28
  go_wp2_with fail
  rw [HW1.out, HG.out]
  go_loopw [5] (fun i wr => ∃ (k m : Nat) (uA : Option Addr) (uc : Nat) (vs : List Ev), k ≤ N ∧ i = .int .i64 (k : Int) ∧ Hid (addsF [] 0 ts = addsF (vs.map core) k (ts.drop k)) ∧ Hid (vs.length = m) ∧ Hid (m ≤ k) ∧ Hid (∀ x ∈ vs, 0 ≤ x.n ∧ x.n < k) ∧ Hid (wr.heap[g]? = some (.cells #[.slice none 0 0, .int .i64 0] 24)) ∧ Hid (wr.heap[g + 1]? = some (.cells #[.slice uA m uc, .int .i64 (k : Int)] 24)) ∧ Hid (wr.ownsRow w.heap.size 32 5 (.slice uA m uc) m (vs.map cEv).flatten) ∧ Hid (∀ x ∈ vs, Pay wr x) ∧ Hid (Below w.heap.size w wr)) (fun i _ => N - (Lib.intOf i).toNat)
  case atStart => exact ⟨0, 0, none, 0, [], Nat.zero_le _, rfl, hid rfl, hid rfl, hid (Nat.le_refl _), hid (fun x hx => by cases hx), HX1, HY1, hid (World.ownsRow_nil _ _ _ _), hid (fun x hx => by cases hx), HB1⟩
  case round =>
    obtain ⟨k, m, uA, uc, vs, hk, rfl, HC, HM, HMK, HNB, HX, HY, HO, HP, HB⟩ := hrel
    have y0 := cell_of_row _ _ 0 _ _ _ HY.out
    have y1 := cell_of_row _ _ 1 _ _ _ HY.out
    by_cases hkn : k < N
    · have hkn' : (k : Int) < (N : Int) := by omega
      obtain ⟨b, off, rfl, hbl, hc⟩ := il_cells (HV.out.below HB.out) (by rw [HN.out]; omega)
      obtain ⟨t, ht⟩ : ∃ t, ts[k]? = some t := ⟨ts[k]'(by rw [HN.out]; exact hkn), List.getElem?_eq_getElem _⟩
      have q0 := hc k t ht
      have HDR := hid (show ts.drop k = t :: ts.drop (k + 1) from by
        obtain ⟨hlt, rfl⟩ := List.getElem?_eq_some_iff.1 ht
        exact List.drop_eq_getElem_cons hlt)
      have hrr : ∀ x ∈ vs, R64 x.n := fun x hx => by have := HNB.out x hx; unfold R64; omega
      have HADD := hid (fun (X : World) (hX : Below wr.heap.size wr X) => add_any vs (.slice uA m uc) (k : Int) t (k : Int) 0 (.slice none 0 0) [] X (el_of_own (own_keep HO.out (keep_below hX)) HM.out (fun x hx => (HP.out x hx).keep (keep_below hX))) hrr (byt_nil X) nilOk_nil)
      obtain ⟨r, hr⟩ : ∃ r, addS (vs.map core) k t k 0 [] = r := ⟨_, rfl⟩
      rw [hr] at HADD
      have HRR := hid hr
      have hgl : g + 1 < wr.heap.size := box_lt HY.out
      clear hc ht hrr hr
      go_wp2_with fail
      go_cut [6, 7, 8] (fun a6 a7 a8 wx => ∃ h : Nat, a6 = .pointer (some ⟨h, 0, none⟩) ∧ Hid (wr.heap.size ≤ h) ∧ Hid (Below wr.heap.size wr wx) ∧
        ((∃ er, Hid (r = .error er) ∧ a7 = .int .i64 0 ∧ a8 = .int .i64 er) ∨
         (∃ (L : List Ec) (dA : Option Addr) (n dc : Nat) (xs : List Ev), Hid (r = .ok L) ∧ a7 = .int .i64 (k : Int) ∧ a8 = .int .i64 0 ∧ Hid (wx.heap[h]? = some (.cells #[.slice dA n dc, .int .i64 ((k : Int) + 1)] 24)) ∧ Hid (wx.ownsRow wr.heap.size 32 5 (.slice dA n dc) n (xs.map cEv).flatten) ∧ Hid (xs.length = n) ∧ Hid (xs.map core = L) ∧ Hid (∀ x ∈ xs, Pay wx x))))
      case first =>
        have HK := hid (fun (X : World) (hX : Below wr.heap.size wr X) => And.intro ((hX.cell (p := ⟨g + 1, 0, none⟩) hgl).trans y0) (And.intro ((hX.cell (p := ⟨g + 1, 1, none⟩) hgl).trans y1) ((hX.cell (p := ⟨b, off + k, none⟩) hbl).trans q0)))
        refine region_tail 14 (fun X => X.cell? ⟨g + 1, 0, none⟩ = some (.slice uA m uc) ∧ X.cell? ⟨g + 1, 1, none⟩ = some (.int .i64 (k : Int)) ∧ X.cell? ⟨b, off + k, none⟩ = some (.int .i64 t)) (by kernel_rfl) ?_
        obtain ⟨X0, hX0⟩ : ∃ X, wr.drew = X := ⟨_, rfl⟩
        have hB0 : Below wr.heap.size wr X0 := by rw [← hX0]; exact (Below.refl wr.heap.size wr).drew
        have hHeld := HK.out X0 hB0
        rw [hX0]
        clear hX0
        refine' wpAnyT_take (i := 0) (oi := ?oir0) (v := ?vr0) ?hir0 (by kernel_rfl) (by kernel_rfl) ?hqr0 ?hyr0 hHeld ?restr0
        case hir0 => (simp only [List.getElem?_toArray, List.getElem?_cons_zero]; rfl)
        case hqr0 => exact fun _ _ _ h => h
        case hyr0 => (refine Or.inl ⟨by rfl, ?_⟩; intro w' hSw; (try dsimp only at hSw); go_simp; try with_reducible rfl)
        (try simp only [Act.put, List.setIfInBounds_toArray, List.set_cons_zero, List.set_cons_succ])
        refine' wpAnyT_take (i := 1) (oi := ?oir1) (v := ?vr1) ?hir1 (by kernel_rfl) (by kernel_rfl) ?hqr1 ?hyr1 hHeld ?restr1
        case hir1 => (simp only [List.getElem?_toArray, List.getElem?_cons_zero, List.getElem?_cons_succ]; rfl)
        case hqr1 => exact fun _ _ _ h => h
        case hyr1 => (refine Or.inl ⟨by rfl, ?_⟩; intro w' hSw; (try dsimp only at hSw); go_simp; try with_reducible rfl)
        (try simp only [Act.put, List.setIfInBounds_toArray, List.set_cons_zero, List.set_cons_succ])
        refine' wpAnyT_take (i := 2) (oi := ?oir2) (v := ?vr2) ?hir2 (by kernel_rfl) (by kernel_rfl) ?hqr2 ?hyr2 hHeld ?restr2
        case hir2 => (simp only [List.getElem?_toArray, List.getElem?_cons_zero, List.getElem?_cons_succ]; rfl)
        case hqr2 => exact fun _ _ _ h => h
        case hyr2 => (refine Or.inl ⟨by rfl, ?_⟩; intro w' hSw; (try dsimp only at hSw); go_simp; try with_reducible rfl)
        (try simp only [Act.put, List.setIfInBounds_toArray, List.set_cons_zero, List.set_cons_succ])
        refine' wpAnyT_take (i := 3) (oi := ?oir3) (v := ?vr3) ?hir3 (by kernel_rfl) (by kernel_rfl) ?hqr3 ?hyr3 hHeld ?restr3
        case hir3 => (simp only [List.getElem?_toArray, List.getElem?_cons_zero, List.getElem?_cons_succ]; rfl)
        case hqr3 => exact fun _ _ _ h => h
        case hyr3 => (refine Or.inl ⟨by rfl, ?_⟩; intro w' hSw; (try dsimp only at hSw); go_simp; try with_reducible rfl)
        (try simp only [Act.put, List.setIfInBounds_toArray, List.set_cons_zero, List.set_cons_succ])
        refine' wpAnyT_take (i := 4) (oi := ?oir4) (v := ?vr4) ?hir4 (by kernel_rfl) (by kernel_rfl) ?hqr4 ?hyr4 hHeld ?restr4
        case hir4 => (simp only [List.getElem?_toArray, List.getElem?_cons_zero, List.getElem?_cons_succ]; rfl)
        case hqr4 => exact fun _ _ _ h => h
        case hyr4 => (refine Or.inl ⟨by rfl, ?_⟩; intro w' hSw; (try dsimp only at hSw); go_simp; try with_reducible rfl)
        (try simp only [Act.put, List.setIfInBounds_toArray, List.set_cons_zero, List.set_cons_succ])
        refine' wpAnyT_take (i := 5) (oi := ?oir5) (v := ?vr5) ?hir5 (by kernel_rfl) (by kernel_rfl) ?hqr5 ?hyr5 hHeld ?restr5
        case hir5 => (simp only [List.getElem?_toArray, List.getElem?_cons_zero, List.getElem?_cons_succ]; rfl)
        case hqr5 => exact fun _ _ _ h => h
        case hyr5 => (refine Or.inl ⟨by rfl, ?_⟩; intro w' hSw; (try dsimp only at hSw); go_simp; try with_reducible rfl)
        (try simp only [Act.put, List.setIfInBounds_toArray, List.set_cons_zero, List.set_cons_succ])
        refine wpAnyT_all (l := [6, 11]) (by kernel_rfl) (by decide) ?_
        intro i hi
        simp only [List.mem_cons, List.not_mem_nil, or_false] at hi
        rcases hi with rfl | rfl
        · refine ⟨_, by (simp only [List.getElem?_toArray, List.getElem?_cons_zero, List.getElem?_cons_succ]; rfl), fun K hK => ?_⟩
          go_simp
          go_at_call 14
          refine (HADD.out X0 hB0).mono ?_
          rintro e wa (⟨er, hre, rfl, hba⟩ | ⟨L, q, hre, rfl, u, xs, rfl, hoa, hca, hpa, hba⟩)
          · have hbw := hB0.trans (hba.mono hB0.size)
            have hHeld2 := HK.out wa hbw
            go_simp
            refine hK.out _ _ (fun _ => hHeld2) ?_
            clear hK K
            (try simp only [Act.put, List.setIfInBounds_toArray, List.set_cons_zero, List.set_cons_succ])
            clear hHeld
            have hHeld := hHeld2
            clear hHeld2
            refine' wpAnyT_take (i := 7) (oi := ?oit7Ae) (v := ?vt7Ae) ?hit7Ae (by kernel_rfl) (by kernel_rfl) ?hqt7Ae ?hyt7Ae hHeld ?restt7Ae
            case hit7Ae => (simp only [List.getElem?_toArray, List.getElem?_cons_zero, List.getElem?_cons_succ]; rfl)
            case hqt7Ae => exact fun _ _ _ h => h
            case hyt7Ae => (refine Or.inl ⟨by rfl, ?_⟩; intro w' hSw; (try dsimp only at hSw); go_simp; try with_reducible rfl)
            (try simp only [Act.put, List.setIfInBounds_toArray, List.set_cons_zero, List.set_cons_succ])
            refine' wpAnyT_take (i := 8) (oi := ?oit8Ae) (v := ?vt8Ae) ?hit8Ae (by kernel_rfl) (by kernel_rfl) ?hqt8Ae ?hyt8Ae hHeld ?restt8Ae
            case hit8Ae => (simp only [List.getElem?_toArray, List.getElem?_cons_zero, List.getElem?_cons_succ]; rfl)
            case hqt8Ae => exact fun _ _ _ h => h
            case hyt8Ae => (refine Or.inl ⟨by rfl, ?_⟩; intro w' hSw; (try dsimp only at hSw); go_simp; try with_reducible rfl)
            (try simp only [Act.put, List.setIfInBounds_toArray, List.set_cons_zero, List.set_cons_succ])
            refine' wpAnyT_take (i := 9) (oi := ?oit9Ae) (v := ?vt9Ae) ?hit9Ae (by kernel_rfl) (by kernel_rfl) ?hqt9Ae ?hyt9Ae hHeld ?restt9Ae
            case hit9Ae => (simp only [List.getElem?_toArray, List.getElem?_cons_zero, List.getElem?_cons_succ]; rfl)
            case hqt9Ae => exact fun _ _ _ h => h
            case hyt9Ae => (refine Or.inl ⟨by rfl, ?_⟩; intro w' hSw; (try dsimp only at hSw); go_simp; try with_reducible rfl)
            (try simp only [Act.put, List.setIfInBounds_toArray, List.set_cons_zero, List.set_cons_succ])
            refine' wpAnyT_take (i := 10) (oi := ?oit10Ae) (v := ?vt10Ae) ?hit10Ae (by kernel_rfl) (by kernel_rfl) ?hqt10Ae ?hyt10Ae hHeld ?restt10Ae
            case hit10Ae => (simp only [List.getElem?_toArray, List.getElem?_cons_zero, List.getElem?_cons_succ]; rfl)
            case hqt10Ae => exact fun _ _ _ h => h
            case hyt10Ae => (refine Or.inl ⟨by rfl, ?_⟩; intro w' hSw; (try dsimp only at hSw); go_simp; try with_reducible rfl)
            (try simp only [Act.put, List.setIfInBounds_toArray, List.set_cons_zero, List.set_cons_succ])
            refine' wpAnyT_one (i := 11) (o := ?oio11Ae) (by kernel_rfl) ?hio11Ae (fun K hK => ?sto11Ae)
            case hio11Ae => (simp only [List.getElem?_toArray, List.getElem?_cons_zero, List.getElem?_cons_succ]; rfl)
            go_simp
            obtain ⟨X2, hX2⟩ : ∃ X, wa.alloc (.cells #[.slice none 0 0, .int .i64 0] 24) = X := ⟨_, rfl⟩
            rw [hX2]
            have hb2 : Below wa.heap.size wa X2 := by rw [← hX2]; exact al1 _ _
            have hbw2 := hbw.trans (hb2.mono hbw.size)
            have hz0 : X2.heap[wa.heap.size]? = some (.cells #[.slice none 0 0, .int .i64 0] 24) := by rw [← hX2]; exact heap_alloc_new _ _
            obtain ⟨h, hh⟩ : ∃ h, wa.heap.size = h := ⟨_, rfl⟩
            have hz := hz0
            rw [hh] at hz
            try rw [hh]
            have hhl : wr.heap.size ≤ h := by rw [← hh]; exact hbw.size
            refine hK.out _ _ (fun _ => HK.out X2 hbw2) ?_
            clear hK K
            (try simp only [Act.put, List.setIfInBounds_toArray, List.set_cons_zero, List.set_cons_succ])
            clear hHeld hz0 hX2 hh
            have y0 := cell_of_row _ _ 0 _ _ _ hz
            have y1 := cell_of_row _ _ 1 _ _ _ hz
            have fy0 := box_fr hz 0
            have fy1 := box_fr hz 1
            have hbs := set2b (g := h) (.slice none 0 0) (.int .i64 0) hbw2 hhl
            refine' wpAnyT_one (i := 12) (o := ?ois12Ae) (by kernel_rfl) ?his12Ae (fun K hK => ?sts12Ae)
            case his12Ae => (simp only [List.getElem?_toArray, List.getElem?_cons_zero, List.getElem?_cons_succ]; rfl)
            go_simp
            refine hK.out _ _ (fun _ => HK.out _ hbs) ?_
            clear hK K
            (try simp only [Act.put, List.setIfInBounds_toArray, List.set_cons_zero, List.set_cons_succ])
            refine' wpAnyT_one (i := 13) (o := ?ois13Ae) (by kernel_rfl) ?his13Ae (fun K hK => ?sts13Ae)
            case his13Ae => (simp only [List.getElem?_toArray, List.getElem?_cons_zero, List.getElem?_cons_succ]; rfl)
            go_simp
            refine hK.out _ _ (fun _ => HK.out _ hbs) ?_
            clear hK K
            (try simp only [Act.put, List.setIfInBounds_toArray, List.set_cons_zero, List.set_cons_succ])
            refine' wpAnyT_one (i := 14) (o := ?ois14Ae) (by kernel_rfl) ?his14Ae (fun K hK => ?sts14Ae)
            case his14Ae => (simp only [List.getElem?_toArray, List.getElem?_cons_zero, List.getElem?_cons_succ]; rfl)
            go_simp
            refine hK.out _ _ (fun h => absurd h (by decide)) ?_
            clear hK K
            (try simp only [Act.put, List.setIfInBounds_toArray, List.set_cons_zero, List.set_cons_succ])
            refine wpAnyT_done (by kernel_rfl) ?_ _
            go_wp2
            go_meet
            exact ⟨h, rfl, hid hhl, hid (set2b _ _ hbw2 hhl), .inl ⟨er, hid hre, rfl, rfl⟩⟩
          · obtain ⟨dA, dc, rfl⟩ := own_form32 hoa
            obtain ⟨n, hnx⟩ : ∃ n, xs.length = n := ⟨_, rfl⟩
            rw [hnx] at hoa ⊢
            have hbw := hB0.trans (hba.mono hB0.size)
            have hHeld2 := HK.out wa hbw
            go_simp
            refine hK.out _ _ (fun _ => hHeld2) ?_
            clear hK K
            (try simp only [Act.put, List.setIfInBounds_toArray, List.set_cons_zero, List.set_cons_succ])
            clear hHeld
            have hHeld := hHeld2
            clear hHeld2
            refine' wpAnyT_take (i := 7) (oi := ?oit7An) (v := ?vt7An) ?hit7An (by kernel_rfl) (by kernel_rfl) ?hqt7An ?hyt7An hHeld ?restt7An
            case hit7An => (simp only [List.getElem?_toArray, List.getElem?_cons_zero, List.getElem?_cons_succ]; rfl)
            case hqt7An => exact fun _ _ _ h => h
            case hyt7An => (refine Or.inl ⟨by rfl, ?_⟩; intro w' hSw; (try dsimp only at hSw); go_simp; try with_reducible rfl)
            (try simp only [Act.put, List.setIfInBounds_toArray, List.set_cons_zero, List.set_cons_succ])
            refine' wpAnyT_take (i := 8) (oi := ?oit8An) (v := ?vt8An) ?hit8An (by kernel_rfl) (by kernel_rfl) ?hqt8An ?hyt8An hHeld ?restt8An
            case hit8An => (simp only [List.getElem?_toArray, List.getElem?_cons_zero, List.getElem?_cons_succ]; rfl)
            case hqt8An => exact fun _ _ _ h => h
            case hyt8An => (refine Or.inl ⟨by rfl, ?_⟩; intro w' hSw; (try dsimp only at hSw); go_simp; try with_reducible rfl)
            (try simp only [Act.put, List.setIfInBounds_toArray, List.set_cons_zero, List.set_cons_succ])
            refine' wpAnyT_take (i := 9) (oi := ?oit9An) (v := ?vt9An) ?hit9An (by kernel_rfl) (by kernel_rfl) ?hqt9An ?hyt9An hHeld ?restt9An
            case hit9An => (simp only [List.getElem?_toArray, List.getElem?_cons_zero, List.getElem?_cons_succ]; rfl)
            case hqt9An => exact fun _ _ _ h => h
            case hyt9An => (refine Or.inl ⟨by rfl, ?_⟩; intro w' hSw; (try dsimp only at hSw); go_simp; try with_reducible rfl)
            (try simp only [Act.put, List.setIfInBounds_toArray, List.set_cons_zero, List.set_cons_succ])
            refine' wpAnyT_take (i := 10) (oi := ?oit10An) (v := ?vt10An) ?hit10An (by kernel_rfl) (by kernel_rfl) ?hqt10An ?hyt10An hHeld ?restt10An
            case hit10An => (simp only [List.getElem?_toArray, List.getElem?_cons_zero, List.getElem?_cons_succ]; rfl)
            case hqt10An => exact fun _ _ _ h => h
            case hyt10An => (refine Or.inl ⟨by rfl, ?_⟩; intro w' hSw; (try dsimp only at hSw); go_simp; try with_reducible rfl)
            (try simp only [Act.put, List.setIfInBounds_toArray, List.set_cons_zero, List.set_cons_succ])
            refine' wpAnyT_one (i := 11) (o := ?oio11An) (by kernel_rfl) ?hio11An (fun K hK => ?sto11An)
            case hio11An => (simp only [List.getElem?_toArray, List.getElem?_cons_zero, List.getElem?_cons_succ]; rfl)
            go_simp
            obtain ⟨X2, hX2⟩ : ∃ X, wa.alloc (.cells #[.slice none 0 0, .int .i64 0] 24) = X := ⟨_, rfl⟩
            rw [hX2]
            have hb2 : Below wa.heap.size wa X2 := by rw [← hX2]; exact al1 _ _
            have hbw2 := hbw.trans (hb2.mono hbw.size)
            have hz0 : X2.heap[wa.heap.size]? = some (.cells #[.slice none 0 0, .int .i64 0] 24) := by rw [← hX2]; exact heap_alloc_new _ _
            obtain ⟨h, hh⟩ : ∃ h, wa.heap.size = h := ⟨_, rfl⟩
            have hz := hz0
            rw [hh] at hz
            try rw [hh]
            have hhl : wr.heap.size ≤ h := by rw [← hh]; exact hbw.size
            have how := own_base (B' := wr.heap.size) (own_keep hoa (keep_below hb2)) hB0.size
            have hpw := fun x hx => (hpa x hx).keep (keep_below hb2)
            refine hK.out _ _ (fun _ => HK.out X2 hbw2) ?_
            clear hK K
            (try simp only [Act.put, List.setIfInBounds_toArray, List.set_cons_zero, List.set_cons_succ])
            clear hHeld hz0 hX2 hh
            have y0 := cell_of_row _ _ 0 _ _ _ hz
            have y1 := cell_of_row _ _ 1 _ _ _ hz
            have fy0 := box_fr hz 0
            have fy1 := box_fr hz 1
            have hbs := set2b (g := h) (.slice dA n dc) (.int .i64 ((k : Int) + 1)) hbw2 hhl
            refine' wpAnyT_one (i := 12) (o := ?ois12An) (by kernel_rfl) ?his12An (fun K hK => ?sts12An)
            case his12An => (simp only [List.getElem?_toArray, List.getElem?_cons_zero, List.getElem?_cons_succ]; rfl)
            go_simp
            refine hK.out _ _ (fun _ => HK.out _ hbs) ?_
            clear hK K
            (try simp only [Act.put, List.setIfInBounds_toArray, List.set_cons_zero, List.set_cons_succ])
            refine' wpAnyT_one (i := 13) (o := ?ois13An) (by kernel_rfl) ?his13An (fun K hK => ?sts13An)
            case his13An => (simp only [List.getElem?_toArray, List.getElem?_cons_zero, List.getElem?_cons_succ]; rfl)
            go_simp
            refine hK.out _ _ (fun _ => HK.out _ hbs) ?_
            clear hK K
            (try simp only [Act.put, List.setIfInBounds_toArray, List.set_cons_zero, List.set_cons_succ])
            refine' wpAnyT_one (i := 14) (o := ?ois14An) (by kernel_rfl) ?his14An (fun K hK => ?sts14An)
            case his14An => (simp only [List.getElem?_toArray, List.getElem?_cons_zero, List.getElem?_cons_succ]; rfl)
            go_simp
            refine hK.out _ _ (fun h => absurd h (by decide)) ?_
            clear hK K
            (try simp only [Act.put, List.setIfInBounds_toArray, List.set_cons_zero, List.set_cons_succ])
            refine wpAnyT_done (by kernel_rfl) ?_ _
            go_wp2
            go_meet
            have hne : ∀ j, (Value.slice dA n dc).ownBlock = some j → j ≠ h := own_ne how hz (by decide)
            exact ⟨h, rfl, hid hhl, hid (set2b _ _ hbw2 hhl), .inr ⟨L, dA, n, dc, xs, hid hre, rfl, rfl, hid (set2h _ _ hz), hid (set2r _ _ how hne), hid hnx, hid hca, hid (fun x hx => (hpw x hx).keep (fun k cs hk => (set2o _ _ (fun e => by rw [e, hz] at hk; cases hk)).trans hk))⟩⟩
        · refine ⟨_, by (simp only [List.getElem?_toArray, List.getElem?_cons_zero, List.getElem?_cons_succ]; rfl), fun K hK => ?_⟩
          go_simp
          obtain ⟨X2, hX2⟩ : ∃ X, X0.alloc (.cells #[.slice none 0 0, .int .i64 0] 24) = X := ⟨_, rfl⟩
          rw [hX2]
          have hb2 : Below X0.heap.size X0 X2 := by rw [← hX2]; exact al1 _ _
          have hbw2 := hB0.trans (hb2.mono hB0.size)
          have hz0 : X2.heap[X0.heap.size]? = some (.cells #[.slice none 0 0, .int .i64 0] 24) := by rw [← hX2]; exact heap_alloc_new _ _
          obtain ⟨h, hh⟩ : ∃ h, X0.heap.size = h := ⟨_, rfl⟩
          have hzz := hz0
          rw [hh] at hzz
          try rw [hh]
          have hhl : wr.heap.size ≤ h := by rw [← hh]; exact hB0.size
          have hHeld2 := HK.out X2 hbw2
          refine hK.out _ _ (fun _ => hHeld2) ?_
          clear hK K
          (try simp only [Act.put, List.setIfInBounds_toArray, List.set_cons_zero, List.set_cons_succ])
          clear hHeld hz0 hX2 hh
          have hHeld := hHeld2
          clear hHeld2
          refine' wpAnyT_one (i := 6) (o := ?oio6B) (by kernel_rfl) ?hio6B (fun K hK => ?sto6B)
          case hio6B => (simp only [List.getElem?_toArray, List.getElem?_cons_zero, List.getElem?_cons_succ]; rfl)
          go_simp
          go_at_call 14
          refine (HADD.out X2 hbw2).mono ?_
          rintro e wa (⟨er, hre, rfl, hba⟩ | ⟨L, q, hre, rfl, u, xs, rfl, hoa, hca, hpa, hba⟩)
          · have hbw := hbw2.trans (hba.mono hbw2.size)
            have hHeld2 := HK.out wa hbw
            have hz := (hba.block _ (box_lt hzz)).trans hzz
            go_simp
            refine hK.out _ _ (fun _ => hHeld2) ?_
            clear hK K
            (try simp only [Act.put, List.setIfInBounds_toArray, List.set_cons_zero, List.set_cons_succ])
            clear hHeld
            have hHeld := hHeld2
            clear hHeld2
            refine' wpAnyT_take (i := 7) (oi := ?oit7Be) (v := ?vt7Be) ?hit7Be (by kernel_rfl) (by kernel_rfl) ?hqt7Be ?hyt7Be hHeld ?restt7Be
            case hit7Be => (simp only [List.getElem?_toArray, List.getElem?_cons_zero, List.getElem?_cons_succ]; rfl)
            case hqt7Be => exact fun _ _ _ h => h
            case hyt7Be => (refine Or.inl ⟨by rfl, ?_⟩; intro w' hSw; (try dsimp only at hSw); go_simp; try with_reducible rfl)
            (try simp only [Act.put, List.setIfInBounds_toArray, List.set_cons_zero, List.set_cons_succ])
            refine' wpAnyT_take (i := 8) (oi := ?oit8Be) (v := ?vt8Be) ?hit8Be (by kernel_rfl) (by kernel_rfl) ?hqt8Be ?hyt8Be hHeld ?restt8Be
            case hit8Be => (simp only [List.getElem?_toArray, List.getElem?_cons_zero, List.getElem?_cons_succ]; rfl)
            case hqt8Be => exact fun _ _ _ h => h
            case hyt8Be => (refine Or.inl ⟨by rfl, ?_⟩; intro w' hSw; (try dsimp only at hSw); go_simp; try with_reducible rfl)
            (try simp only [Act.put, List.setIfInBounds_toArray, List.set_cons_zero, List.set_cons_succ])
            refine' wpAnyT_take (i := 9) (oi := ?oit9Be) (v := ?vt9Be) ?hit9Be (by kernel_rfl) (by kernel_rfl) ?hqt9Be ?hyt9Be hHeld ?restt9Be
            case hit9Be => (simp only [List.getElem?_toArray, List.getElem?_cons_zero, List.getElem?_cons_succ]; rfl)
            case hqt9Be => exact fun _ _ _ h => h
            case hyt9Be => (refine Or.inl ⟨by rfl, ?_⟩; intro w' hSw; (try dsimp only at hSw); go_simp; try with_reducible rfl)
            (try simp only [Act.put, List.setIfInBounds_toArray, List.set_cons_zero, List.set_cons_succ])
            refine' wpAnyT_take (i := 10) (oi := ?oit10Be) (v := ?vt10Be) ?hit10Be (by kernel_rfl) (by kernel_rfl) ?hqt10Be ?hyt10Be hHeld ?restt10Be
            case hit10Be => (simp only [List.getElem?_toArray, List.getElem?_cons_zero, List.getElem?_cons_succ]; rfl)
            case hqt10Be => exact fun _ _ _ h => h
            case hyt10Be => (refine Or.inl ⟨by rfl, ?_⟩; intro w' hSw; (try dsimp only at hSw); go_simp; try with_reducible rfl)
            (try simp only [Act.put, List.setIfInBounds_toArray, List.set_cons_zero, List.set_cons_succ])
            have y0 := cell_of_row _ _ 0 _ _ _ hz
            have y1 := cell_of_row _ _ 1 _ _ _ hz
            have fy0 := box_fr hz 0
            have fy1 := box_fr hz 1
            have hbs := set2b (g := h) (.slice none 0 0) (.int .i64 0) hbw hhl
            refine' wpAnyT_one (i := 12) (o := ?ois12Be) (by kernel_rfl) ?his12Be (fun K hK => ?sts12Be)
            case his12Be => (simp only [List.getElem?_toArray, List.getElem?_cons_zero, List.getElem?_cons_succ]; rfl)
            go_simp
            refine hK.out _ _ (fun _ => HK.out _ hbs) ?_
            clear hK K
            (try simp only [Act.put, List.setIfInBounds_toArray, List.set_cons_zero, List.set_cons_succ])
            refine' wpAnyT_one (i := 13) (o := ?ois13Be) (by kernel_rfl) ?his13Be (fun K hK => ?sts13Be)
            case his13Be => (simp only [List.getElem?_toArray, List.getElem?_cons_zero, List.getElem?_cons_succ]; rfl)
            go_simp
            refine hK.out _ _ (fun _ => HK.out _ hbs) ?_
            clear hK K
            (try simp only [Act.put, List.setIfInBounds_toArray, List.set_cons_zero, List.set_cons_succ])
            refine' wpAnyT_one (i := 14) (o := ?ois14Be) (by kernel_rfl) ?his14Be (fun K hK => ?sts14Be)
            case his14Be => (simp only [List.getElem?_toArray, List.getElem?_cons_zero, List.getElem?_cons_succ]; rfl)
            go_simp
            refine hK.out _ _ (fun h => absurd h (by decide)) ?_
            clear hK K
            (try simp only [Act.put, List.setIfInBounds_toArray, List.set_cons_zero, List.set_cons_succ])
            refine wpAnyT_done (by kernel_rfl) ?_ _
            go_wp2
            go_meet
            exact ⟨h, rfl, hid hhl, hid (set2b _ _ hbw hhl), .inl ⟨er, hid hre, rfl, rfl⟩⟩
          · obtain ⟨dA, dc, rfl⟩ := own_form32 hoa
            obtain ⟨n, hnx⟩ : ∃ n, xs.length = n := ⟨_, rfl⟩
            rw [hnx] at hoa ⊢
            have hbw := hbw2.trans (hba.mono hbw2.size)
            have hHeld2 := HK.out wa hbw
            have hz := (hba.block _ (box_lt hzz)).trans hzz
            go_simp
            refine hK.out _ _ (fun _ => hHeld2) ?_
            clear hK K
            (try simp only [Act.put, List.setIfInBounds_toArray, List.set_cons_zero, List.set_cons_succ])
            clear hHeld
            have hHeld := hHeld2
            clear hHeld2
            refine' wpAnyT_take (i := 7) (oi := ?oit7Bn) (v := ?vt7Bn) ?hit7Bn (by kernel_rfl) (by kernel_rfl) ?hqt7Bn ?hyt7Bn hHeld ?restt7Bn
            case hit7Bn => (simp only [List.getElem?_toArray, List.getElem?_cons_zero, List.getElem?_cons_succ]; rfl)
            case hqt7Bn => exact fun _ _ _ h => h
            case hyt7Bn => (refine Or.inl ⟨by rfl, ?_⟩; intro w' hSw; (try dsimp only at hSw); go_simp; try with_reducible rfl)
            (try simp only [Act.put, List.setIfInBounds_toArray, List.set_cons_zero, List.set_cons_succ])
            refine' wpAnyT_take (i := 8) (oi := ?oit8Bn) (v := ?vt8Bn) ?hit8Bn (by kernel_rfl) (by kernel_rfl) ?hqt8Bn ?hyt8Bn hHeld ?restt8Bn
            case hit8Bn => (simp only [List.getElem?_toArray, List.getElem?_cons_zero, List.getElem?_cons_succ]; rfl)
            case hqt8Bn => exact fun _ _ _ h => h
            case hyt8Bn => (refine Or.inl ⟨by rfl, ?_⟩; intro w' hSw; (try dsimp only at hSw); go_simp; try with_reducible rfl)
            (try simp only [Act.put, List.setIfInBounds_toArray, List.set_cons_zero, List.set_cons_succ])
            refine' wpAnyT_take (i := 9) (oi := ?oit9Bn) (v := ?vt9Bn) ?hit9Bn (by kernel_rfl) (by kernel_rfl) ?hqt9Bn ?hyt9Bn hHeld ?restt9Bn
            case hit9Bn => (simp only [List.getElem?_toArray, List.getElem?_cons_zero, List.getElem?_cons_succ]; rfl)
            case hqt9Bn => exact fun _ _ _ h => h
            case hyt9Bn => (refine Or.inl ⟨by rfl, ?_⟩; intro w' hSw; (try dsimp only at hSw); go_simp; try with_reducible rfl)
            (try simp only [Act.put, List.setIfInBounds_toArray, List.set_cons_zero, List.set_cons_succ])
            refine' wpAnyT_take (i := 10) (oi := ?oit10Bn) (v := ?vt10Bn) ?hit10Bn (by kernel_rfl) (by kernel_rfl) ?hqt10Bn ?hyt10Bn hHeld ?restt10Bn
            case hit10Bn => (simp only [List.getElem?_toArray, List.getElem?_cons_zero, List.getElem?_cons_succ]; rfl)
            case hqt10Bn => exact fun _ _ _ h => h
            case hyt10Bn => (refine Or.inl ⟨by rfl, ?_⟩; intro w' hSw; (try dsimp only at hSw); go_simp; try with_reducible rfl)
            (try simp only [Act.put, List.setIfInBounds_toArray, List.set_cons_zero, List.set_cons_succ])
            have how := own_base (B' := wr.heap.size) hoa hbw2.size
            have hpw := hpa
            have y0 := cell_of_row _ _ 0 _ _ _ hz
            have y1 := cell_of_row _ _ 1 _ _ _ hz
            have fy0 := box_fr hz 0
            have fy1 := box_fr hz 1
            have hbs := set2b (g := h) (.slice dA n dc) (.int .i64 ((k : Int) + 1)) hbw hhl
            refine' wpAnyT_one (i := 12) (o := ?ois12Bn) (by kernel_rfl) ?his12Bn (fun K hK => ?sts12Bn)
            case his12Bn => (simp only [List.getElem?_toArray, List.getElem?_cons_zero, List.getElem?_cons_succ]; rfl)
            go_simp
            refine hK.out _ _ (fun _ => HK.out _ hbs) ?_
            clear hK K
            (try simp only [Act.put, List.setIfInBounds_toArray, List.set_cons_zero, List.set_cons_succ])
            refine' wpAnyT_one (i := 13) (o := ?ois13Bn) (by kernel_rfl) ?his13Bn (fun K hK => ?sts13Bn)
            case his13Bn => (simp only [List.getElem?_toArray, List.getElem?_cons_zero, List.getElem?_cons_succ]; rfl)
            go_simp
            refine hK.out _ _ (fun _ => HK.out _ hbs) ?_
            clear hK K
            (try simp only [Act.put, List.setIfInBounds_toArray, List.set_cons_zero, List.set_cons_succ])
            refine' wpAnyT_one (i := 14) (o := ?ois14Bn) (by kernel_rfl) ?his14Bn (fun K hK => ?sts14Bn)
            case his14Bn => (simp only [List.getElem?_toArray, List.getElem?_cons_zero, List.getElem?_cons_succ]; rfl)
            go_simp
            refine hK.out _ _ (fun h => absurd h (by decide)) ?_
            clear hK K
            (try simp only [Act.put, List.setIfInBounds_toArray, List.set_cons_zero, List.set_cons_succ])
            refine wpAnyT_done (by kernel_rfl) ?_ _
            go_wp2
            go_meet
            have hne : ∀ j, (Value.slice dA n dc).ownBlock = some j → j ≠ h := own_ne how hz (by decide)
            exact ⟨h, rfl, hid hhl, hid (set2b _ _ hbw hhl), .inr ⟨L, dA, n, dc, xs, hid hre, rfl, rfl, hid (set2h _ _ hz), hid (set2r _ _ how hne), hid hnx, hid hca, hid (fun x hx => (hpw x hx).keep (fun k cs hk => (set2o _ _ (fun e => by rw [e, hz] at hk; cases hk)).trans hk))⟩⟩
      case rest =>
        clear q0 y0 y1
        obtain ⟨h, rfl, HH, HBX, hcase⟩ := hcut
        have HX2 := hid ((HBX.out.block _ (box_lt HX.out)).trans HX.out)
        have HY2 := hid ((HBX.out.block _ (box_lt HY.out)).trans HY.out)
        have y0 := cell_of_row _ _ 0 _ _ _ HY2.out
        have y1 := cell_of_row _ _ 1 _ _ _ HY2.out
        have fy0 := box_fr HY2.out 0
        have fy1 := box_fr HY2.out 1
        rcases hcase with ⟨er, HR, rfl, rfl⟩ | ⟨L, dA, n, dc, xs, HR, rfl, rfl, HD, HO2, HXL, HXC, HXP⟩
        · have hne := addS_ne0 (HRR.out.trans HR.out)
          have d1 : (er != 0) = true := by rw [bne_iff_ne]; exact hne
          have HF : Hid (addsF [] 0 ts = (vs.map core, k, false)) := hid (HC.out.trans (by rw [HDR.out]; exact addsF_err (HRR.out.trans HR.out)))
          have x0 := cell_of_row _ _ 0 _ _ _ HX2.out
          have x1 := cell_of_row _ _ 1 _ _ _ HX2.out
          have fx0 := box_fr HX2.out 0
          have fx1 := box_fr HX2.out 1
          clear hne
          go_wp2_with fail
          rw [HF.out]
          refine bodyPost_ret (results_v_tmp rfl _ _ g _ rfl (lv24 (set2h _ _ HX2.out)) _ rfl) rfl ?_
          have how := own_keep HO.out (keep_below HBX.out)
          have hblk : ∀ k, (Value.slice uA m uc).ownBlock = some k → k ≠ g := own_ne how HX2.out (by decide)
          refine ⟨_, rfl, _, vs, rfl, by rw [HM.out]; exact set2r _ _ how hblk, rfl, fun x hx => ((HP.out x hx).keep (keep_below HBX.out)).keep (fun k cs hk => (set2o _ _ (fun e => by rw [e, HX2.out] at hk; cases hk)).trans hk), set2b _ _ (HB.out.trans (HBX.out.mono HB.out.size)) (by rw [HG.out]; exact Nat.le_refl _)⟩
        · have z0 := cell_of_row _ _ 0 _ _ _ HD.out
          have z1 := cell_of_row _ _ 1 _ _ _ HD.out
          have hkk : ((k : Int) != (k : Int)) = false := by simp
          have hnh : g + 1 ≠ h := by have := HH.out; omega
          have hng : g ≠ g + 1 := by omega
          go_wp2_with fail
          go_roundw
          case rel =>
            have hne : ∀ j, (Value.slice dA n dc).ownBlock = some j → j ≠ g + 1 := own_ne HO2.out HY2.out (by decide)
            have hLm := addS_mem (HRR.out.trans HR.out)
            refine ⟨k + 1, n, dA, dc, xs, by omega, by go_num, hid (by rw [HC.out, HDR.out, addsF_ok (HRR.out.trans HR.out), HXC.out]), HXL, hid ?_, hid (fun x hx => ?_), hid ?_, hid ?_, hid (set2r _ _ (own_base HO2.out HB.out.size) hne), hid (fun x hx => (HXP.out x hx).keep (fun k cs hk => (set2o _ _ (fun e => by rw [e, HY2.out] at hk; cases hk)).trans hk)), hid (set2b _ _ (HB.out.trans (HBX.out.mono HB.out.size)) (by rw [HG.out]; omega))⟩
            · have h1 := congrArg List.length HXC.out
              rw [List.length_map, HXL.out, hLm] at h1
              unfold insE at h1
              have := unt_le (vs.map core) t
              rw [List.length_map, HM.out] at this
              simp only [List.length_append, List.length_take, List.length_drop, List.length_map, HM.out, List.length_singleton] at h1
              have := HMK.out
              omega
            · have hxm : core x ∈ L := by rw [← HXC.out]; exact List.mem_map_of_mem hx
              rw [hLm] at hxm
              rcases insE_mem hxm with hm | hm
              · obtain ⟨z, hz, he⟩ := List.mem_map.1 hm
                have hzz := HNB.out z hz
                have : z.n = x.n := congrArg (fun e : Ec => e.2.1) he
                omega
              · have : x.n = (k : Int) := congrArg (fun e : Ec => e.2.1) hm
                omega
            · exact (set2o _ _ hng).trans HX2.out
            · have h := set2h (.slice dA n dc) (.int .i64 ((k : Int) + 1)) HY2.out
              rw [show (((k + 1 : Nat) : Int)) = (k : Int) + 1 by omega]
              exact h
          case measure => simp [Lib.intOf]; omega
    · obtain rfl : k = N := by omega
      have x0 := cell_of_row _ _ 0 _ _ _ HX.out
      have x1 := cell_of_row _ _ 1 _ _ _ HX.out
      have fx0 := box_fr HX.out 0
      have fx1 := box_fr HX.out 1
      have HF : Hid (addsF [] 0 ts = (vs.map core, k, true)) := hid (HC.out.trans (by rw [List.drop_of_length_le (by rw [HN.out]; omega)]; rfl))
      go_wp2_with fail
      rw [HF.out]
      refine bodyPost_ret (results_v_tmp rfl _ _ g _ rfl (lv24 (set2h _ _ HX.out)) _ rfl) rfl ?_
      have hblk : ∀ k, (Value.slice uA m uc).ownBlock = some k → k ≠ g := own_ne HO.out HX.out (by decide)
      exact ⟨_, rfl, _, vs, rfl, by rw [HM.out]; exact set2r _ _ HO.out hblk, rfl, fun x hx => (HP.out x hx).keep (fun k cs hk => (set2o _ _ (fun e => by rw [e, HX.out] at hk; cases hk)).trans hk), set2b _ _ HB.out (by rw [HG.out]; exact Nat.le_refl _)⟩
end Go.Proofs.Ytjpfogdfgcfkcaa
