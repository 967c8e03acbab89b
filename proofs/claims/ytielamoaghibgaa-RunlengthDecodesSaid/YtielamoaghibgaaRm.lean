/- Decode. -/
import Derived.Test.YtielamoaghibgaaRl
namespace Go.Proofs.Ytielamoaghibgaa
open Go.RowKit Go.Lib

/-- The bound that Decode takes. -/
def capm (most : Int) : Nat := (min (max most 0) 4096).toNat
/-- What Decode answers. -/
def DecQ (w : World) (b : List Nat) (most : Nat) (e : Ending) (w' : World) : Prop :=
  Below w.heap.size w w' ∧ ((∃ l lv, dec most b = .ok l ∧ e = .returned (.tuple #[lv, .int .i64 0]) ∧ Secs l ∧ w'.ownsRow w.heap.size 41 8 lv l.length (l.map cSec).flatten) ∨ ∃ er, dec most b = .error er ∧ e = .returned (.tuple #[.slice none 0 0, .int .i64 er]))

def lenAt (g : Nat) (w : World) : Nat := match w.cell? ⟨g, 0, none⟩ with
  | some (.slice _ n _) => n
  | _ => 0
theorem own_base {w : World} {base base' E st n : Nat} {v : Value} {xs : List Value} (h : w.ownsRow base E st v n xs) (hb : base' ≤ base) : w.ownsRow base' E st v n xs :=
  ⟨h.1, h.2.imp id fun ⟨g, cap, cur, e, hg, r⟩ => ⟨g, cap, cur, e, by omega, r⟩⟩
theorem sec_of_own {w : World} {base : Nat} {v : Value} {l : List Sect} (h : w.ownsRow base 41 8 v l.length (l.map cSec).flatten) (hl : Secs l) : Sec w v l := by
  refine ⟨hl, ?_⟩
  have h' : w.ownsRow base 41 8 v (l.map cSec).length (l.map cSec).flatten := by rw [List.length_map]; exact h
  exact arr_of_own h' rfl (fun r hr => by
    obtain ⟨s, hs, rfl⟩ := List.mem_map.1 hr
    unfold cSec
    rw [List.length_map]
    exact (hl s hs).1)
theorem boxed_set1 {w : World} {g i : Nat} {T : TypeId} {v u : Value} (h : Boxed w (g + 1) T v) : Boxed (w.setCell ⟨g, i, none⟩ u) (g + 1) T v := (Below.heap_setCell _ _ _ _ (by simp)).trans h
theorem b8_flat {g : List Sect} (h : Secs g) : B8 g.flatten := fun x hx => by
  obtain ⟨s, hs, hx⟩ := List.mem_flatten.1 hx
  exact (h s hs).2 x hx
theorem b8_encG {l : List Sect} (h : Secs l) : B8 (encG l) := by
  have ht : Secs (l.take (cnt l)) := fun s hs => h s (List.mem_of_mem_take hs)
  refine (enc_b8 _).append ?_
  unfold body
  split
  · exact b8_flat ht
  split
  · exact b8_flat (fun s hs => ht s (List.mem_of_mem_take hs))
  · intro x hx; cases hx
theorem b8_rl (n : Nat) : ∀ l : List Sect, l.length ≤ n → Secs l → B8 (rl l) := by
  induction n with
  | zero => intro l hl _; rw [List.eq_nil_of_length_eq_zero (Nat.le_zero.1 hl), rl_nil]; intro x hx; cases hx
  | succ n ih =>
    intro l hl h
    by_cases h0 : l = []
    · subst h0; rw [rl_nil]; intro x hx; cases hx
    · have hc := cnt_pos h0
      rw [rl_cons h0]
      exact (b8_encG h).append (ih _ (by rw [List.length_drop]; have := List.length_pos_iff.2 h0; omega) fun s hs => h s (List.mem_of_mem_drop hs))
theorem boxed_below {w w' : World} {B g : Nat} {T : TypeId} {v : Value} (h : Boxed w g T v) (hb : Below B w w') (hg : g < B) : Boxed w' g T v := (hb.block g hg).trans h

set_option maxHeartbeats 4000000 in
set_option maxRecDepth 100000 in
theorem decode_any (b : List Nat) (v : Value) (most : Int) (w : World) (hv : Byt w v b) (hn : NilOk v) (hl : b.length ≤ 90000) :
    Calls Try.prog 15 #[v, .int .i64 most] w (DecQ w b (capm most)) := by
  have hmf : ∀ (fn : Fn) (first cap : Array Value) (w : World), (Instr.makeFunc fn first cap).run Try.prog w = .ok (.func fn first cap) w := fun _ _ _ _ => rfl
  obtain ⟨A, c, rfl⟩ := byt_form hv
  have HV := hid hv
  have HN := hid hn
  clear hv hn
  have hcap : min (max most 0) 4096 = ((capm most : Nat) : Int) := by unfold capm; omega
  have hM4 : capm most ≤ 4096 := by unfold capm; omega
  obtain ⟨W3, hW3⟩ : ∃ W3, ((w.alloc (.cells #[.slice none 0 0] 22)).alloc (.cells #[.int .i64 0] 29)).alloc (.cells #[.slice A b.length c, .int .i64 (capm most : Nat), .slice none 0 0] 64) = W3 := ⟨_, rfl⟩
  have hz3 : W3.heap.size = w.heap.size + 3 := by rw [← hW3]; simp
  have hB3 : Below w.heap.size w W3 := by rw [← hW3]; exact (((Below.refl _ w).alloc (Nat.le_refl _) _).alloc (by simp) _).alloc (by simp; omega) _
  have hx0 : Boxed W3 w.heap.size 22 (.slice none 0 0) := by rw [← hW3]; exact (Below.heap_alloc _ _ _ (by simp; omega)).trans ((Below.heap_alloc _ _ _ (by simp)).trans (heap_alloc_new w _))
  have hx1 : Boxed W3 (w.heap.size + 1) 29 (.int .i64 0) := by
    rw [← hW3]
    refine (Below.heap_alloc _ _ _ (by simp)).trans ?_
    have h := heap_alloc_new (w.alloc (.cells #[.slice none 0 0] 22)) (.cells #[.int .i64 0] 29)
    rw [show (w.alloc (.cells #[.slice none 0 0] 22)).heap.size = w.heap.size + 1 by simp] at h
    exact h
  have hx2 : W3.heap[w.heap.size + 2]? = some (.cells #[.slice A b.length c, .int .i64 (capm most : Nat), .slice none 0 0] 64) := by
    rw [← hW3]
    have h := heap_alloc_new ((w.alloc (.cells #[.slice none 0 0] 22)).alloc (.cells #[.int .i64 0] 29)) (.cells #[.slice A b.length c, .int .i64 (capm most : Nat), .slice none 0 0] 64)
    rw [show ((w.alloc (.cells #[.slice none 0 0] 22)).alloc (.cells #[.int .i64 0] 29)).heap.size = w.heap.size + 2 by simp] at h
    exact h
  obtain ⟨M, hM⟩ : ∃ M, capm most = M := ⟨_, rfl⟩
  rw [hM] at hcap hM4 hW3 hx2 ⊢
  have HR0 : Hid (Rdl w W3 (w.heap.size + 2) (w.heap.size + 2) b (.int .i64 (M : Int)) []) := hid ⟨.slice none 0 0, ⟨_, hx2, HV.out, HN.out⟩, World.ownsRow_nil _ _ _ _⟩
  have HX0 := hid hx0
  have HX1 := hid hx1
  have HB3 := hid hB3
  clear hM hx0 hx1 hx2 hB3
  have HW3 := hid hW3
  have HCAP := hid hcap
  clear hW3 hcap
  go_enter_defers Try.func15, Try.ntmps15
  go_wp2_with fail
  rw [HCAP.out]
  have hW3' : ((w.alloc (.cells #[.slice none 0 0] 22)).alloc (.cells #[.int .i64 0] 29)).alloc (.cells #[.slice A b.length c, .int .i64 (M : Int), .slice none 0 0] 64) = W3 := HW3.out
  rw [hW3']
  clear HW3 hW3' HCAP
  go_loopw [] (fun wr => ∃ (l : List Sect) (t : List Nat), t.length ≤ 90000 ∧ l.length ≤ M ∧ Hid (Rdl w wr (w.heap.size + 2) (w.heap.size + 2) t (.int .i64 (M : Int)) l) ∧ Hid (Secs l) ∧ Hid (dA M [] b = dA M l t) ∧ Hid (Below w.heap.size w wr) ∧ Hid (Boxed wr w.heap.size 22 (.slice none 0 0)) ∧ Hid (Boxed wr (w.heap.size + 1) 29 (.int .i64 0)) ∧ w.heap.size + 3 ≤ wr.heap.size) (fun wr => lenAt (w.heap.size + 2) wr)
  case atStart => exact ⟨[], b, hl, Nat.zero_le _, HR0, hid (fun s h => by cases h), hid rfl, HB3, HX0, HX1, by omega⟩
  case round =>
    clear HR0 HX0 HX1 HB3 hz3
    obtain ⟨l, t, htl, hlm, HR, HS, HD, HB, HX0, HX1, hz⟩ := hrel
    obtain ⟨lv, ⟨v, hg, hvv, hnv⟩, hown⟩ := HR.out
    obtain ⟨A1, c1, rfl⟩ := byt_form hvv
    have c0 : wr.cell? ⟨w.heap.size + 2, 0, none⟩ = some (.slice A1 t.length c1) := cell_of_row _ _ 0 _ _ _ hg
    have HG := hid hg
    have HOW := hid hown
    have HVV := hid hvv
    clear hg hvv hnv hown
    by_cases h0 : t = []
    · subst h0
      obtain ⟨lA, lc, rfl⟩ := own_form41 HOW.out
      have g2 : wr.cell? ⟨w.heap.size + 2, 2, none⟩ = some (.slice lA l.length lc) := cell_of_row _ _ 2 _ _ _ HG.out
      have HE := hid (encode_any l _ wr (sec_of_own HOW.out HS.out) (by omega))
      have H8 := hid (b8_rl _ l (Nat.le_refl _) HS.out)
      have HDC : Hid (dA M [] b = .ok l) := hid (by rw [HD.out]; exact dA_nil _ _)
      go_wp2_with fail
      refine HE.out.mono ?_
      rintro e w4 ⟨v4, rfl, ho4, hb4⟩
      have HB4 := hid (HB.out.trans (hb4.mono (show w.heap.size ≤ wr.heap.size by omega)))
      have HQ := hid (equal_any (rl l) b v4 (.slice A b.length c) w4 (byt_of_own ho4 H8.out) (HV.out.below HB4.out))
      have HX4 := hid (boxed_below HX0.out hb4 (by omega))
      have HY4 := hid (boxed_below HX1.out hb4 (by omega))
      have g24 : w4.cell? ⟨w.heap.size + 2, 2, none⟩ = some (.slice lA l.length lc) := (hb4.cell (p := ⟨w.heap.size + 2, 2, none⟩) (show w.heap.size + 2 < wr.heap.size by omega)).trans g2
      have HO4 := hid (own_keep HOW.out (keep_below hb4))
      have hz4 : w.heap.size + 3 ≤ w4.heap.size := by have := hb4.size; omega
      clear ho4 hb4 HX0 HX1 HOW c0 g2 hz
      go_wp2_with fail
      refine HQ.out.mono ?_
      rintro e w5 ⟨rfl, rfl⟩
      by_cases heq : rl l = b
      · rw [decide_eq_true heq]
        clear HQ
        have f0 := HX4.out.frozen
        have f1 := HY4.out.frozen
        have x0 := HX4.out.cell
        have x1 := HY4.out.cell
        have x2 := (World.cell?_setCell_other w4 ⟨w.heap.size, 0, none⟩ ⟨w.heap.size + 1, 0, none⟩ (.slice lA l.length lc) (by intro e; injection e with e _; omega)).trans x1
        go_wp2_with fail
        have y0 := World.cell?_setCell_same w4 ⟨w.heap.size, 0, none⟩ (.slice lA l.length lc) x0
        have hne : ((⟨w.heap.size + 1, 0, none⟩ : Addr)) ≠ ⟨w.heap.size, 0, none⟩ := by intro e; injection e with e _; omega
        have y1 := (World.cell?_setCell_other (w4.setCell ⟨w.heap.size, 0, none⟩ (.slice lA l.length lc)) ⟨w.heap.size + 1, 0, none⟩ ⟨w.heap.size, 0, none⟩ (.int .i64 0) hne).trans y0
        have y2 := World.cell?_setCell_same (w4.setCell ⟨w.heap.size, 0, none⟩ (.slice lA l.length lc)) ⟨w.heap.size + 1, 0, none⟩ (.int .i64 0) x2
        refine leaves_cons (f := 28) (args := #[.pointer (some ⟨w.heap.size, 0, none⟩), .pointer (some ⟨w.heap.size + 1, 0, none⟩)]) (by simp) (by simp [go_sem]) ?_
        refine (catch_idle _ _ _).mono ?_
        rintro e u' w' ⟨rfl, rfl, rfl⟩
        simp [Leaves, settle, results, Try.results15, go_sem, y0, y2]
        refine ⟨(HB4.out.setCell (Nat.le_refl _) _).setCell (Nat.le_succ _) _, .inl ⟨l, _, ?_, rfl, HS.out, own_base (own_keep (own_keep HO4.out (keep_setc (i := 0) HX4.out (by decide))) (keep_setc (i := 0) (boxed_set1 HY4.out) (by decide))) (by omega)⟩⟩
        unfold dec
        rw [HDC.out]
        exact if_pos heq
      · rw [decide_eq_false heq]
        clear HQ
        have f0 := HX4.out.frozen
        have f1 := HY4.out.frozen
        have x0 := HX4.out.cell
        have x1 := HY4.out.cell
        have x2 := (World.cell?_setCell_other w4 ⟨w.heap.size, 0, none⟩ ⟨w.heap.size + 1, 0, none⟩ (.slice none 0 0) (by intro e; injection e with e _; omega)).trans x1
        go_wp2_with fail
        have y0 := World.cell?_setCell_same w4 ⟨w.heap.size, 0, none⟩ (.slice none 0 0) x0
        have y2 := World.cell?_setCell_same (w4.setCell ⟨w.heap.size, 0, none⟩ (.slice none 0 0)) ⟨w.heap.size + 1, 0, none⟩ (.int .i64 3) x2
        refine leaves_cons (f := 28) (args := #[.pointer (some ⟨w.heap.size, 0, none⟩), .pointer (some ⟨w.heap.size + 1, 0, none⟩)]) (by simp) (by simp [go_sem]) ?_
        refine (catch_idle _ _ _).mono ?_
        rintro e u' w' ⟨rfl, rfl, rfl⟩
        simp [Leaves, settle, results, Try.results15, go_sem, y0, y2]
        refine ⟨(HB4.out.setCell (Nat.le_refl _) _).setCell (Nat.le_succ _) _, .inr ⟨3, ?_, rfl⟩⟩
        unfold dec
        rw [HDC.out]
        exact if_neg heq
    · have htp : (0 : Int) < (t.length : Int) := by have := List.length_pos_iff.2 h0; omega
      have HC := hid (group_any t (w.heap.size + 2) (w.heap.size + 2) M l w wr HB.out HR.out htl hM4 hlm (Nat.le_refl _) (by omega))
      have H0 := hid h0
      clear h0
      go_wp2_with fail
      refine HC.out.mono ?_
      rintro e w4 ⟨hb4, ⟨gl, t4, hd4, ⟨v4, rfl⟩, hsg, hr4⟩ | ⟨er, hd4, hp⟩⟩
      · have HG4 := hid (dGrp_inv hd4)
        have HS4 : Hid (Secs (l ++ gl)) := hid (fun s hs => (List.mem_append.1 hs).elim (HS.out s) (hsg s))
        have HD4 : Hid (dA M [] b = dA M (l ++ gl) t4) := hid (HD.out.trans (dA_ok H0.out hd4))
        have HB4 := hid (HB.out.trans (hb4.mono (show w.heap.size ≤ w.heap.size + 2 by omega)))
        have HX4 := hid (boxed_below HX0.out hb4 (by omega))
        have HY4 := hid (boxed_below HX1.out hb4 (by omega))
        have HR4 := hid hr4
        have hz4 : w.heap.size + 3 ≤ w4.heap.size := by have := hb4.size; omega
        clear hd4 hsg hr4 hb4
        go_wp2_with fail
        obtain ⟨hg1, hg2, hg3⟩ := HG4.out
        refine ⟨⟨l ++ gl, t4, by omega, by rw [List.length_append]; omega, HR4, HS4, HD4, HB4, HX4, HY4, hz4⟩, ?_⟩
        obtain ⟨lv4, ⟨v5, hg5, hv5, _⟩, _⟩ := HR4.out
        obtain ⟨A5, c5, rfl⟩ := byt_form hv5
        have c4 : w4.cell? ⟨w.heap.size + 2, 0, none⟩ = some (.slice A5 t4.length c5) := cell_of_row _ _ 0 _ _ _ hg5
        unfold lenAt
        rw [c4, c0]
        exact hg1
      · subst hp
        go_wp2_with fail
        have HB4 := hid (HB.out.trans (hb4.mono (show w.heap.size ≤ w.heap.size + 2 by omega)))
        have hx4 := boxed_below HX0.out hb4 (by omega)
        have hy4 := boxed_below HX1.out hb4 (by omega)
        have HE4 : Hid (dA M [] b = .error er) := hid (HD.out.trans (dA_err H0.out hd4))
        have x2 := (World.cell?_setCell_other w4 ⟨w.heap.size, 0, none⟩ ⟨w.heap.size + 1, 0, none⟩ (.slice none 0 0) (by intro e; injection e with e _; omega)).trans hy4.cell
        have y0 := World.cell?_setCell_same w4 ⟨w.heap.size, 0, none⟩ (.slice none 0 0) hx4.cell
        have y2 := World.cell?_setCell_same (w4.setCell ⟨w.heap.size, 0, none⟩ (.slice none 0 0)) ⟨w.heap.size + 1, 0, none⟩ (.int .i64 er) x2
        refine leaves_cons (f := 28) (args := #[.pointer (some ⟨w.heap.size, 0, none⟩), .pointer (some ⟨w.heap.size + 1, 0, none⟩)]) (by simp) (by simp [go_sem]) ?_
        refine (catch_pan w.heap.size (w.heap.size + 1) er _ _ [] w4 hx4 hy4 (by omega)).mono ?_
        rintro e u' w' ⟨rfl, rfl, n, rfl⟩
        simp [Leaves, settle, results, Try.results15, go_sem, y0, y2]
        refine ⟨below_drewN ((HB4.out.setCell (Nat.le_refl _) _).setCell (Nat.le_succ _) _) n, .inr ⟨er, ?_, rfl⟩⟩
        unfold dec
        rw [HE4.out]
end Go.Proofs.Ytielamoaghibgaa
