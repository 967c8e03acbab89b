/- Cancel. -/
import Derived.Test.YtjpfogdfgcfkcaaL
namespace Go.Proofs.Ytjpfogdfgcfkcaa
open Go.RowKit Go.Lib

def cnl (num : Int) : List Ec → List Ec
  | [] => []
  | e :: r => if e.2.1 = num then r else e :: cnl num r
def cancelS (l : List Ec) (next num : Int) : List Ec × Bool := if chk l next ≠ 0 then (l, false) else if seenE l num = true then (cnl num l, true) else (l, false)
theorem cnl_at {num : Int} : ∀ {l : List Ec} {r : Nat} {x : Ec}, l[r]? = some x → x.2.1 = num → (∀ y ∈ l.take r, y.2.1 ≠ num) → cnl num l = l.take r ++ l.drop (r + 1) := by
  intro l
  induction l with
  | nil => intro r x h; simp at h
  | cons e l ih =>
    intro r x h hx hn
    rcases r with _ | r
    · simp at h; subst h
      rw [cnl, if_pos hx]; rfl
    · have he : e.2.1 ≠ num := hn e (by simp)
      rw [cnl, if_neg he, ih (r := r) (x := x) (by simpa using h) hx (fun y hy => hn y (by simp [hy]))]
      rfl
theorem seen_of {num : Int} {l : List Ec} {r : Nat} {x : Ec} (h : l[r]? = some x) (hx : x.2.1 = num) : seenE l num = true := by
  unfold seenE
  rw [List.any_eq_true]
  exact ⟨x, List.mem_of_getElem? h, by simpa using hx⟩
theorem seen_no {num : Int} {l : List Ec} (h : ∀ y ∈ l, y.2.1 ≠ num) : seenE l num = false := by
  unfold seenE
  rw [List.any_eq_false]
  exact fun y hy => by simpa using h y hy

theorem own_ne {w : World} {B E T st n x : Nat} {v : Value} {xs : List Value} {cs : Array Value} (ho : w.ownsRow B E st v n xs) (hx : w.heap[x]? = some (.cells cs T)) (hT : T ≠ E) : ∀ k, v.ownBlock = some k → k ≠ x := by
  intro k hk e
  subst e
  rcases ho.2 with ⟨rfl, _⟩ | ⟨g, cap, cur, rfl, _, hg, _⟩
  · cases hk
  · injection hk with hk
    subst hk
    have h := hx.symm.trans hg
    injection h with h
    injection h with _ h _
    exact hT h
set_option maxHeartbeats 4000000 in
set_option maxRecDepth 100000 in
theorem cancel_any (l : List Ev) (v : Value) (next num : Int) (w : World) (hv : EL w v l) (hr : ∀ x ∈ l, R64 x.n) (hl : l.length ≤ 100000) (hb : ∀ x ∈ l, x.p.length ≤ 100000) :
    Calls Try.prog 22 #[.agg #[v, .int .i64 next], .int .i64 num] w fun e w' => ∃ q, e = .returned (.tuple #[q, .bool (cancelS (l.map core) next num).2]) ∧ QuQ w (cancelS (l.map core) next num).1 next q w' := by
  have hmf : ∀ (fn : Fn) (first cap : Array Value) (w : World), (Instr.makeFunc fn first cap).run Try.prog w = .ok (.func fn first cap) w := fun _ _ _ _ => rfl
  obtain ⟨A, c, rfl⟩ := el_form hv
  obtain ⟨N, hN⟩ : ∃ N, l.length = N := ⟨_, rfl⟩
  rw [hN] at hv hl ⊢
  obtain ⟨W1, hW1⟩ : ∃ W1, ((w.alloc (.cells #[.slice A N c, .int .i64 next] 24)).alloc (.cells #[.int .i64 num] 3)).alloc (.cells #[.slice none 0 0, .int .i64 0] 24) = W1 := ⟨_, rfl⟩
  obtain ⟨g, hg⟩ : ∃ g, w.heap.size = g := ⟨_, rfl⟩
  have hb1 : Below w.heap.size w W1 := by rw [← hW1]; exact (((Below.refl _ w).alloc (Nat.le_refl _) _).alloc (by simp) _).alloc (by simp; omega) _
  have hx1 : W1.heap[g]? = some (.cells #[.slice A N c, .int .i64 next] 24) := by rw [← hW1, ← hg]; exact (Below.heap_alloc _ _ _ (by simp; omega)).trans ((Below.heap_alloc _ _ _ (by simp)).trans (heap_alloc_new w _))
  have hn1 : W1.heap[g + 1]? = some (.cells #[.int .i64 num] 3) := by
    rw [← hW1, ← hg]
    refine (Below.heap_alloc _ _ _ (by simp)).trans ?_
    have h := heap_alloc_new (w.alloc (.cells #[.slice A N c, .int .i64 next] 24)) (.cells #[.int .i64 num] 3)
    simpa using h
  have hy1 : W1.heap[g + 2]? = some (.cells #[.slice none 0 0, .int .i64 0] 24) := by
    rw [← hW1, ← hg]
    have h := heap_alloc_new ((w.alloc (.cells #[.slice A N c, .int .i64 next] 24)).alloc (.cells #[.int .i64 num] 3)) (.cells #[.slice none 0 0, .int .i64 0] 24)
    simpa using h
  have hz1 : W1.heap.size = g + 3 := by rw [← hW1, ← hg]; simp
  have x0 : W1.cell? ⟨g, 0, none⟩ = some (.slice A N c) := cell_of_row _ _ 0 _ _ _ hx1
  have x1 : W1.cell? ⟨g, 1, none⟩ = some (.int .i64 next) := cell_of_row _ _ 1 _ _ _ hx1
  have hpt := part_any l (.slice A N c) next 0 N W1 (hv.below hb1) (by rw [hN]; exact hl) hb (Nat.zero_le _) (by rw [hN]; exact Nat.le_refl _)
  rw [show ((l.drop 0).take (N - 0)).map core = l.map core by rw [List.drop_zero, List.take_of_length_le (by omega)]] at hpt
  have HPT := hid hpt
  have HCK := hid (fun (X : World) (hX : Below w.heap.size w X) => check_any l _ next X (hv.below hX) hr)
  have HIX := hid (fun (X : World) (nb : Nat) (hX : Below w.heap.size w X) => idx_any l (.slice A N c) num nb X (hv.below hX) (by rw [hN]; exact hl))
  obtain ⟨ck, hck⟩ : ∃ ck, chk (l.map core) next = ck := ⟨_, rfl⟩
  rw [hck] at HCK
  have HCE := hid hck
  have HN := hid hN
  have HB1 := hid hb1
  have HX1 := hid hx1
  have HY1 := hid hy1
  have HN1 := hid hn1
  have HZ1 := hid hz1
  have HW1 := hid hW1
  have HG := hid hg
  clear hv hN hr hb hb1 hx1 hy1 hn1 hz1 hW1 hg hpt hck
  go_enter Try.func22, Try.ntmps22
  go_wp2_with fail
  rw [HW1.out, HG.out]
  refine HPT.out.mono ?_
  rintro e w2 ⟨q2, rfl, u2, vs, rfl, ho2, hc2, hp2, hb2⟩
  obtain ⟨uA, uc, rfl⟩ := own_form32 ho2
  have hvn : vs.length = N := by have h := congrArg List.length hc2; rw [List.length_map, List.length_map, HN.out] at h; exact h
  rw [hvn] at ho2 ⊢
  obtain ⟨W3, hW3⟩ : ∃ W3, w2.alloc (.cells #[.slice uA N uc, .int .i64 next] 24) = W3 := ⟨_, rfl⟩
  obtain ⟨h, hh⟩ : ∃ h, w2.heap.size = h := ⟨_, rfl⟩
  have hb3 : Below w2.heap.size w2 W3 := by rw [← hW3]; exact al1 _ _
  have hq3 : W3.heap[h]? = some (.cells #[.slice uA N uc, .int .i64 next] 24) := by rw [← hW3, ← hh]; exact heap_alloc_new _ _
  have hb13 : Below W1.heap.size W1 W3 := hb2.trans (hb3.mono hb2.size)
  have HX3 := hid ((hb13.block _ (box_lt HX1.out)).trans HX1.out)
  have HY3 := hid ((hb13.block _ (box_lt HY1.out)).trans HY1.out)
  have HN3 := hid ((hb13.block _ (box_lt HN1.out)).trans HN1.out)
  have HB3 := hid (HB1.out.trans (hb13.mono HB1.out.size))
  have HQ3 := hid hq3
  have HO3 := hid (own_keep ho2 (keep_below hb3))
  have HP3 := hid (fun x hx => (hp2 x hx).keep (keep_below hb3))
  have HC := hid hc2
  have HVN := hid hvn
  have HHH := hid hh
  have HW3 := hid hW3
  have hgh : g + 3 ≤ h := by rw [← hh, ← HZ1.out]; exact hb2.size
  have hol : ∀ k, (Value.slice uA N uc).ownBlock = some k → k < h := fun k e => by rw [← hh]; exact (ho2.lt k e).2
  have HOL := hid hol
  have x0' : (w2.alloc (.cells #[.slice uA N uc, .int .i64 next] 24)).cell? ⟨g, 0, none⟩ = some (.slice A N c) := by rw [hW3]; exact cell_of_row _ _ 0 _ _ _ HX3.out
  have x1' : (w2.alloc (.cells #[.slice uA N uc, .int .i64 next] 24)).cell? ⟨g, 1, none⟩ = some (.int .i64 next) := by rw [hW3]; exact cell_of_row _ _ 1 _ _ _ HX3.out
  clear hb2 hb3 hq3 hb13 hc2 hp2 ho2 hvn hW3 hh hol HPT x0 x1
  go_wp2_with fail
  rw [HW3.out, HHH.out]
  refine (HCK.out W3 HB3.out).mono ?_
  rintro e w4 ⟨rfl, hb4⟩
  have HX4 := hid ((hb4.block _ (box_lt HX3.out)).trans HX3.out)
  have HY4 := hid ((hb4.block _ (box_lt HY3.out)).trans HY3.out)
  have HN4 := hid ((hb4.block _ (box_lt HN3.out)).trans HN3.out)
  have HQ4 := hid ((hb4.block _ (box_lt HQ3.out)).trans HQ3.out)
  have HB4 := hid (HB3.out.trans (hb4.mono HB3.out.size))
  have HO4 := hid (own_keep HO3.out (keep_below hb4))
  have HP4 := hid (fun x hx => (HP3.out x hx).keep (keep_below hb4))
  clear hb4 x0' x1'
  by_cases hc0 : ck = 0
  · subst hc0
    have x0 := cell_of_row _ _ 0 _ _ _ HX4.out
    go_wp2_with fail
    refine (HIX.out w4 (g + 1) HB4.out (cell_of_row _ _ 0 _ _ _ HN4.out) (box_lt HN4.out)).mono ?_
    rintro e w5 ⟨hcase, hb5⟩
    have HY5 := hid ((hb5.block _ (box_lt HY4.out)).trans HY4.out)
    have HQ5 := hid ((hb5.block _ (box_lt HQ4.out)).trans HQ4.out)
    have HB5 := hid (HB4.out.trans (hb5.mono HB4.out.size))
    have HO5 := hid (own_keep HO4.out (keep_below hb5))
    have HP5 := hid (fun x hx => (HP4.out x hx).keep (keep_below hb5))
    clear hb5 x0
    rcases hcase with ⟨r, x, rfl, hx, hxn, hno⟩ | ⟨rfl, hno⟩
    · have hrN : r < N := by rw [← HN.out]; exact (List.getElem?_eq_some_iff.1 hx).1
      have hxc : (l.map core)[r]? = some (core x) := by rw [List.getElem?_map, hx]; rfl
      have HR : Hid (cancelS (l.map core) next num = ((l.map core).take r ++ (l.map core).drop (r + 1), true)) := hid (by
        unfold cancelS
        rw [HCE.out, if_neg (by simp), if_pos (seen_of hxc hxn), cnl_at hxc hxn (fun y hy => by
          rw [← List.map_take] at hy
          obtain ⟨z, hz, rfl⟩ := List.mem_map.1 hy
          exact hno z hz)])
      have HDL := hid (deleteOwn_any W1.heap.size (.slice uA N uc) N r vs w5 HO5.out HVN.out HP5.out hrN hl)
      have hwr : IntKind.i64.wrap ((r : Int) + 1) = ((r + 1 : Nat) : Int) := by rw [IntKind.wrap_i64]; omega
      obtain ⟨r1, hr1⟩ : ∃ r1, r + 1 = r1 := ⟨_, rfl⟩
      rw [hr1] at HDL hwr
      have HR1 := hid hr1
      have z0 := cell_of_row _ _ 0 _ _ _ HQ5.out
      have dneg : decide ((r : Int) < 0) = false := decide_eq_false (by omega)
      clear hx hxn hno hxc hr1
      go_wp2_with fail
      refine HDL.out.mono ?_
      rintro e w6 ⟨v6, rfl, ho6, hg6⟩
      obtain ⟨dA, dc, rfl⟩ := own_form32 ho6
      have hkp := keep_grown (T := 5) HO5.out (by decide) hg6
      have hkq := keep_grown (T := 24) HO5.out (by decide) hg6
      have HP6 := hid (fun x hx => (HP5.out x hx).keep hkp)
      have HQ6 := hid (hkq h _ HQ5.out)
      have HY6 := hid (hkq (g + 2) _ HY5.out)
      have HB6 := hid (below_ownE HB5.out HO5.out hg6 HB5.out.size HB1.out.size)
      have z0 := cell_of_row _ _ 0 _ _ _ HQ6.out
      have z1 := cell_of_row _ _ 1 _ _ _ HQ6.out
      have fz0 := box_fr HQ6.out 0
      have y0 := cell_of_row _ _ 0 _ _ _ HY6.out
      have y1 := cell_of_row _ _ 1 _ _ _ HY6.out
      have fy0 := box_fr HY6.out 0
      have fy1 := box_fr HY6.out 1
      have HO6 := hid ho6
      clear ho6 hg6 hkp hkq HDL
      go_wp2_with fail
      have ho6' := HO6.out
      rw [← HR1.out] at ho6'
      have HO6 := hid ho6'
      clear ho6'
      have HNE := own_ne HO6.out HQ6.out (by decide)
      have hy7 : (w6.setCell ⟨h, 0, none⟩ (.slice dA (N - 1) dc)).heap[g + 2]? = some (.cells #[.slice none 0 0, .int .i64 0] 24) := (Below.heap_setCell _ _ _ _ (show g + 2 ≠ h by omega)).trans HY6.out
      have how := own_base (B' := w.heap.size) (own_off HO6.out HNE 0 (.slice dA (N - 1) dc)) HB1.out.size
      have hblk : ∀ k, (Value.slice dA (N - 1) dc).ownBlock = some k → k ≠ g + 2 := own_ne HO6.out HY6.out (by decide)
      rw [HR.out]
      refine bodyPost_ret (results_v_tmp rfl _ _ (g + 2) _ rfl (lv24 (set2h _ _ hy7)) _ rfl) rfl ?_
      have hkeep : Keep 5 w6 (set2 (w6.setCell ⟨h, 0, none⟩ (.slice dA (N - 1) dc)) (g + 2) (.slice dA (N - 1) dc) (.int .i64 next)) := fun k cs hk => by
        rw [set2o _ _ (show k ≠ g + 2 from fun e => by rw [e, HY6.out] at hk; cases hk), Below.heap_setCell _ _ _ _ (show k ≠ h from fun e => by rw [e, HQ6.out] at hk; cases hk)]
        exact hk
      have hvl : (vs.take r ++ vs.drop (r + 1)).length = N - 1 := by rw [List.length_append, List.length_take, List.length_drop, HVN.out]; omega
      refine ⟨_, rfl, _, vs.take r ++ vs.drop (r + 1), rfl, by rw [hvl]; exact set2r _ _ how hblk, ?_, fun x hx => (HP6.out x ?_).keep hkeep, set2b _ _ (HB6.out.setCell (p := ⟨h, 0, none⟩) (by have := HG.out; show w.heap.size ≤ h; omega) _) (by rw [HG.out]; omega)⟩
      · rw [List.map_append, List.map_take, List.map_drop, HC.out]
      · rcases List.mem_append.1 hx with hx | hx
        · exact List.mem_of_mem_take hx
        · exact List.mem_of_mem_drop hx
    · have HR : Hid (cancelS (l.map core) next num = (l.map core, false)) := hid (by
        unfold cancelS
        rw [HCE.out, if_neg (by simp), seen_no (num := num) (l := l.map core) (fun y hy => by
          obtain ⟨z, hz, rfl⟩ := List.mem_map.1 hy
          exact hno z hz), if_neg (by simp)])
      have z0 := cell_of_row _ _ 0 _ _ _ HQ5.out
      have z1 := cell_of_row _ _ 1 _ _ _ HQ5.out
      have y0 := cell_of_row _ _ 0 _ _ _ HY5.out
      have y1 := cell_of_row _ _ 1 _ _ _ HY5.out
      have fy0 := box_fr HY5.out 0
      have fy1 := box_fr HY5.out 1
      clear hno
      go_wp2_with fail
      rw [HR.out]
      refine bodyPost_ret (results_v_tmp rfl _ _ (g + 2) _ rfl (lv24 (set2h _ _ HY5.out)) _ rfl) rfl ?_
      have how := own_base (B' := w.heap.size) HO5.out HB1.out.size
      have hblk : ∀ k, (Value.slice uA N uc).ownBlock = some k → k ≠ g + 2 := fun k e => by have h1 := (HO5.out.lt k e).1; have := HZ1.out; omega
      have hkeep : Keep 5 w5 (set2 w5 (g + 2) (.slice uA N uc) (.int .i64 next)) := fun k cs hk => (set2o _ _ (fun e => by rw [e, HY5.out] at hk; cases hk)).trans hk
      exact ⟨_, rfl, _, vs, rfl, by rw [HVN.out]; exact set2r _ _ how hblk, HC.out, fun x hx => (HP5.out x hx).keep hkeep, set2b _ _ HB5.out (by rw [HG.out]; omega)⟩
  · have d1 : (ck != 0) = true := by rw [bne_iff_ne]; exact hc0
    have HR : Hid (cancelS (l.map core) next num = (l.map core, false)) := hid (by unfold cancelS; rw [HCE.out, if_pos hc0])
    have z0 := cell_of_row _ _ 0 _ _ _ HQ4.out
    have z1 := cell_of_row _ _ 1 _ _ _ HQ4.out
    have y0 := cell_of_row _ _ 0 _ _ _ HY4.out
    have y1 := cell_of_row _ _ 1 _ _ _ HY4.out
    have fy0 := box_fr HY4.out 0
    have fy1 := box_fr HY4.out 1
    clear hc0
    go_wp2_with fail
    rw [HR.out]
    refine bodyPost_ret (results_v_tmp rfl _ _ (g + 2) _ rfl (lv24 (set2h _ _ HY4.out)) _ rfl) rfl ?_
    have how := own_base (B' := w.heap.size) HO4.out HB1.out.size
    have hblk : ∀ k, (Value.slice uA N uc).ownBlock = some k → k ≠ g + 2 := fun k e => by have h1 := (HO4.out.lt k e).1; have := HZ1.out; omega
    have hkeep : Keep 5 w4 (set2 w4 (g + 2) (.slice uA N uc) (.int .i64 next)) := fun k cs hk => (set2o _ _ (fun e => by rw [e, HY4.out] at hk; cases hk)).trans hk
    exact ⟨_, rfl, _, vs, rfl, by rw [HVN.out]; exact set2r _ _ how hblk, HC.out, fun x hx => (HP4.out x hx).keep hkeep, set2b _ _ HB4.out (by rw [HG.out]; omega)⟩
end Go.Proofs.Ytjpfogdfgcfkcaa
