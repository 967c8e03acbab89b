/- Sectors of the cache copied and appended; disks of one's own; copied and the reference's Copy. -/
import Derived.Test.YtnocgfhcamnjdaaC
import Derived.Test.YtnocgfhcamnjdaaRe
namespace Go.Proofs.Ytnocgfhcamnjdaa
open Go.RowKit Go.Lib

theorem info77 : (Try.prog.info? 112).map (fun i => (i.zero, i.size, i.bytes)) = some (some (.agg #[.int .i64 0, .int .u8 0, .int .u8 0, .int .u8 0, .int .u8 0, .int .u8 0, .int .u8 0, .int .u8 0, .int .u8 0]), 9, 16) := by kernel_rfl
def CasL (l : List Ca) : Prop := ∀ x ∈ l, x.2.length = 8 ∧ B8 x.2 ∧ R64 x.1
theorem flatC {l : List Ca} (h : CasL l) : (l.map cCa).flatten.length = 9 * l.length := by
  induction l with
  | nil => rfl
  | cons a l ih =>
    rw [List.map_cons, List.flatten_cons, List.length_append, ih (fun s hs => h s (List.mem_cons_of_mem _ hs)), List.length_cons, cCa_len (h a (List.mem_cons_self ..)).1]
    omega
theorem onesC {l : List Ca} (_ : CasL l) : ∀ u ∈ (l.map cCa).flatten, u.oneCell' = true := fun u hu => by
  obtain ⟨x, hx, hu⟩ := List.mem_flatten.1 hu
  obtain ⟨s, _, rfl⟩ := List.mem_map.1 hx
  unfold cCa at hu
  rcases List.mem_cons.1 hu with rfl | hu
  · rfl
  · exact byteV_one s.2 u hu
theorem casRows {l : List Ca} (h : CasL l) : ∀ r ∈ l.map cCa, r.length = 9 := fun r hr => by
  obtain ⟨s, hs, rfl⟩ := List.mem_map.1 hr
  exact cCa_len (h s hs).1
theorem cas_flat {w : World} {A : Option Addr} {n c : Nat} {l : List Ca} (h : Cas w (.slice A n c) l) (hp : 0 < l.length) : ∃ b off, A = some ⟨b, off, none⟩ ∧ b < w.heap.size ∧ ∀ (k : Nat) (u : Value), (l.map cCa).flatten[k]? = some u → w.cell? ⟨b, off + k, none⟩ = some u := by
  obtain ⟨b, off, hA, hb, hc⟩ := arr_at1 h.2.2 (by rw [List.length_map]; exact hp)
  refine ⟨b, off, hA, hb, fun k u hk => ?_⟩
  obtain ⟨i, j, r, h1, h2, rfl⟩ := flat_split (casRows h.1) hk
  rw [← Nat.add_assoc]
  exact hc i r h1 j u h2
theorem cas_none {w : World} {n c : Nat} {l : List Ca} (h : Cas w (.slice none n c) l) : l = [] := by
  rcases Nat.eq_zero_or_pos l.length with h0 | h0
  · exact List.eq_nil_of_length_eq_zero h0
  · obtain ⟨b, off, hA, _⟩ := cas_flat h h0
    cases hA
theorem cas_of_own {w : World} {base : Nat} {v : Value} {l : List Ca} (h : w.ownsRow base 112 9 v l.length (l.map cCa).flatten) (hl : CasL l) : Cas w v l := by
  refine ⟨hl, ownAny_nilOk h, ?_⟩
  have h' : w.ownsRow base 112 9 v (l.map cCa).length (l.map cCa).flatten := by rw [List.length_map]; exact h
  exact arr_of_own h' rfl (casRows hl)
set_option maxRecDepth 100000 in
theorem append_cas {ops : Array Oper} {rest : List Oper} {o : Oper} {a : Act} {w : World} {Q : Exit → Act → World → Prop} (hgd : o.guard = none) (s x : Operand) (ho : o.op = .call { callee := .builtin .append, args := #[s, x], argTypes := #[33, 33] })
    (base : Nat) (v : Value) (n : Nat) (olds : List Value) (hs : a.eval s = v) (hown : w.ownsRow base 112 9 v n olds) (l : List Ca) (u : Value) (hx : a.eval x = u) (hsrc : Cas w u l) (hk : n + l.length ≤ 1000000000) (hbase : base ≤ w.heap.size)
    (h : ∀ v' w', w'.ownsRow base 112 9 v' (n + l.length) (olds ++ (l.map cCa).flatten) → w.grownBy w' v.ownBlock → wpList Try.prog ops Q rest (a.put o.dst v') w') : wpList Try.prog ops Q (o :: rest) a w := by
  obtain ⟨i0, hi, hz0, hz1, hz2⟩ := info_parts info77
  obtain ⟨A, cap, rfl⟩ := cas_form hsrc
  rcases A with _ | ad
  · have hl := cas_none hsrc
    subst hl
    have hc0 : cap = 0 := hsrc.2.1 _ _ rfl
    subst hc0
    refine wpList_append_own_none hgd s x 33 ho base 112 i0 9 Try.underlying33 hi v n olds hs hown hx ?_
    exact h v w (by simpa using hown) (World.grownBy.refl w _)
  · refine wpList_append_own w hgd s x 33 ho base 112 i0 _ 9 16 Try.underlying33 hi hz0 hz1 hz2 rfl (by decide) v n olds hs hown ad l.length cap (l.map cCa).flatten hx (by rw [flatC hsrc.1]; omega) ?_ (onesC hsrc.1) (by unfold maxLen; omega) (by omega) hbase ?_
    · intro j u hu
      have hp : 0 < l.length := by
        rcases Nat.eq_zero_or_pos l.length with h0 | h0
        · rw [List.eq_nil_of_length_eq_zero h0] at hu; simp at hu
        · exact h0
      obtain ⟨b, off, hA, _, hc⟩ := cas_flat hsrc hp
      injection hA with hA
      subst hA
      rw [add_at]
      exact hc j u hu
    · exact fun v' w' h1 h2 _ => h v' w' h1 h2
/-- What a call that makes sectors of a cache answers. -/
def MadeC (w : World) (l : List Ca) (e : Ending) (w' : World) : Prop := ∃ v, e = .returned v ∧ w'.ownsRow w.heap.size 112 9 v l.length (l.map cCa).flatten ∧ Below w.heap.size w w'
theorem own_empty77 (w : World) : (w.alloc (.cells #[] 112)).ownsRow w.heap.size 112 9 (.slice (some ⟨w.heap.size, 0, none⟩) 0 0) 0 [] :=
  ⟨rfl, .inr ⟨w.heap.size, 0, #[], rfl, Nat.le_refl _, heap_alloc_new w _, Nat.le_refl _, by unfold maxLen; omega, rfl, rfl⟩⟩
set_option maxHeartbeats 2000000 in
set_option maxRecDepth 100000 in
theorem cloneC_any (l : List Ca) (v : Value) (w : World) (hv : Cas w v l) (hl : l.length ≤ 1000000) : Calls Try.prog 58 #[v] w (MadeC w l) := by
  obtain ⟨A, ca, rfl⟩ := cas_form hv
  have HV := hid hv
  have HN := hid hv.2.1
  have hq := fun (w : World) (a : Option Addr) (n c : Nat) => Lib.run_eql_slice_nil (P := Try.prog) w 33 112 a n c 0 0 Try.underlying33
  rcases A with _ | ad
  · have hl0 := cas_none hv
    subst hl0
    have hc := hv.2.1 _ _ rfl
    subst hc
    clear hv
    go_enter Try.func58, Try.ntmps58
    go_wp2
    go_ret
    exact ⟨_, rfl, World.ownsRow_nil _ _ _ _, Below.refl _ _⟩
  · clear hv
    go_enter Try.func58, Try.ntmps58
    go_wp2_with (at_builtin; refine append_cas rfl (.tmp 5) (.tmp 6) rfl w.heap.size _ 0 [] rfl (own_empty77 w) l _ rfl (HV.out.below (al1 _ _)) (by omega) (by simp) ?_; intro v1 w1 hown1 hg1; have HB1 := hid (below_own (al1 w _) (own_empty77 w) hg1 (by simp) (Nat.le_refl _)); have HO1 := hid hown1; clear hown1 hg1)
    obtain ⟨av, cv, rfl⟩ := ownAny_form HO1.out
    go_wp2
    go_ret
    exact ⟨_, rfl, by have h := HO1.out; simpa using h, HB1.out⟩
theorem keep_box {W : World} {g : Nat} {T E : TypeId} {cs : Array Value} (h : W.heap[g]? = some (.cells cs E)) (hT : T ≠ E) (i : Nat) (v : Value) : Keep T W (W.setCell ⟨g, i, none⟩ v) := fun k cs' hk => (Below.heap_setCell _ _ _ _ (show k ≠ g from fun e => by
  rw [e, h] at hk
  cases hk
  exact hT rfl)).trans hk
/-- A disk of one's own. -/
def OwnD (w : World) (B : Nat) (st : List Sect) (ca : List Ca) (v : Value) : Prop := ∃ sv cv, v = .agg #[sv, cv] ∧ w.ownsRow B 57 8 sv st.length (st.map cSec).flatten ∧ w.ownsRow B 112 9 cv ca.length (ca.map cCa).flatten
def DiskQ (w : World) (st : List Sect) (ca : List Ca) (e : Ending) (w' : World) : Prop := ∃ v, e = .returned v ∧ OwnD w' w.heap.size st ca v ∧ Below w.heap.size w w'
set_option maxHeartbeats 4000000 in
set_option maxRecDepth 100000 in
theorem copied_any (st : List Sect) (ca : List Ca) (sv cv : Value) (w : World) (hs : Sec w sv st) (hsn : NilOk sv) (hc : Cas w cv ca) (hl : st.length ≤ 1000000) (hl2 : ca.length ≤ 1000000) :
    Calls Try.prog 41 #[.agg #[sv, cv]] w (DiskQ w st ca) := by
  obtain ⟨A, c, rfl⟩ := sec_form hs
  obtain ⟨B, d, rfl⟩ := cas_form hc
  obtain ⟨n, hn⟩ : ∃ n, st.length = n := ⟨_, rfl⟩
  obtain ⟨m, hm⟩ : ∃ n, ca.length = n := ⟨_, rfl⟩
  rw [hn] at hs hsn hl ⊢
  rw [hm] at hc hl2 ⊢
  obtain ⟨g, hg⟩ : ∃ g, w.heap.size = g := ⟨_, rfl⟩
  obtain ⟨W1, hW1⟩ : ∃ X, (w.alloc (.cells #[.slice A n c, .slice B m d] 35)).alloc (.cells #[.slice none 0 0, .slice none 0 0] 35) = X := ⟨_, rfl⟩
  have hb1 : Below w.heap.size w W1 := by rw [← hW1]; exact ((Below.refl _ w).alloc (Nat.le_refl _) _).alloc (by simp) _
  have hx1 : W1.heap[g]? = some (.cells #[.slice A n c, .slice B m d] 35) := by rw [← hW1, ← hg]; exact (Below.heap_alloc _ _ _ (by simp)).trans (heap_alloc_new w _)
  have hy1 : W1.heap[g + 1]? = some (.cells #[.slice none 0 0, .slice none 0 0] 35) := by rw [← hW1, ← hg]; simpa using heap_alloc_new (w.alloc (.cells #[.slice A n c, .slice B m d] 35)) (.cells #[.slice none 0 0, .slice none 0 0] 35)
  have hge : w.heap.size ≤ g := Nat.le_of_eq hg
  have HCS := hid (fun X (hX : Below W1.heap.size W1 X) => clone_any st _ X ((hs.below hb1).below hX) hsn (by omega))
  have HCC := hid (fun X (hX : Below W1.heap.size W1 X) => cloneC_any ca _ X ((hc.below hb1).below hX) (by omega))
  have HK := hid (fun X (hX : Below W1.heap.size W1 X) => (show X.cell? ⟨g, 0, none⟩ = some (.slice A n c) ∧ X.cell? ⟨g, 1, none⟩ = some (.slice B m d) from ⟨cell_of_row _ _ 0 _ _ _ ((hX.block _ (box_lt hx1)).trans hx1), cell_of_row _ _ 1 _ _ _ ((hX.block _ (box_lt hx1)).trans hx1)⟩))
  have HN := hid hn
  have HM := hid hm
  have HB1 := hid hb1
  have HY1 := hid hy1
  have HW1 := hid hW1
  have HG := hid hg
  clear hs hsn hc hn hm hb1 hx1 hy1 hW1 hg hl hl2
  go_enter Try.func41, Try.ntmps41
  go_upto_region 1 with fail
  rw [HW1.out, HG.out]
  refine region_tail 7 (fun X => X.cell? ⟨g, 0, none⟩ = some (.slice A n c) ∧ X.cell? ⟨g, 1, none⟩ = some (.slice B m d)) (by kernel_rfl) ?_
  obtain ⟨X0, hX0⟩ : ∃ X, W1.drew = X := ⟨_, rfl⟩
  have hB0 : Below W1.heap.size W1 X0 := by rw [← hX0]; exact (Below.refl W1.heap.size W1).drew
  have hHeld := HK.out X0 hB0
  rw [hX0]
  clear hX0
  refine' wpAnyT_take (i := 0) (oi := ?oia0) (v := ?va0) ?hia0 (by kernel_rfl) (by kernel_rfl) ?hqa0 ?hya0 hHeld ?resta0
  case hia0 => (simp only [List.getElem?_toArray, List.getElem?_cons_zero]; rfl)
  case hqa0 => exact fun _ _ _ h => h
  case hya0 => (refine Or.inl ⟨by rfl, ?_⟩; intro w' hSw; (try dsimp only at hSw); go_simp; try with_reducible rfl)
  (try simp only [Act.put, List.setIfInBounds_toArray, List.set_cons_zero, List.set_cons_succ])
  refine' wpAnyT_take (i := 1) (oi := ?oia1) (v := ?va1) ?hia1 (by kernel_rfl) (by kernel_rfl) ?hqa1 ?hya1 hHeld ?resta1
  case hia1 => (simp only [List.getElem?_toArray, List.getElem?_cons_zero, List.getElem?_cons_succ]; rfl)
  case hqa1 => exact fun _ _ _ h => h
  case hya1 => (refine Or.inl ⟨by rfl, ?_⟩; intro w' hSw; (try dsimp only at hSw); go_simp; try with_reducible rfl)
  (try simp only [Act.put, List.setIfInBounds_toArray, List.set_cons_zero, List.set_cons_succ])
  refine' wpAnyT_take (i := 3) (oi := ?oia3) (v := ?va3) ?hia3 (by kernel_rfl) (by kernel_rfl) ?hqa3 ?hya3 hHeld ?resta3
  case hia3 => (simp only [List.getElem?_toArray, List.getElem?_cons_zero, List.getElem?_cons_succ]; rfl)
  case hqa3 => exact fun _ _ _ h => h
  case hya3 => (refine Or.inl ⟨by rfl, ?_⟩; intro w' hSw; (try dsimp only at hSw); go_simp; try with_reducible rfl)
  (try simp only [Act.put, List.setIfInBounds_toArray, List.set_cons_zero, List.set_cons_succ])
  refine' wpAnyT_take (i := 4) (oi := ?oia4) (v := ?va4) ?hia4 (by kernel_rfl) (by kernel_rfl) ?hqa4 ?hya4 hHeld ?resta4
  case hia4 => (simp only [List.getElem?_toArray, List.getElem?_cons_zero, List.getElem?_cons_succ]; rfl)
  case hqa4 => exact fun _ _ _ h => h
  case hya4 => (refine Or.inl ⟨by rfl, ?_⟩; intro w' hSw; (try dsimp only at hSw); go_simp; try with_reducible rfl)
  (try simp only [Act.put, List.setIfInBounds_toArray, List.set_cons_zero, List.set_cons_succ])
  refine' wpAnyT_one (i := 2) (o := ?oia2) (by kernel_rfl) ?hia2 (fun K hK => ?sta2)
  case hia2 => (simp only [List.getElem?_toArray, List.getElem?_cons_zero, List.getElem?_cons_succ]; rfl)
  go_simp
  go_at_call 57
  refine (HCS.out X0 hB0).mono ?_
  rintro e X1 ⟨v1, rfl, ho1, hbc⟩
  obtain ⟨A1, c1, rfl⟩ := ownAny_form ho1
  have hB1 : Below W1.heap.size W1 X1 := hB0.trans (hbc.mono hB0.size)
  rw [HN.out] at ho1 ⊢
  have HO1 := hid ho1
  clear hbc hHeld ho1
  have hHeld := HK.out X1 hB1
  refine hK.out _ _ (fun _ => hHeld) ?_
  clear hK K
  (try simp only [Act.put, List.setIfInBounds_toArray, List.set_cons_zero, List.set_cons_succ])
  refine' wpAnyT_one (i := 5) (o := ?oia5) (by kernel_rfl) ?hia5 (fun K hK => ?sta5)
  case hia5 => (simp only [List.getElem?_toArray, List.getElem?_cons_zero, List.getElem?_cons_succ]; rfl)
  go_simp
  go_at_call 58
  refine (HCC.out X1 hB1).mono ?_
  rintro e X2 ⟨v2, rfl, ho2, hbc⟩
  obtain ⟨A2, c2, rfl⟩ := ownAny_form ho2
  have hB2 : Below W1.heap.size W1 X2 := hB1.trans (hbc.mono hB1.size)
  rw [HM.out] at ho2 ⊢
  have HO2 := hid (own_keep HO1.out (keep_below hbc))
  have HP2 := hid ho2
  clear hbc hHeld ho2
  have hHeld := HK.out X2 hB2
  have hy2 := (hB2.block _ (box_lt HY1.out)).trans HY1.out
  have y0 := cell_of_row _ _ 0 _ _ _ hy2
  have y1 := cell_of_row _ _ 1 _ _ _ hy2
  have fy0 := box_fr hy2 0
  have fy1 := box_fr hy2 1
  have HY2 := hid hy2
  clear hy2
  refine hK.out _ _ (fun _ => hHeld) ?_
  clear hK K
  (try simp only [Act.put, List.setIfInBounds_toArray, List.set_cons_zero, List.set_cons_succ])
  refine' wpAnyT_take (i := 6) (oi := ?oia6) (v := ?va6) ?hia6 (by kernel_rfl) (by kernel_rfl) ?hqa6 ?hya6 hHeld ?resta6
  case hia6 => (simp only [List.getElem?_toArray, List.getElem?_cons_zero, List.getElem?_cons_succ]; rfl)
  case hqa6 => exact fun _ _ _ h => h
  case hya6 => (refine Or.inl ⟨by rfl, ?_⟩; intro w' hSw; (try dsimp only at hSw); go_simp; try with_reducible rfl)
  (try simp only [Act.put, List.setIfInBounds_toArray, List.set_cons_zero, List.set_cons_succ])
  refine' wpAnyT_one (i := 7) (o := ?oia7) (by kernel_rfl) ?hia7 (fun K hK => ?sta7)
  case hia7 => (simp only [List.getElem?_toArray, List.getElem?_cons_zero, List.getElem?_cons_succ]; rfl)
  go_simp
  obtain ⟨X3, hX3⟩ : ∃ X, (X2.setCell ⟨g + 1, 0, none⟩ (.slice A1 n c1)).setCell ⟨g + 1, 1, none⟩ (.slice A2 m c2) = X := ⟨_, rfl⟩
  rw [hX3]
  have HY3 : Hid (X3.heap[g + 1]? = some (.cells #[.slice A1 n c1, .slice A2 m c2] 35)) := hid (by
    rw [← hX3]
    exact box_set (cs := [.slice A1 n c1, .slice none 0 0]) (box_set (cs := [.slice none 0 0, .slice none 0 0]) HY2.out 0 _) 1 _)
  have hk3 : ∀ T, T ≠ 35 → Keep T X2 X3 := fun T hT => by
    rw [← hX3]
    exact (keep_box HY2.out hT _ _).trans (keep_box (box_set (cs := [.slice none 0 0, .slice none 0 0]) HY2.out 0 _) hT _ _)
  have HO3 := hid (own_keep HO2.out (hk3 57 (by decide)))
  have HP3 := hid (own_keep HP2.out (hk3 112 (by decide)))
  have HB3 : Hid (Below w.heap.size w X3) := hid (by rw [← hX3]; exact ((HB1.out.trans (hB2.mono HB1.out.size)).setCell (show w.heap.size ≤ g + 1 by omega) _).setCell (show w.heap.size ≤ g + 1 by omega) _)
  clear hX3 hk3 y0 y1 fy0 fy1
  refine hK.out _ _ (fun h => absurd h (by decide)) ?_
  clear hK K
  (try simp only [Act.put, List.setIfInBounds_toArray, List.set_cons_zero, List.set_cons_succ])
  refine wpAnyT_done (by kernel_rfl) ?_ _
  go_wp2_with fail
  refine bodyPost_ret (results_cell_row rfl _ _ (g + 1) 35 #[.slice A1 n c1, .slice A2 m c2] (0, 0) _ rfl HY3.out Try.underlying35 rfl rfl) rfl ?_
  refine ⟨_, rfl, ⟨_, _, rfl, ?_, ?_⟩, HB3.out⟩
  · rw [HN.out]; exact own_base HO3.out (Nat.le_trans HB1.out.size hB0.size)
  · rw [HM.out]; exact own_base HP3.out (Nat.le_trans HB1.out.size hB1.size)
end Go.Proofs.Ytnocgfhcamnjdaa
