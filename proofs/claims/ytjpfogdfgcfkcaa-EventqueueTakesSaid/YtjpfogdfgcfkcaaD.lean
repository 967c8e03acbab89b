/- A part of a queue; Check. -/
import Derived.Test.YtjpfogdfgcfkcaaC
import Derived.Test.YtjpfogdfgcfkcaaRe
import Derived.Maps.OwnSet
namespace Go.Proofs.Ytjpfogdfgcfkcaa
open Go.RowKit Go.Lib

/-- A queue that a call makes. -/
def QuQ (w : World) (l : List Ec) (next : Int) (v : Value) (w' : World) : Prop :=
  ∃ (u : Value) (vs : List Ev), v = .agg #[u, .int .i64 next] ∧ w'.ownsRow w.heap.size 32 5 u vs.length (vs.map cEv).flatten ∧ vs.map core = l ∧ (∀ x ∈ vs, Pay w' x) ∧ Below w.heap.size w w'
set_option maxHeartbeats 4000000 in
set_option maxRecDepth 100000 in
theorem part_any (l : List Ev) (v : Value) (next : Int) (lo hi : Nat) (w : World) (hv : EL w v l) (hl : l.length ≤ 100000) (hb : ∀ x ∈ l, x.p.length ≤ 100000) (h1 : lo ≤ hi) (h2 : hi ≤ l.length) :
    Calls Try.prog 37 #[.agg #[v, .int .i64 next], .int .i64 (lo : Int), .int .i64 (hi : Int)] w fun e w' => ∃ q, e = .returned q ∧ QuQ w (((l.drop lo).take (hi - lo)).map core) next q w' := by
  obtain ⟨A, c, rfl⟩ := el_form hv
  have hcap := el_cap hv
  obtain ⟨N, hN⟩ : ∃ N, l.length = N := ⟨_, rfl⟩
  obtain ⟨W1, hW1⟩ : ∃ W1, (w.alloc (.cells #[.slice A N c, .int .i64 next] 24)).alloc (.cells #[.slice none 0 0, .int .i64 0] 24) = W1 := ⟨_, rfl⟩
  have hb1 : Below w.heap.size w W1 := by rw [← hW1]; exact ((Below.refl _ w).alloc (Nat.le_refl _) _).alloc (by simp) _
  have hx1 : W1.heap[w.heap.size]? = some (.cells #[.slice A N c, .int .i64 next] 24) := by rw [← hW1]; exact (Below.heap_alloc _ _ _ (by simp)).trans (heap_alloc_new w _)
  have hy1 : W1.heap[w.heap.size + 1]? = some (.cells #[.slice none 0 0, .int .i64 0] 24) := by rw [← hW1]; simpa using heap_alloc_new (w.alloc (.cells #[.slice A N c, .int .i64 next] 24)) (.cells #[.slice none 0 0, .int .i64 0] 24)
  rw [hN] at hv hcap h2 hl ⊢
  have hr := fun W : World => run_slice22 A N c lo hi (lo : Int) (hi : Int) rfl rfl h1 (by omega) W
  have hm := el_mid (hv.below hb1) lo hi h1 (by rw [hN]; omega)
  obtain ⟨fA, hfA⟩ : ∃ fA, fromN 5 A c lo = fA := ⟨_, rfl⟩
  rw [hfA] at hr hm
  obtain ⟨mid, hmid⟩ : ∃ mid, (l.drop lo).take (hi - lo) = mid := ⟨_, rfl⟩
  have hmb : ∀ x ∈ mid, x.p.length ≤ 100000 := by rw [← hmid]; exact fun x hx => hb x (List.mem_of_mem_drop (List.mem_of_mem_take hx))
  have hml : mid.length ≤ 100000 := by rw [← hmid, List.length_take]; omega
  rw [hmid] at hm ⊢
  have HCP := hid (fun (X : World) (hX : Below W1.heap.size W1 X) => copied_any mid _ X (hm.below hX) hml hmb)
  have HB1 := hid hb1
  have HX1 := hid hx1
  have HY1 := hid hy1
  have HW1 := hid hW1
  have hlow : w.heap.size + 2 = W1.heap.size := by rw [← hW1]; simp
  have HLOW := hid hlow
  obtain ⟨g, hg⟩ : ∃ g, w.heap.size = g := ⟨_, rfl⟩
  have HG := hid hg
  rw [hg] at hx1 hy1
  have x0 : W1.cell? ⟨g, 0, none⟩ = some (.slice A N c) := cell_of_row _ _ 0 _ _ _ hx1
  have x1 : W1.cell? ⟨g, 1, none⟩ = some (.int .i64 next) := cell_of_row _ _ 1 _ _ _ hx1
  have hl1 := box_lt hx1
  have HK := hid (fun (X : World) (hX : Below W1.heap.size W1 X) => And.intro ((hX.cell (p := ⟨g, 0, none⟩) hl1).trans x0) ((hX.cell (p := ⟨g, 1, none⟩) hl1).trans x1))
  clear hv hb hN hW1 hx1 hy1 hb1 hm hmb hml hmid hfA hlow hg hcap
  go_enter Try.func37, Try.ntmps37
  go_wp2_with fail
  rw [HW1.out, HG.out]
  refine region_tail 9 (fun X => X.cell? ⟨g, 0, none⟩ = some (.slice A N c) ∧ X.cell? ⟨g, 1, none⟩ = some (.int .i64 next)) (by kernel_rfl) ?_
  obtain ⟨X0, hX0⟩ : ∃ X, W1.drew = X := ⟨_, rfl⟩
  have hB0 : Below W1.heap.size W1 X0 := by rw [← hX0]; exact (Below.refl W1.heap.size W1).drew
  have hHeld := HK.out X0 hB0
  rw [hX0]
  clear hX0
  refine' wpAnyT_take (i := 0) (oi := ?oia0) (v := ?va0) ?hia0 (by kernel_rfl) (by kernel_rfl) ?hqa0 ?hya0 hHeld ?resta0
  case hia0 => (simp only [List.getElem?_toArray, List.getElem?_cons_zero]; rfl)
  case hqa0 => exact fun _ _ _ h => h
  case hya0 => (refine Or.inl ⟨by rfl, ?_⟩; intro w' hSw; (try dsimp only at hSw); go_simp; try with_reducible rfl)
  (try simp only [Act.put, List.setIfInBounds_toArray, List.set_cons_zero, List.set_cons_succ])
  refine' wpAnyT_take (i := 1) (oi := ?oia1) (v := ?va1) ?hia1 (by kernel_rfl) (by kernel_rfl) ?hqa1 ?hya1 hHeld ?resta1
  case hia1 => (simp only [List.getElem?_toArray, List.getElem?_cons_zero, List.getElem?_cons_succ]; rfl)
  case hqa1 => exact fun _ _ _ h => h
  case hya1 => (refine Or.inl ⟨by rfl, ?_⟩; intro w' hSw; (try dsimp only at hSw); go_simp; try with_reducible rfl)
  (try simp only [Act.put, List.setIfInBounds_toArray, List.set_cons_zero, List.set_cons_succ])
  refine' wpAnyT_take (i := 2) (oi := ?oia2) (v := ?va2) ?hia2 (by kernel_rfl) (by kernel_rfl) ?hqa2 ?hya2 hHeld ?resta2
  case hia2 => (simp only [List.getElem?_toArray, List.getElem?_cons_zero, List.getElem?_cons_succ]; rfl)
  case hqa2 => exact fun _ _ _ h => h
  case hya2 => (refine Or.inl ⟨by rfl, ?_⟩; intro w' hSw; (try dsimp only at hSw); go_simp; try with_reducible rfl)
  (try simp only [Act.put, List.setIfInBounds_toArray, List.set_cons_zero, List.set_cons_succ])
  refine' wpAnyT_take (i := 3) (oi := ?oia3) (v := ?va3) ?hia3 (by kernel_rfl) (by kernel_rfl) ?hqa3 ?hya3 hHeld ?resta3
  case hia3 => (simp only [List.getElem?_toArray, List.getElem?_cons_zero, List.getElem?_cons_succ]; rfl)
  case hqa3 => exact fun _ _ _ h => h
  case hya3 => (refine Or.inl ⟨by rfl, ?_⟩; intro w' hSw; (try dsimp only at hSw); go_simp; try with_reducible rfl)
  (try simp only [Act.put, List.setIfInBounds_toArray, List.set_cons_zero, List.set_cons_succ])
  refine' wpAnyT_take (i := 4) (oi := ?oia4) (v := ?va4) ?hia4 (by kernel_rfl) (by kernel_rfl) ?hqa4 ?hya4 hHeld ?resta4
  case hia4 => (simp only [List.getElem?_toArray, List.getElem?_cons_zero, List.getElem?_cons_succ]; rfl)
  case hqa4 => exact fun _ _ _ h => h
  case hya4 => (refine Or.inl ⟨by rfl, ?_⟩; intro w' hSw; (try dsimp only at hSw); go_simp; try with_reducible rfl)
  (try simp only [Act.put, List.setIfInBounds_toArray, List.set_cons_zero, List.set_cons_succ])
  refine' wpAnyT_take (i := 6) (oi := ?oia6) (v := ?va6) ?hia6 (by kernel_rfl) (by kernel_rfl) ?hqa6 ?hya6 hHeld ?resta6
  case hia6 => (simp only [List.getElem?_toArray, List.getElem?_cons_zero, List.getElem?_cons_succ]; rfl)
  case hqa6 => exact fun _ _ _ h => h
  case hya6 => (refine Or.inl ⟨by rfl, ?_⟩; intro w' hSw; (try dsimp only at hSw); go_simp; try with_reducible rfl)
  (try simp only [Act.put, List.setIfInBounds_toArray, List.set_cons_zero, List.set_cons_succ])
  refine' wpAnyT_take (i := 7) (oi := ?oia7) (v := ?va7) ?hia7 (by kernel_rfl) (by kernel_rfl) ?hqa7 ?hya7 hHeld ?resta7
  case hia7 => (simp only [List.getElem?_toArray, List.getElem?_cons_zero, List.getElem?_cons_succ]; rfl)
  case hqa7 => exact fun _ _ _ h => h
  case hya7 => (refine Or.inl ⟨by rfl, ?_⟩; intro w' hSw; (try dsimp only at hSw); go_simp; try with_reducible rfl)
  (try simp only [Act.put, List.setIfInBounds_toArray, List.set_cons_zero, List.set_cons_succ])
  refine' wpAnyT_one (i := 5) (o := ?oic5) (by kernel_rfl) ?hic5 (fun K hK => ?stc5)
  case hic5 => (simp only [List.getElem?_toArray, List.getElem?_cons_zero, List.getElem?_cons_succ]; rfl)
  go_simp
  go_at_call 33
  refine (HCP.out X0 hB0).mono ?_
  rintro e w2 ⟨v2, vs, rfl, ho2, hc2, hp2, hb2⟩
  obtain ⟨A2, c2, rfl⟩ := own_form32 ho2
  obtain ⟨n2, hn2⟩ : ∃ n2, vs.length = n2 := ⟨_, rfl⟩
  rw [hn2] at ho2 ⊢
  have hb12 := hB0.trans (hb2.mono hB0.size)
  have hHeld2 := HK.out w2 hb12
  go_simp
  refine hK.out _ _ (fun _ => hHeld2) ?_
  clear hK K
  (try simp only [Act.put, List.setIfInBounds_toArray, List.set_cons_zero, List.set_cons_succ])
  clear hHeld
  have hHeld := hHeld2
  have hy2 := (hb12.block _ (box_lt HY1.out)).trans HY1.out
  rw [HG.out] at hy2
  have y0 := cell_of_row _ _ 0 _ _ _ hy2
  have y1 := cell_of_row _ _ 1 _ _ _ hy2
  have fy0 := box_fr hy2 0
  have fy1 := box_fr hy2 1
  refine' wpAnyT_take (i := 8) (oi := ?oia8) (v := ?va8) ?hia8 (by kernel_rfl) (by kernel_rfl) ?hqa8 ?hya8 hHeld ?resta8
  case hia8 => (simp only [List.getElem?_toArray, List.getElem?_cons_zero, List.getElem?_cons_succ]; rfl)
  case hqa8 => exact fun _ _ _ h => h
  case hya8 => (refine Or.inl ⟨by rfl, ?_⟩; intro w' hSw; (try dsimp only at hSw); go_simp; try with_reducible rfl)
  (try simp only [Act.put, List.setIfInBounds_toArray, List.set_cons_zero, List.set_cons_succ])
  refine' wpAnyT_one (i := 9) (o := ?oic9) (by kernel_rfl) ?hic9 (fun K hK => ?stc9)
  case hic9 => (simp only [List.getElem?_toArray, List.getElem?_cons_zero, List.getElem?_cons_succ]; rfl)
  go_simp
  refine hK.out _ _ (fun h => absurd h (by decide)) ?_
  clear hK K
  (try simp only [Act.put, List.setIfInBounds_toArray, List.set_cons_zero, List.set_cons_succ])
  refine wpAnyT_done (by kernel_rfl) ?_ _
  go_wp2_with fail
  have how : w2.ownsRow w.heap.size 32 5 (.slice A2 n2 c2) n2 (vs.map cEv).flatten := own_base ho2 (Nat.le_trans HB1.out.size hB0.size)
  have hblk : ∀ k, (Value.slice A2 n2 c2).ownBlock = some k → k ≠ g + 1 := fun k e => by have h1 := (ho2.lt k e).1; have h2 := hB0.size; have h3 := HLOW.out; have h4 := HG.out; omega
  refine bodyPost_ret (results_cell_row rfl _ _ (g + 1) 24 #[.slice A2 n2 c2, .int .i64 next] (0, 0) _ rfl (set2h _ _ hy2) Try.underlying24 rfl rfl) rfl ?_
  refine ⟨_, rfl, _, vs, rfl, by rw [hn2]; exact set2r _ _ how hblk, hc2, fun x hx => (hp2 x hx).keep (fun k cs hk => (set2o _ _ (fun e => by rw [e, hy2] at hk; cases hk)).trans hk), ?_⟩
  exact set2b _ _ (HB1.out.trans (hb12.mono HB1.out.size)) (by rw [← HG.out]; omega)
end Go.Proofs.Ytjpfogdfgcfkcaa
