/- Pop, of queues in order. -/
import Derived.Test.YtjpfogdfgcfkcaaRc
import Derived.Test.YtjpfogdfgcfkcaaSa
import Derived.Test.YtjpfogdfgcfkcaaSb
namespace Go.Proofs.Ytjpfogdfgcfkcaa
open Go.RowKit Go.Lib

theorem results_vv_tmp {fn : Func} {p p2 u : Tmp} {ty ty2 : TypeId} (h : fn.results = #[.cell p ty, .cell p2 ty2, .tmp u]) (tmps : Array Value) (w : World) (g g2 : Nat) (v v2 : Value)
    (hp : tmps.getD p undef = .pointer (some ⟨g, 0, none⟩)) (hlv : (loadVar ty ⟨g, 0, none⟩).run Try.prog w = .ok v w)
    (hp2 : tmps.getD p2 undef = .pointer (some ⟨g2, 0, none⟩)) (hlv2 : (loadVar ty2 ⟨g2, 0, none⟩).run Try.prog w = .ok v2 w) (z : Value) (hz : tmps.getD u undef = z) :
    (results fn tmps).run Try.prog w = .ok (.tuple #[v, v2, z]) w := by
  have hp' : tmps[p]?.getD undef = .pointer (some ⟨g, 0, none⟩) := by simpa using hp
  have hp2' : tmps[p2]?.getD undef = .pointer (some ⟨g2, 0, none⟩) := by simpa using hp2
  have hz' : tmps[u]?.getD undef = z := by simpa using hz
  simp [results, h, hp', hp2', hz', asAddr, hlv, hlv2]

theorem set5own {w : World} {B E st n g : Nat} {v : Value} {xs : List Value} {v0 v1 v2 v3 v4 : Value} (h : w.ownsRow B E st v n xs) (hk : ∀ k, v.ownBlock = some k → k ≠ g) : (set5 w g v0 v1 v2 v3 v4).ownsRow B E st v n xs :=
  own_off (own_off (own_off (own_off (own_off h hk 0 _) hk 1 _) hk 2 _) hk 3 _) hk 4 _

/-- What Pop answers, of a queue in order. -/
def PopQ (w : World) (l : List Ec) (next : Int) (e : Ending) (w' : World) : Prop :=
  (l = [] ∧ e = .returned (.tuple #[.agg #[.slice none 0 0, .int .i64 0], .agg #[.int .i64 0, .int .i64 0, .int .i64 0, .int .i64 0, .slice none 0 0], .int .i64 7]) ∧ Below w.heap.size w w') ∨
  (∃ (y : Ec) (r : List Ec) (q : Value) (x : Ev), l = y :: r ∧ e = .returned (.tuple #[q, .agg #[.int .i64 x.t, .int .i64 x.n, .int .i64 x.k, .int .i64 x.o, x.d], .int .i64 0]) ∧ QuQ w r next q w' ∧ core x = y ∧ Pay w' x)

set_option maxHeartbeats 4000000 in
set_option maxRecDepth 100000 in
theorem pop_any (l : List Ev) (v : Value) (next : Int) (w : World) (hv : EL w v l) (hr : ∀ x ∈ l, R64 x.n) (hl : l.length ≤ 100000) (hb : ∀ x ∈ l, x.p.length ≤ 100000) (hok : chk (l.map core) next = 0) :
    Calls Try.prog 20 #[.agg #[v, .int .i64 next]] w (PopQ w (l.map core) next) := by
  obtain ⟨A, c, rfl⟩ := el_form hv
  obtain ⟨N, hN⟩ : ∃ N, l.length = N := ⟨_, rfl⟩
  rw [hN] at hv hl ⊢
  obtain ⟨W1, hW1⟩ : ∃ W1, ((w.alloc (.cells #[.slice A N c, .int .i64 next] 24)).alloc (.cells #[.slice none 0 0, .int .i64 0] 24)).alloc (.cells #[.int .i64 0, .int .i64 0, .int .i64 0, .int .i64 0, .slice none 0 0] 32) = W1 := ⟨_, rfl⟩
  obtain ⟨g, hg⟩ : ∃ g, w.heap.size = g := ⟨_, rfl⟩
  have hb1 : Below w.heap.size w W1 := by rw [← hW1]; exact (((Below.refl _ w).alloc (Nat.le_refl _) _).alloc (by simp) _).alloc (by simp; omega) _
  have hx1 : W1.heap[g]? = some (.cells #[.slice A N c, .int .i64 next] 24) := by rw [← hW1, ← hg]; exact (Below.heap_alloc _ _ _ (by simp; omega)).trans ((Below.heap_alloc _ _ _ (by simp)).trans (heap_alloc_new w _))
  have hy1 : W1.heap[g + 1]? = some (.cells #[.slice none 0 0, .int .i64 0] 24) := by
    rw [← hW1, ← hg]
    refine (Below.heap_alloc _ _ _ (by simp)).trans ?_
    have h := heap_alloc_new (w.alloc (.cells #[.slice A N c, .int .i64 next] 24)) (.cells #[.slice none 0 0, .int .i64 0] 24)
    simpa using h
  have hu1 : W1.heap[g + 2]? = some (.cells #[.int .i64 0, .int .i64 0, .int .i64 0, .int .i64 0, .slice none 0 0] 32) := by
    rw [← hW1, ← hg]
    have h := heap_alloc_new ((w.alloc (.cells #[.slice A N c, .int .i64 next] 24)).alloc (.cells #[.slice none 0 0, .int .i64 0] 24)) (.cells #[.int .i64 0, .int .i64 0, .int .i64 0, .int .i64 0, .slice none 0 0] 32)
    simpa using h
  have hz1 : W1.heap.size = g + 3 := by rw [← hW1, ← hg]; simp
  have x0 : W1.cell? ⟨g, 0, none⟩ = some (.slice A N c) := cell_of_row _ _ 0 _ _ _ hx1
  have x1 : W1.cell? ⟨g, 1, none⟩ = some (.int .i64 next) := cell_of_row _ _ 1 _ _ _ hx1
  have HV := hid hv
  have HCK := hid (fun (X : World) (hX : Below w.heap.size w X) => check_any l _ next X (hv.below hX) hr)
  rw [hok] at HCK
  have HPB := hid hb
  have HN := hid hN
  have HB1 := hid hb1
  have HX1 := hid hx1
  have HY1 := hid hy1
  have HU1 := hid hu1
  have HZ1 := hid hz1
  have HW1 := hid hW1
  have HG := hid hg
  clear hv hN hr hb hb1 hx1 hy1 hu1 hz1 hW1 hg hok
  go_enter Try.func20, Try.ntmps20
  go_wp2_with fail
  rw [HW1.out, HG.out]
  refine (HCK.out W1 HB1.out).mono ?_
  rintro e w2 ⟨rfl, hb2⟩
  have HX2 := hid ((hb2.block _ (box_lt HX1.out)).trans HX1.out)
  have HY2 := hid ((hb2.block _ (box_lt HY1.out)).trans HY1.out)
  have HU2 := hid ((hb2.block _ (box_lt HU1.out)).trans HU1.out)
  have HB2 := hid (HB1.out.trans (hb2.mono HB1.out.size))
  have hz2 : g + 3 ≤ w2.heap.size := by rw [← HZ1.out]; exact hb2.size
  clear hb2 x0 x1 HCK
  have x0 := cell_of_row _ _ 0 _ _ _ HX2.out
  have x1 := cell_of_row _ _ 1 _ _ _ HX2.out
  by_cases hn0 : N = 0
  · have d0 : ((N : Int) == 0) = true := by rw [beq_iff_eq]; omega
    have HE : Hid (l.map core = []) := hid (by rw [List.eq_nil_of_length_eq_zero (HN.out.trans hn0)]; rfl)
    have y0 := cell_of_row _ _ 0 _ _ _ HY2.out
    have y1 := cell_of_row _ _ 1 _ _ _ HY2.out
    have fy0 := box_fr HY2.out 0
    have fy1 := box_fr HY2.out 1
    have z0 := cell_of_row _ _ 0 _ _ _ HU2.out
    have z1 := cell_of_row _ _ 1 _ _ _ HU2.out
    have z2 := cell_of_row _ _ 2 _ _ _ HU2.out
    have z3 := cell_of_row _ _ 3 _ _ _ HU2.out
    have z4 := cell_of_row _ _ 4 _ _ _ HU2.out
    have fz0 := box_fr HU2.out 0
    have fz1 := box_fr HU2.out 1
    have fz2 := box_fr HU2.out 2
    have fz3 := box_fr HU2.out 3
    have fz4 := box_fr HU2.out 4
    clear hn0
    go_wp2_with fail
    have hu3 : (set2 w2 (g + 1) (.slice none 0 0) (.int .i64 0)).heap[g + 2]? = some (.cells #[.int .i64 0, .int .i64 0, .int .i64 0, .int .i64 0, .slice none 0 0] 32) := (set2o _ _ (by omega)).trans HU2.out
    have hy3 : (set5 (set2 w2 (g + 1) (.slice none 0 0) (.int .i64 0)) (g + 2) (.int .i64 0) (.int .i64 0) (.int .i64 0) (.int .i64 0) (.slice none 0 0)).heap[g + 1]? = some (.cells #[.slice none 0 0, .int .i64 0] 24) := (set5o _ _ _ _ _ (by omega)).trans (set2h _ _ HY2.out)
    refine bodyPost_ret (results_vv_tmp rfl _ _ (g + 1) (g + 2) _ _ rfl (lv24 hy3) rfl (lv32 (set5h _ _ _ _ _ hu3)) _ rfl) rfl ?_
    exact .inl ⟨HE.out, rfl, set5b _ _ _ _ _ (set2b _ _ HB2.out (by rw [HG.out]; omega)) (by rw [HG.out]; omega)⟩
  have d0 : ((N : Int) == 0) = false := by rw [beq_eq_false_iff_ne]; omega
  have hN0 : (0 : Int) < (N : Int) := by omega
  have hN1 : 0 < N := by omega
  obtain ⟨b, off, rfl, hbl, hc⟩ := el_cells HV.out (by rw [HN.out]; omega)
  obtain ⟨x, r, hxr⟩ : ∃ x r, l = x :: r := by
    rcases l with _ | ⟨x, r⟩
    · have := HN.out; simp at this; omega
    · exact ⟨x, r, rfl⟩
  obtain ⟨p0, p1, p2, p3, p4⟩ := hc 0 x (by rw [hxr]; rfl)
  rw [Nat.zero_mul, Nat.add_zero] at p0 p1 p2 p3 p4
  have hxb := HV.out.1 x (by rw [hxr]; exact List.mem_cons_self ..)
  have hxl := HPB.out x (by rw [hxr]; exact List.mem_cons_self ..)
  have HMAP : Hid (l.map core = core x :: r.map core) := hid (by rw [hxr]; rfl)
  have HPT := hid (fun (X : World) (hX : Below w.heap.size w X) => part_any l (.slice (some ⟨b, off, none⟩) N c) next 1 N X (HV.out.below hX) (by rw [HN.out]; exact hl) HPB.out (by omega) (by rw [HN.out]; exact Nat.le_refl _))
  have hmid : ((l.drop 1).take (N - 1)).map core = r.map core := by
    rw [hxr, List.drop_succ_cons, List.drop_zero, List.take_of_length_le]
    have := HN.out
    rw [hxr, List.length_cons] at this
    omega
  rw [hmid] at HPT
  clear hmid hxr hc hn0
  obtain ⟨xt, xn, xk, xo, xd, xp⟩ := x
  dsimp only at p0 p1 p2 p3 p4 hxb hxl
  obtain ⟨xA, xc, rfl⟩ := byt_form hxb.1
  obtain ⟨xm, hxm⟩ : ∃ xm, xp.length = xm := ⟨_, rfl⟩
  rw [hxm] at p4 hxb hxl
  have HXM := hid hxm
  have HCE := hid (fun (X : World) (hX : Below w.heap.size w X) => copiedEvent_any xt xn xk xo xA xm xc xp X (hxb.1.below hX) hxb.2 (by omega))
  have hK : ∀ X, Below w2.heap.size w2 X → X.cell? ⟨g, 0, none⟩ = some (.slice (some ⟨b, off, none⟩) N c) ∧ X.cell? ⟨g, 1, none⟩ = some (.int .i64 next) ∧ X.cell? ⟨b, off, none⟩ = some (.int .i64 xt) ∧ X.cell? ⟨b, off + 1, none⟩ = some (.int .i64 xn) ∧ X.cell? ⟨b, off + 2, none⟩ = some (.int .i64 xk) ∧ X.cell? ⟨b, off + 3, none⟩ = some (.int .i64 xo) ∧ X.cell? ⟨b, off + 4, none⟩ = some (.slice xA xm xc) := fun X hX =>
    have hw := HB2.out.trans (hX.mono HB2.out.size)
    ⟨(hX.cell (p := ⟨g, 0, none⟩) (box_lt HX2.out)).trans x0, (hX.cell (p := ⟨g, 1, none⟩) (box_lt HX2.out)).trans x1, (hw.cell (p := ⟨b, off, none⟩) hbl).trans p0, (hw.cell (p := ⟨b, off + 1, none⟩) hbl).trans p1, (hw.cell (p := ⟨b, off + 2, none⟩) hbl).trans p2, (hw.cell (p := ⟨b, off + 3, none⟩) hbl).trans p3, (hw.cell (p := ⟨b, off + 4, none⟩) hbl).trans p4⟩
  have HK := hid hK
  have HP8 : Hid (B8 xp) := hid hxb.1.1
  clear hK hxb hxm p0 p1 p2 p3 p4
  go_wp2_with fail
  refine region_tail 10 (fun X => X.cell? ⟨g, 0, none⟩ = some (.slice (some ⟨b, off, none⟩) N c) ∧ X.cell? ⟨g, 1, none⟩ = some (.int .i64 next) ∧ X.cell? ⟨b, off, none⟩ = some (.int .i64 xt) ∧ X.cell? ⟨b, off + 1, none⟩ = some (.int .i64 xn) ∧ X.cell? ⟨b, off + 2, none⟩ = some (.int .i64 xk) ∧ X.cell? ⟨b, off + 3, none⟩ = some (.int .i64 xo) ∧ X.cell? ⟨b, off + 4, none⟩ = some (.slice xA xm xc)) (by kernel_rfl) ?_
  obtain ⟨X0, hX0⟩ : ∃ X, w2.drew = X := ⟨_, rfl⟩
  have hB0 : Below w2.heap.size w2 X0 := by rw [← hX0]; exact (Below.refl w2.heap.size w2).drew
  have hHeld := HK.out X0 hB0
  rw [hX0]
  clear hX0 x0 x1
  refine' wpAnyT_take (i := 0) (oi := ?oia0) (v := ?va0) ?hia0 (by kernel_rfl) (by kernel_rfl) ?hqa0 ?hya0 hHeld ?resta0
  case hia0 => (simp only [List.getElem?_toArray, List.getElem?_cons_zero]; rfl)
  case hqa0 => exact fun _ _ _ h => h
  case hya0 => (refine Or.inl ⟨by rfl, ?_⟩; intro w' hSw; (try dsimp only at hSw); go_simp; try with_reducible rfl)
  (try simp only [Act.put, List.setIfInBounds_toArray, List.set_cons_zero, List.set_cons_succ])
  refine' wpAnyT_take (i := 1) (oi := ?oia1) (v := ?va1) ?hia1 (by kernel_rfl) (by kernel_rfl) ?hqa1 ?hya1 hHeld ?resta1
  case hia1 => (simp only [List.getElem?_toArray, List.getElem?_cons_zero, List.getElem?_cons_succ]; rfl)
  case hqa1 => exact fun _ _ _ h => h
  case hya1 => (refine Or.inl ⟨by rfl, ?_⟩; intro w' hSw; (try dsimp only at hSw); go_simp; try with_reducible rfl)
  (try simp only [Act.put, List.setIfInBounds_toArray, List.set_cons_zero, List.set_cons_succ])
  refine' wpAnyT_take (i := 2) (oi := ?oia2) (v := ?va2) ?hia2 (by kernel_rfl) (by kernel_rfl) ?hqa2 ?hya2 hHeld ?resta2
  case hia2 => (simp only [List.getElem?_toArray, List.getElem?_cons_zero, List.getElem?_cons_succ]; rfl)
  case hqa2 => exact fun _ _ _ h => h
  case hya2 => (refine Or.inl ⟨by rfl, ?_⟩; intro w' hSw; (try dsimp only at hSw); go_simp; try with_reducible rfl)
  (try simp only [Act.put, List.setIfInBounds_toArray, List.set_cons_zero, List.set_cons_succ])
  refine' wpAnyT_take (i := 3) (oi := ?oia3) (v := ?va3) ?hia3 (by kernel_rfl) (by kernel_rfl) ?hqa3 ?hya3 hHeld ?resta3
  case hia3 => (simp only [List.getElem?_toArray, List.getElem?_cons_zero, List.getElem?_cons_succ]; rfl)
  case hqa3 => exact fun _ _ _ h => h
  case hya3 => (refine Or.inl ⟨by rfl, ?_⟩; intro w' hSw; (try dsimp only at hSw); go_simp; try with_reducible rfl)
  (try simp only [Act.put, List.setIfInBounds_toArray, List.set_cons_zero, List.set_cons_succ])
  refine' wpAnyT_take (i := 5) (oi := ?oia5) (v := ?va5) ?hia5 (by kernel_rfl) (by kernel_rfl) ?hqa5 ?hya5 hHeld ?resta5
  case hia5 => (simp only [List.getElem?_toArray, List.getElem?_cons_zero, List.getElem?_cons_succ]; rfl)
  case hqa5 => exact fun _ _ _ h => h
  case hya5 => (refine Or.inl ⟨by rfl, ?_⟩; intro w' hSw; (try dsimp only at hSw); go_simp; try with_reducible rfl)
  (try simp only [Act.put, List.setIfInBounds_toArray, List.set_cons_zero, List.set_cons_succ])
  refine' wpAnyT_take (i := 6) (oi := ?oia6) (v := ?va6) ?hia6 (by kernel_rfl) (by kernel_rfl) ?hqa6 ?hya6 hHeld ?resta6
  case hia6 => (simp only [List.getElem?_toArray, List.getElem?_cons_zero, List.getElem?_cons_succ]; rfl)
  case hqa6 => exact fun _ _ _ h => h
  case hya6 => (refine Or.inl ⟨by rfl, ?_⟩; intro w' hSw; (try dsimp only at hSw); go_simp; try with_reducible rfl)
  (try simp only [Act.put, List.setIfInBounds_toArray, List.set_cons_zero, List.set_cons_succ])
  refine' wpAnyT_take (i := 7) (oi := ?oia7) (v := ?va7) ?hia7 (by kernel_rfl) (by kernel_rfl) ?hqa7 ?hya7 hHeld ?resta7
  case hia7 => (simp only [List.getElem?_toArray, List.getElem?_cons_zero, List.getElem?_cons_succ]; rfl)
  case hqa7 => exact fun _ _ _ h => h
  case hya7 => (refine Or.inl ⟨by rfl, ?_⟩; intro w' hSw; (try dsimp only at hSw); go_simp; try with_reducible rfl)
  (try simp only [Act.put, List.setIfInBounds_toArray, List.set_cons_zero, List.set_cons_succ])
  refine' wpAnyT_take (i := 8) (oi := ?oia8) (v := ?va8) ?hia8 (by kernel_rfl) (by kernel_rfl) ?hqa8 ?hya8 hHeld ?resta8
  case hia8 => (simp only [List.getElem?_toArray, List.getElem?_cons_zero, List.getElem?_cons_succ]; rfl)
  case hqa8 => exact fun _ _ _ h => h
  case hya8 => (refine Or.inl ⟨by rfl, ?_⟩; intro w' hSw; (try dsimp only at hSw); go_simp; try with_reducible rfl)
  (try simp only [Act.put, List.setIfInBounds_toArray, List.set_cons_zero, List.set_cons_succ])
  refine' wpAnyT_one (i := 4) (o := ?oic4) (by kernel_rfl) ?hic4 (fun K hK => ?stc4)
  case hic4 => (simp only [List.getElem?_toArray, List.getElem?_cons_zero, List.getElem?_cons_succ]; rfl)
  go_simp
  go_at_call 37
  refine (HPT.out X0 (HB2.out.trans (hB0.mono HB2.out.size))).mono ?_
  rintro e wa ⟨qa, rfl, va, vs, rfl, hoa, hca, hpa, hba⟩
  obtain ⟨vA, vc, rfl⟩ := own_form32 hoa
  obtain ⟨n2, hn2⟩ : ∃ n2, vs.length = n2 := ⟨_, rfl⟩
  rw [hn2] at hoa ⊢
  have hbka := hB0.trans (hba.mono hB0.size)
  have hHeld2 := HK.out wa hbka
  go_simp
  refine hK.out _ _ (fun _ => hHeld2) ?_
  clear hK K
  (try simp only [Act.put, List.setIfInBounds_toArray, List.set_cons_zero, List.set_cons_succ])
  clear hHeld
  have hHeld := hHeld2
  clear hHeld2
  refine' wpAnyT_one (i := 9) (o := ?oic9) (by kernel_rfl) ?hic9 (fun K hK => ?stc9)
  case hic9 => (simp only [List.getElem?_toArray, List.getElem?_cons_zero, List.getElem?_cons_succ]; rfl)
  go_simp
  go_at_call 35
  refine (HCE.out wa (HB2.out.trans (hbka.mono HB2.out.size))).mono ?_
  rintro e wb ⟨eA, ec, rfl, hob, hbb⟩
  have hbkb := hbka.trans (hbb.mono hbka.size)
  have hHeld2 := HK.out wb hbkb
  go_simp
  refine hK.out _ _ (fun _ => hHeld2) ?_
  clear hK K
  (try simp only [Act.put, List.setIfInBounds_toArray, List.set_cons_zero, List.set_cons_succ])
  clear hHeld hHeld2
  have hyb := (hbkb.block _ (box_lt HY2.out)).trans HY2.out
  have hub := (hbkb.block _ (box_lt HU2.out)).trans HU2.out
  have y0 := cell_of_row _ _ 0 _ _ _ hyb
  have y1 := cell_of_row _ _ 1 _ _ _ hyb
  have fy0 := box_fr hyb 0
  have fy1 := box_fr hyb 1
  have z0 := cell_of_row _ _ 0 _ _ _ hub
  have z1 := cell_of_row _ _ 1 _ _ _ hub
  have z2 := cell_of_row _ _ 2 _ _ _ hub
  have z3 := cell_of_row _ _ 3 _ _ _ hub
  have z4 := cell_of_row _ _ 4 _ _ _ hub
  have fz0 := box_fr hub 0
  have fz1 := box_fr hub 1
  have fz2 := box_fr hub 2
  have fz3 := box_fr hub 3
  have fz4 := box_fr hub 4
  refine' wpAnyT_one (i := 10) (o := ?oic10) (by kernel_rfl) ?hic10 (fun K hK => ?stc10)
  case hic10 => (simp only [List.getElem?_toArray, List.getElem?_cons_zero, List.getElem?_cons_succ]; rfl)
  go_simp
  refine hK.out _ _ (fun h => absurd h (by decide)) ?_
  clear hK K
  (try simp only [Act.put, List.setIfInBounds_toArray, List.set_cons_zero, List.set_cons_succ])
  refine' wpAnyT_one (i := 11) (o := ?oic11) (by kernel_rfl) ?hic11 (fun K hK => ?stc11)
  case hic11 => (simp only [List.getElem?_toArray, List.getElem?_cons_zero, List.getElem?_cons_succ]; rfl)
  go_simp
  refine hK.out _ _ (fun h => absurd h (by decide)) ?_
  clear hK K
  (try simp only [Act.put, List.setIfInBounds_toArray, List.set_cons_zero, List.set_cons_succ])
  refine' wpAnyT_one (i := 12) (o := ?oic12) (by kernel_rfl) ?hic12 (fun K hK => ?stc12)
  case hic12 => (simp only [List.getElem?_toArray, List.getElem?_cons_zero, List.getElem?_cons_succ]; rfl)
  go_simp
  refine hK.out _ _ (fun h => absurd h (by decide)) ?_
  clear hK K
  (try simp only [Act.put, List.setIfInBounds_toArray, List.set_cons_zero, List.set_cons_succ])
  refine wpAnyT_done (by kernel_rfl) ?_ _
  go_wp2_with fail
  have hX0 := hB0.size
  have hws : w.heap.size ≤ w2.heap.size := HB2.out.size
  have howa := own_base (B' := w.heap.size) (own_keep hoa (keep_below hbb)) (by omega)
  have howb := own_base (B' := w.heap.size) hob (by have := hbka.size; omega)
  have hna : ∀ k, (Value.slice vA n2 vc).ownBlock = some k → k ≠ g + 1 := own_ne howa hyb (by decide)
  have hna2 : ∀ k, (Value.slice vA n2 vc).ownBlock = some k → k ≠ g + 2 := fun k e => by have h1 := (hoa.lt k e).1; have h2 := hB0.size; omega
  obtain ⟨Y, hY⟩ : ∃ Y, set2 wb (g + 1) (.slice vA n2 vc) (.int .i64 next) = Y := ⟨_, rfl⟩
  have hu3 : Y.heap[g + 2]? = some (.cells #[.int .i64 0, .int .i64 0, .int .i64 0, .int .i64 0, .slice none 0 0] 32) := by rw [← hY]; exact (set2o _ _ (by omega)).trans hub
  have hy3 : (set5 Y (g + 2) (.int .i64 xt) (.int .i64 xn) (.int .i64 xk) (.int .i64 xo) (.slice eA xm ec)).heap[g + 1]? = some (.cells #[.slice vA n2 vc, .int .i64 next] 24) := (set5o _ _ _ _ _ (by omega)).trans (by rw [← hY]; exact set2h _ _ hyb)
  have hkeep : Keep 5 wb (set5 Y (g + 2) (.int .i64 xt) (.int .i64 xn) (.int .i64 xk) (.int .i64 xo) (.slice eA xm ec)) := fun k cs hk => (set5o _ _ _ _ _ (fun e => by rw [e, hub] at hk; cases hk)).trans (by rw [← hY]; exact (set2o _ _ (fun e => by rw [e, hyb] at hk; cases hk)).trans hk)
  refine bodyPost_ret (results_vv_tmp rfl _ _ (g + 1) (g + 2) _ _ rfl (lv24 (by have h := hy3; rw [← hY] at h; exact h)) rfl (lv32 (by have h := set5h (.int .i64 xt) (.int .i64 xn) (.int .i64 xk) (.int .i64 xo) (.slice eA xm ec) hu3; rw [← hY] at h; exact h)) _ rfl) rfl ?_
  have hfin : PopQ w (l.map core) next (.returned (.tuple #[.agg #[.slice vA n2 vc, .int .i64 next], .agg #[.int .i64 xt, .int .i64 xn, .int .i64 xk, .int .i64 xo, .slice eA xm ec], .int .i64 0])) (set5 Y (g + 2) (.int .i64 xt) (.int .i64 xn) (.int .i64 xk) (.int .i64 xo) (.slice eA xm ec)) := by
    refine .inr ⟨_, _, _, ⟨xt, xn, xk, xo, .slice eA xm ec, xp⟩, HMAP.out, rfl, ⟨_, vs, rfl, ?_, hca, fun x hx => ((hpa x hx).keep (keep_below hbb)).keep hkeep, ?_⟩, rfl, ?_⟩
    · rw [hn2]
      refine set5own ?_ hna2
      rw [← hY]
      exact set2r _ _ howa hna
    · refine set5b _ _ _ _ _ ?_ (by rw [HG.out]; omega)
      rw [← hY]
      exact set2b _ _ (HB2.out.trans (hbkb.mono HB2.out.size)) (by rw [HG.out]; omega)
    · exact Pay.keep (x := ⟨xt, xn, xk, xo, .slice eA xm ec, xp⟩) ⟨⟨_, howb⟩, HP8.out⟩ hkeep
  rw [← hY] at hfin
  exact hfin
end Go.Proofs.Ytjpfogdfgcfkcaa
