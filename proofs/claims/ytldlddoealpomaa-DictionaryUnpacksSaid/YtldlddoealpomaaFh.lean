/- The encoder's literals. -/
import Derived.Test.YtldlddoealpomaaFg
namespace Go.Proofs.Ytldlddoealpomaa
open Go.RowKit Go.Lib Go.Shelf
attribute [local go_sem] Oper.semAt_some

theorem chunk_any (w : World) (A : Option Addr) (len cap : Nat) :
    Calls Try.prog 55 #[.slice A len cap, .int .i64 127] w fun e w' => e = .returned (.func (.func 66) #[] #[.pointer (some ⟨w.heap.size, 0, none⟩), .pointer (some ⟨w.heap.size + 1, 0, none⟩)]) ∧ (w.alloc (.cells #[.slice A len cap] 22)).alloc (.cells #[.int .i64 127] 3) = w' := by
  have e3 : ((w.alloc (.cells #[.slice A len cap] 22)).alloc (.cells #[.int .i64 127] 3)).cell? ⟨w.heap.size + 1, 0, none⟩ = some (.int .i64 127) := by
    have h := heap_alloc_new (w.alloc (.cells #[.slice A len cap] 22)) (.cells #[.int .i64 127] 3)
    rw [show (w.alloc (.cells #[.slice A len cap] 22)).heap.size = w.heap.size + 1 by simp] at h
    exact cell_of_row _ _ 0 _ _ _ h
  go_enter Try.func55, Try.ntmps55
  go_wp2
  go_ret
  exact ⟨rfl, rfl⟩
theorem enters66 : ∀ args w, (callFunc 66 args).run Try.prog w = .ok (.enter 66 args) w := enters_of Try.func66 (by kernel_rfl) rfl
theorem chg_kf {W W' : World} {g base B : Nat} {v v' vx vm : Value} {l : List Nat} (he : Enc W g base v vx vm l) (hc : Chg g v v' W W') : KeepsFrom B W W' :=
  ⟨hc.low.size, fun k o _ hk ho => (hc.block k (box_lt hk) (fun e => by rw [e, he.1] at hk; cases hk; cases ho) (fun e => by
    obtain ⟨cs, hcs⟩ := own_type he.2.1 e.symm
    rw [hk] at hcs
    cases hcs
    cases ho)).trans hk⟩
theorem chg_keep {W W' : World} {g base : Nat} {v v' vx vm : Value} {l : List Nat} {T : TypeId} (he : Enc W g base v vx vm l) (hc : Chg g v v' W W') (h1 : T ≠ 51) (h2 : T ≠ 5) : Keep T W W' := fun k cs hk =>
  (hc.block k (box_lt hk) (fun e => by rw [e, he.1] at hk; cases hk; exact h1 rfl) (fun e => by
    obtain ⟨cs', hcs⟩ := own_type he.2.1 e.symm
    rw [hk] at hcs
    cases hcs
    exact h2 rfl)).trans hk
theorem chg_kc {W W' : World} {g base : Nat} {v v' vx vm : Value} {l : List Nat} (he : Enc W g base v vx vm l) (hc : Chg g v v' W W') : Kc W W' := ⟨chg_keep he hc (by decide) (by decide), chg_keep he hc (by decide) (by decide)⟩
theorem byt_chg51 {w w2 : World} {g : Nat} {u v v' : Value} {s : List Nat} (h : Byt w u s) (hne : ∀ ad n c, u = .slice (some ad) n c → ad.block ≠ g) (hc : Chg g v v' w w2) (ha : Apart u v) : Byt w2 u s := by
  obtain ⟨h8, A, c, rfl, h1, h2, b, off, hA, hd⟩ := h
  refine ⟨h8, A, c, rfl, h1, h2, b, off, fun hp => ⟨(hA hp).1, Nat.lt_of_lt_of_le (hA hp).2 hc.low.size⟩, fun i x hx => ?_⟩
  have hp : 0 < s.length := by have := (List.getElem?_eq_some_iff.1 hx).1; omega
  obtain ⟨rfl, hb⟩ := hA hp
  exact (World.cell?_of_block (hc.block b hb (hne _ _ _ rfl) (fun e => ha _ _ _ rfl hp e.symm))).trans (hd i x hx)
theorem enc_put {W : World} {g base D : Nat} {v vx vm : Value} {l : List Nat} {o o' : Obj} (he : Enc W g base v vx vm l) (hD : W.heap[D]? = some o) (ho : o.isCells = false := by rfl) : Enc (W.putObj D o') g base v vx vm l := by
  obtain ⟨h1, h2, h3⟩ := he
  have hne : ∀ k cs T, W.heap[k]? = some (.cells cs T) → k ≠ D := fun k cs T hk e => by rw [e, hD] at hk; injection hk with hk; rw [hk] at ho; cases ho
  refine ⟨(World.putObj_heap_other (hne g _ _ h1)).trans h1, ?_, by simpa [World.putObj] using h3⟩
  refine ⟨h2.1, ?_⟩
  rcases h2.2 with h0 | ⟨k, cap, cur, e, hb, hgb, h4⟩
  · exact .inl h0
  · exact .inr ⟨k, cap, cur, e, hb, (World.putObj_heap_other (hne k _ _ hgb)).trans hgb, h4⟩
theorem chg_put {w W : World} {g D : Nat} {v v' : Value} {o o' : Obj} (hc : Chg g v v' w W) (hDw : w.heap.size ≤ D) (hD : W.heap[D]? = some o) (ho : o.isCells = false := by rfl) (ho2 : o.isWalk = false := by rfl) : Chg g v v' w (W.putObj D o') :=
  ⟨hc.low.trans (belowK_b (w := w) (Nat.zero_le _) W D _ _ hDw hD ho ho2), fun k hk hg hko => (World.putObj_heap_other (by omega)).trans (hc.block k hk hg hko), hc.own⟩
/-- Between two pieces. -/
def CI (w : World) (g base h : Nat) (vt vx vm : Value) (l : List Nat) (bb : Option Nat) (pre : List {y : PcOf w // some y.1.b = bb}) (W : World) : Prop :=
  ∃ v', Enc W g base v' vx vm (l ++ ((pcs (pre.map Subtype.val)).map tk).flatten) ∧ Chg g vt v' w W ∧ W.heap[h]? = some (.cells #[.pointer (some ⟨g, 0, none⟩)] 101)
theorem tk_bound {w : World} : ∀ ys : List (PcOf w), (((pcs ys).map tk).flatten).length ≤ 128 * ys.length
  | [] => by simp [pcs]
  | y :: ys => by
    have := tk_bound ys
    have h2 := y.2.2.1
    have e : ((pcs (y :: ys)).map tk).flatten = tk y.1.g ++ ((pcs ys).map tk).flatten := rfl
    rw [e, List.length_append, List.length_cons]
    have h3 : (tk y.1.g).length = y.1.g.length + 1 := by unfold tk; rw [List.length_append, List.length_singleton, Nat.add_comm]
    omega
theorem ci_stay {w : World} {g base h : Nat} {vt vx vm : Value} {l : List Nat} {bb : Option Nat} {n : Nat} (hn : w.heap.size ≤ n) : OwnFrom n (CI w g base h vt vx vm l bb) := by
  intro s X Y row hs hg hr
  obtain ⟨v', ⟨h1, h2, h3⟩, h4, h5⟩ := hs
  refine ⟨v', ⟨cells_stay h1 hg hr, own_beside h2 hg (fun k hk e => ?_), Nat.le_trans h3 hg.size⟩, ⟨h4.low.grown hg (Nat.zero_le _) (fun _ _ => Nat.zero_le _), fun k hk hkg hko => (hg.block k (Nat.lt_of_lt_of_le hk h4.low.size) (fun e => ?_)).trans (h4.block k hk hkg hko), h4.own⟩, cells_stay h5 hg hr⟩
  · obtain ⟨_, o, ho, hoc⟩ := hr k e.symm
    obtain ⟨cs, hcs⟩ := own_type h2 hk
    rw [hcs] at ho; cases ho; cases hoc
  · have := (hr k e.symm).1
    omega

set_option maxHeartbeats 8000000 in
set_option maxRecDepth 100000 in
theorem outLits_any (bs l : List Nat) (g base : Nat) (vt vx vm : Value) (vb : Value) (w : World) (he : Enc w g base vt vx vm l) (hb : Byt w vb bs) (ha : Apart vb vt) (hgb : ∀ ad n c, vb = .slice (some ad) n c → 0 < n → ad.block ≠ g) (hol : l.length ≤ 300000000000) (hl : bs.length ≤ 1000000000) :
    Calls Try.prog 44 #[.pointer (some ⟨g, 0, none⟩), vb] w (EncQ g base vt vx vm (l ++ lt bs.length bs) w) := by
  obtain ⟨A, c, rfl⟩ := byt_form hb
  obtain ⟨M, hM⟩ : ∃ M, bs.length = M := ⟨_, rfl⟩
  obtain ⟨W1, hW1⟩ : ∃ W1, w.alloc (.cells #[.pointer (some ⟨g, 0, none⟩)] 101) = W1 := ⟨_, rfl⟩
  obtain ⟨W2, hW2⟩ : ∃ W2, (W1.alloc (.cells #[.slice A M c] 22)).alloc (.cells #[.int .i64 127] 3) = W2 := ⟨_, rfl⟩
  obtain ⟨h, hh⟩ : ∃ h, w.heap.size = h := ⟨_, rfl⟩
  have hz1 : W1.heap.size = h + 1 := by rw [← hW1, ← hh]; simp
  have hz2 : W2.heap.size = h + 3 := by rw [← hW2]; simp [hz1]
  have hb1 : Below w.heap.size w W1 := by rw [← hW1]; exact al1 _ _
  have hb12 : Below W1.heap.size W1 W2 := by rw [← hW2]; exact ((Below.refl _ _).alloc (Nat.le_refl _) _).alloc (by simp) _
  have hb2 : Below w.heap.size w W2 := hb1.trans (hb12.mono hb1.size)
  have ht0 : W1.heap[h]? = some (.cells #[.pointer (some ⟨g, 0, none⟩)] 101) := by rw [← hW1, ← hh]; exact heap_alloc_new _ _
  have ht02 := (hb12.block h (box_lt ht0)).trans ht0
  have ht1 : W2.heap[h + 1]? = some (.cells #[.slice A M c] 22) := by rw [← hW2, ← hz1]; exact (Below.heap_alloc _ _ _ (by simp)).trans (heap_alloc_new _ _)
  have ht2 : W2.heap[h + 1 + 1]? = some (.cells #[.int .i64 127] 3) := by
    have h := heap_alloc_new (W1.alloc (.cells #[.slice A M c] 22)) (.cells #[.int .i64 127] 3)
    rw [hW2, show (W1.alloc (.cells #[.slice A M c] 22)).heap.size = W1.heap.size + 1 by simp, hz1] at h
    exact h
  rw [hM] at hb ha hl
  have hS := chunk_streams 2 (h + 1) bs A M c w W2 (by decide) hb hM hl ht1 ht2
  have HCI : Hid (CI w g base h vt vx vm l (A.map Addr.block) [] W2) := hid ⟨vt, ⟨(hb2.block g (box_lt he.1)).trans he.1, by simpa [pcs] using own_keep he.2.1 (keep_below hb2), Nat.le_trans he.2.2 hb2.size⟩, Chg.below hb2, ht02⟩
  have HS := hid hS
  have HB := hid hb
  have HM := hid hM
  have HA := hid ha
  have HGB := hid (show ∀ ad n c', Value.slice A M c = .slice (some ad) n c' → 0 < n → ad.block ≠ g by rw [hM] at hgb; exact hgb)
  have HW1 := hid hW1
  have HW2 := hid hW2
  have HH := hid hh
  have HZ1 := hid hz1
  have HZ2 := hid hz2
  have HLT : Hid (lt M bs = ((ck M bs).map tk).flatten) := hid (lt_ck M bs)
  rw [hM]
  clear hS hb hM ha hgb hW1 hW2 hh hb1 hb12 hb2 ht0 ht02 ht1 ht2 he hz1 hz2
  refine (callsIn_wide (n := 3)).1 ?_
  refine callsIn_of_wp_marks Try.func44 rfl trivial ?_ rfl
  simp only [Try.ntmps44, List.size_toArray, List.length_cons, List.length_nil, Nat.reduceAdd, Nat.reduceSub, Array.replicate_succ, Array.replicate_zero, List.push_toArray, List.append_toArray, List.nil_append, List.cons_append]
  gi_wp2_with (refine ⟨trivial, ?_⟩; gi_at_call 55; refine (callsIn_wide.2 (chunk_any _ _ _ _)).mono ?_; rintro e w2 ⟨rfl, hw2⟩; rw [HW1.out] at hw2; rw [HW2.out] at hw2; subst hw2)
  rw [HH.out]
  refine wpIn_rangeFunc_ownG rfl (by decide) (gf := 66) (lb := #[.pointer (some ⟨h + 1, 0, none⟩), .pointer (some ⟨h + 1 + 1, 0, none⟩)]) rfl trivial enters66 HS.out (fun h k => Kc.trans h k)
    (fun W ll o o' _ ho hoc _ => ⟨fun k cs hk => (World.putObj_heap_other (fun e => by subst e; rw [ho] at hk; cases hk; cases hoc)).trans hk, fun k cs hk => (World.putObj_heap_other (fun e => by subst e; rw [ho] at hk; cases hk; cases hoc)).trans hk⟩)
    (Below.refl _ _) (fun _ => rfl) (CI w g base h vt vx vm l (A.map Addr.block)) (fun _ _ _ => False) (ci_stay (by rw [HH.out, HZ2.out]; omega)) (fun _ _ _ _ _ hs _ _ => hs) HCI.out
    (fun y : {y : PcOf w // some y.1.b = A.map Addr.block} => { tmps := #[Value.pointer (some ⟨g, 0, none⟩), .slice A M c, .pointer (some ⟨h, 0, none⟩), undef, .slice (some ⟨y.1.1.b, y.1.1.o, none⟩) y.1.1.g.length y.1.1.g.length, .slice A M c, .func (.func 66) #[] #[.pointer (some ⟨h + 1, 0, none⟩), .pointer (some ⟨h + 1 + 1, 0, none⟩)], .slice (some ⟨y.1.1.b, y.1.1.o, none⟩) y.1.1.g.length y.1.1.g.length, undef, undef, undef, undef, undef, undef, undef, undef, undef, undef, undef, undef, undef, undef, undef, undef, undef, undef, undef, undef, undef], defers := [] }) ?assign ?body ?done ?stop
  case assign =>
    intro l0 y W K hK
    gi_wp2
    exact hK
  case body =>
    rintro l0 pre y W ⟨v1, he, hcw, hh0⟩ hpl
    obtain ⟨⟨⟨yb, yo, yg⟩, hy1⟩, hy2⟩ := y
    obtain ⟨hyn, hyl, hyb⟩ := id hy1
    dsimp only at hyn hyl hyb hy2 ⊢
    obtain ⟨m, hm⟩ : ∃ m, yg.length = m := ⟨_, rfl⟩
    rw [hm] at hyl hyb ⊢
    have hm0 : 0 < m := by have := List.length_pos_iff.2 hyn; omega
    obtain ⟨ad, hAe, hade⟩ : ∃ ad, A = some ad ∧ ad.block = yb := by
      rcases A with _ | ad
      · cases hy2
      · exact ⟨ad, rfl, by injection hy2 with e; exact e.symm⟩
    have hybl : yb < w.heap.size := by
      obtain ⟨b, off, e, hbl, _⟩ := byt_at hyb (by rw [hm]; exact hm0)
      injection e with e
      injection e with e
      rw [e]; exact hbl
    have hbs0 : 0 < M := by have h := hpl; have := HM.out; omega
    have hyng : yb ≠ g := by rw [← hade]; exact HGB.out ad M c (by rw [hAe]) hbs0
    have hyv : vt.ownBlock ≠ some yb := by rw [← hade]; exact HA.out ad M c (by rw [hAe]) hbs0
    have hv1 : v1.ownBlock ≠ some yb := fun e => by
      rcases hcw.own with h | ⟨k, hk, h⟩
      · exact hyv (h.symm.trans e)
      · rw [h] at e; injection e with e; omega
    obtain ⟨cur, hcur⟩ : ∃ cur, l ++ ((pcs (pre.map Subtype.val)).map tk).flatten = cur := ⟨_, rfl⟩
    rw [hcur] at he
    obtain ⟨L, hL⟩ : ∃ L, cur.length = L := ⟨_, rfl⟩
    obtain ⟨tA, tc, rfl⟩ := own_form he.2.1
    have hLb : L ≤ 500000000000 := by
      have h1 := tk_bound (pre.map Subtype.val)
      rw [List.length_map] at h1
      have h2 := HM.out
      rw [← hL, ← hcur, List.length_append]
      omega
    have how := he.2.1
    rw [hL] at he how hv1 hcw
    have hpyW : Byt W (.slice (some ⟨yb, yo, none⟩) m m) yg := byt_chg51 hyb (fun ad n c e => by injection e with e; injection e with e; rw [← e]; exact hyng) hcw (fun a n c e _ e2 => by injection e with e; injection e with e; rw [← e] at e2; exact hyv e2)
    have hu8 : IntKind.u8.wrap (m : Int) = (m : Int) := by rw [IntKind.wrap_u8]; omega
    have HE := hid he
    have HOW := hid how
    have HCW := hid hcw
    have HH0 := hid hh0
    have HPY := hid hpyW
    have HNB := hid hv1
    have HNG := hid (show ∀ ad n c, Value.slice (some ⟨yb, yo, none⟩) m m = .slice (some ad) n c → ad.block ≠ g from fun ad n c e => by injection e with e; injection e with e; rw [← e]; exact hyng)
    have HYL := hid hm
    have HLL := hid hL
    have HCUR := hid hcur
    clear he how hcw hh0 hpyW hv1 hm hL hcur hyb hyv hyng hybl hade hAe
    gi_wp2_with fail
    refine round_tail 12 (fun X : World => X.cell? ⟨h, 0, none⟩ = some (.pointer (some ⟨g, 0, none⟩)) ∧ X.cell? ⟨g, 0, none⟩ = some (.slice tA L tc)) (by kernel_rfl) (by rintro ⟨_, _, h⟩; exact h) (by kernel_rfl) ?_
    have hHeld : W.drew.cell? ⟨h, 0, none⟩ = some (.pointer (some ⟨g, 0, none⟩)) ∧ W.drew.cell? ⟨g, 0, none⟩ = some (.slice tA L tc) := ⟨cell_of_row _ _ 0 _ _ _ HH0.out, cell_of_row _ _ 0 _ _ _ HE.out.1⟩
    refine' wpAnyT_take (i := 0) (oi := ?oica0) (v := ?vca0) ?hica0 (by kernel_rfl) (by kernel_rfl) ?hqca0 ?hyca0 hHeld ?restca0
    case hica0 => (simp only [List.getElem?_toArray, List.getElem?_cons_zero]; rfl)
    case hqca0 => exact fun _ _ _ h => h
    case hyca0 => (refine Or.inl ⟨by rfl, ?_⟩; intro w' hSw; (try dsimp only at hSw); go_simp; try with_reducible rfl)
    (try simp only [Act.put, List.setIfInBounds_toArray, List.set_cons_zero, List.set_cons_succ])
    refine' wpAnyT_take (i := 1) (oi := ?oica1) (v := ?vca1) ?hica1 (by kernel_rfl) (by kernel_rfl) ?hqca1 ?hyca1 hHeld ?restca1
    case hica1 => (simp only [List.getElem?_toArray, List.getElem?_cons_zero, List.getElem?_cons_succ]; rfl)
    case hqca1 => exact fun _ _ _ h => h
    case hyca1 => (refine Or.inl ⟨by rfl, ?_⟩; intro w' hSw; (try dsimp only at hSw); go_simp; try with_reducible rfl)
    (try simp only [Act.put, List.setIfInBounds_toArray, List.set_cons_zero, List.set_cons_succ])
    refine' wpAnyT_take (i := 2) (oi := ?oica2) (v := ?vca2) ?hica2 (by kernel_rfl) (by kernel_rfl) ?hqca2 ?hyca2 hHeld ?restca2
    case hica2 => (simp only [List.getElem?_toArray, List.getElem?_cons_zero, List.getElem?_cons_succ]; rfl)
    case hqca2 => exact fun _ _ _ h => h
    case hyca2 => (refine Or.inl ⟨by rfl, ?_⟩; intro w' hSw; (try dsimp only at hSw); go_simp; try with_reducible rfl)
    (try simp only [Act.put, List.setIfInBounds_toArray, List.set_cons_zero, List.set_cons_succ])
    refine' wpAnyT_take (i := 3) (oi := ?oica3) (v := ?vca3) ?hica3 (by kernel_rfl) (by kernel_rfl) ?hqca3 ?hyca3 hHeld ?restca3
    case hica3 => (simp only [List.getElem?_toArray, List.getElem?_cons_zero, List.getElem?_cons_succ]; rfl)
    case hqca3 => exact fun _ _ _ h => h
    case hyca3 => (refine Or.inl ⟨by rfl, ?_⟩; intro w' hSw; (try dsimp only at hSw); go_simp; try with_reducible rfl)
    (try simp only [Act.put, List.setIfInBounds_toArray, List.set_cons_zero, List.set_cons_succ])
    refine' wpAnyT_take (i := 4) (oi := ?oica4) (v := ?vca4) ?hica4 (by kernel_rfl) (by kernel_rfl) ?hqca4 ?hyca4 hHeld ?restca4
    case hica4 => (simp only [List.getElem?_toArray, List.getElem?_cons_zero, List.getElem?_cons_succ]; rfl)
    case hqca4 => exact fun _ _ _ h => h
    case hyca4 => (refine Or.inl ⟨by rfl, ?_⟩; intro w' hSw; (try dsimp only at hSw); go_simp; try with_reducible rfl)
    (try simp only [Act.put, List.setIfInBounds_toArray, List.set_cons_zero, List.set_cons_succ])
    refine' wpAnyT_take (i := 5) (oi := ?oica5) (v := ?vca5) ?hica5 (by kernel_rfl) (by kernel_rfl) ?hqca5 ?hyca5 hHeld ?restca5
    case hica5 => (simp only [List.getElem?_toArray, List.getElem?_cons_zero, List.getElem?_cons_succ]; rfl)
    case hqca5 => exact fun _ _ _ h => h
    case hyca5 => (refine Or.inl ⟨by rfl, ?_⟩; intro w' hSw; (try dsimp only at hSw); go_simp; try with_reducible rfl)
    (try simp only [Act.put, List.setIfInBounds_toArray, List.set_cons_zero, List.set_cons_succ])
    refine' wpAnyT_take (i := 6) (oi := ?oica6) (v := ?vca6) ?hica6 (by kernel_rfl) (by kernel_rfl) ?hqca6 ?hyca6 hHeld ?restca6
    case hica6 => (simp only [List.getElem?_toArray, List.getElem?_cons_zero, List.getElem?_cons_succ]; rfl)
    case hqca6 => exact fun _ _ _ h => h
    case hyca6 => (refine Or.inl ⟨by rfl, ?_⟩; intro w' hSw; (try dsimp only at hSw); go_simp; try with_reducible rfl)
    (try simp only [Act.put, List.setIfInBounds_toArray, List.set_cons_zero, List.set_cons_succ])
    refine' wpAnyT_take (i := 7) (oi := ?oica7) (v := ?vca7) ?hica7 (by kernel_rfl) (by kernel_rfl) ?hqca7 ?hyca7 hHeld ?restca7
    case hica7 => (simp only [List.getElem?_toArray, List.getElem?_cons_zero, List.getElem?_cons_succ]; rfl)
    case hqca7 => exact fun _ _ _ h => h
    case hyca7 => (refine Or.inl ⟨by rfl, ?_⟩; intro w' hSw; (try dsimp only at hSw); go_simp; try with_reducible rfl)
    (try simp only [Act.put, List.setIfInBounds_toArray, List.set_cons_zero, List.set_cons_succ])
    have hal := al1 W (.cells #[.int .u8 (m : Int)] 5)
    obtain ⟨W2a, hW2a⟩ : ∃ X, W.alloc (.cells #[.int .u8 (m : Int)] 5) = X := ⟨_, rfl⟩
    have HZB : Hid (Byt W2a (.slice (some ⟨W.heap.size, 0, none⟩) 1 1) [m]) := hid (by rw [← hW2a]; exact byt_one W m (by omega))
    rw [hW2a] at hal
    have hbg := (hal.block g (box_lt HE.out.1)).trans HE.out.1
    have hbh := (hal.block h (box_lt HH0.out)).trans HH0.out
    have HO2 := hid (own_keep HOW.out (keep_below hal))
    have HC2 := hid (Chg.below (g := g) (v := .slice tA L tc) hal)
    have HBG2 := hid hbg
    have HBH2 := hid hbh
    have hz2 : base ≤ W2a.heap.size := Nat.le_trans HE.out.2.2 hal.size
    have HW2A := hid hW2a
    clear hbg hbh hal hW2a hHeld
    have hHeld : W2a.drew.cell? ⟨h, 0, none⟩ = some (.pointer (some ⟨g, 0, none⟩)) ∧ W2a.drew.cell? ⟨g, 0, none⟩ = some (.slice tA L tc) := ⟨cell_of_row _ _ 0 _ _ _ HBH2.out, cell_of_row _ _ 0 _ _ _ HBG2.out⟩
    refine' wpAnyT_one (i := 8) (o := ?oicb8) (by kernel_rfl) ?hicb8 (fun K hK => ?stcb8)
    case hicb8 => (simp only [List.getElem?_toArray, List.getElem?_cons_zero, List.getElem?_cons_succ]; rfl)
    go_simp
    rw [HW2A.out]
    refine hK.out _ _ (fun _ => hHeld) ?_
    clear hK K
    (try simp only [Act.put, List.setIfInBounds_toArray, List.set_cons_zero, List.set_cons_succ])
    refine' wpAnyT_one (i := 9) (o := ?oicb9) (by kernel_rfl) ?hicb9 (fun K hK => ?stcb9)
    case hicb9 => (simp only [List.getElem?_toArray, List.getElem?_cons_zero, List.getElem?_cons_succ]; rfl)
    refine step_append_byt_at rfl (.tmp 12) (.tmp 16) rfl base (.slice tA L tc) L _ (by simp [Act.eval]) (show W2a.drew.ownsRow base 5 1 (.slice tA L tc) L (cur.map byteV) from HO2.out) [m] ⟨W.heap.size, 0, none⟩ 1 1 (by simp [Act.eval]) (show Byt W2a.drew _ _ from HZB.out) (by simp; omega) (show base ≤ W2a.heap.size from hz2) ?_
    intro v3 W3 ho3 hg3 hat3
    have HC3 := hid (HC2.out.trans ((Chg.below (below_drew (Below.refl W2a.heap.size W2a))).trans (Chg.grown hg3 hat3)))
    have HBG3 := hid (enc_grown (show W2a.drew.heap[g]? = _ from HBG2.out) (show W2a.drew.ownsRow base 5 1 (.slice tA L tc) L (cur.map byteV) from HO2.out) hg3)
    have HBH3 := hid (keep_grown (T := 101) (show W2a.drew.ownsRow base 5 1 (.slice tA L tc) L (cur.map byteV) from HO2.out) (by decide) hg3 h _ HBH2.out)
    obtain ⟨a3, c3, rfl⟩ := own_form ho3
    have HO3 : Hid (W3.ownsRow base 5 1 (.slice a3 (L + 1) c3) (L + 1) ((cur ++ [m]).map byteV)) := hid (by rw [List.map_append]; exact ho3)
    have hz3 : base ≤ W3.heap.size := Nat.le_trans hz2 hg3.size
    clear hHeld hg3 ho3 hat3 HBG2 HBH2 HO2 HC2 HZB
    have hHeld : W3.cell? ⟨h, 0, none⟩ = some (.pointer (some ⟨g, 0, none⟩)) ∧ W3.cell? ⟨g, 0, none⟩ = some (.slice tA L tc) := ⟨cell_of_row _ _ 0 _ _ _ HBH3.out, cell_of_row _ _ 0 _ _ _ HBG3.out⟩
    have f0 := box_fr HBG3.out 0
    refine hK.out _ _ (fun _ => hHeld) ?_
    clear hK K
    (try simp only [Act.put, List.setIfInBounds_toArray, List.set_cons_zero, List.set_cons_succ])
    refine' wpAnyT_one (i := 10) (o := ?oicb10) (by kernel_rfl) ?hicb10 (fun K hK => ?stcb10)
    case hicb10 => (simp only [List.getElem?_toArray, List.getElem?_cons_zero, List.getElem?_cons_succ]; rfl)
    go_simp
    refine hK.out _ _ (fun _ => hHeld) ?_
    clear hK K
    (try simp only [Act.put, List.setIfInBounds_toArray, List.set_cons_zero, List.set_cons_succ])
    refine' wpAnyT_one (i := 11) (o := ?oicb11) (by kernel_rfl) ?hicb11 (fun K hK => ?stcb11)
    case hicb11 => (simp only [List.getElem?_toArray, List.getElem?_cons_zero, List.getElem?_cons_succ]; rfl)
    go_simp
    refine hK.out _ _ (fun _ => hHeld) ?_
    clear hK K
    (try simp only [Act.put, List.setIfInBounds_toArray, List.set_cons_zero, List.set_cons_succ])
    refine' wpAnyT_one (i := 12) (o := ?oicb12) (by kernel_rfl) ?hicb12 (fun K hK => ?stcb12)
    case hicb12 => (simp only [List.getElem?_toArray, List.getElem?_cons_zero, List.getElem?_cons_succ]; rfl)
    go_simp
    refine hK.out _ _ (fun h => absurd h (by decide)) ?_
    clear hK K
    (try simp only [Act.put, List.setIfInBounds_toArray, List.set_cons_zero, List.set_cons_succ])
    refine wpAnyT_done (by kernel_rfl) ?_ _
    have HBG4 := hid (box_set (cs := [.slice tA L tc, vx, vm]) HBG3.out 0 (.slice a3 (L + 1) c3))
    have HBH4 := hid ((Below.heap_setCell W3 ⟨g, 0, none⟩ (.slice a3 (L + 1) c3) h (fun e => by have e' : h = g := e; rw [e', HBG3.out] at HBH3; cases HBH3.out)).trans HBH3.out)
    have HO4 := hid (own_off HO3.out (fun k hk e => enc_not HBG3.out HO3.out (by rw [hk, e])) 0 (.slice a3 (L + 1) c3))
    have HC4 := hid (HC3.out.set 0 (.slice a3 (L + 1) c3))
    obtain ⟨W4, hW4⟩ : ∃ X, W3.setCell ⟨g, 0, none⟩ (.slice a3 (L + 1) c3) = X := ⟨_, rfl⟩
    have hz4 : base ≤ W4.heap.size := by rw [← hW4]; simpa using hz3
    rw [hW4] at HBG4 HBH4 HO4 HC4 ⊢
    have hpy : Byt W4 (.slice (some ⟨yb, yo, none⟩) m m) yg := by
      refine byt_chg51 HPY.out HNG.out HC4.out (fun a n' c' e hn' e2 => ?_)
      injection e with e
      injection e with e
      rw [← e] at e2
      exact HNB.out e2
    have HPY4 := hid hpy
    clear hpy hW4 HBG3 HBH3 HO3 HC3 f0 hHeld hz3
    gi_wp2_with fail
    refine round_tail 9 (fun X : World => X.cell? ⟨h, 0, none⟩ = some (.pointer (some ⟨g, 0, none⟩)) ∧ X.cell? ⟨g, 0, none⟩ = some (.slice a3 (L + 1) c3)) (by kernel_rfl) (by rintro ⟨_, _, h⟩; exact h) (by kernel_rfl) ?_
    have hHeld : W4.drew.cell? ⟨h, 0, none⟩ = some (.pointer (some ⟨g, 0, none⟩)) ∧ W4.drew.cell? ⟨g, 0, none⟩ = some (.slice a3 (L + 1) c3) := ⟨cell_of_row _ _ 0 _ _ _ HBH4.out, cell_of_row _ _ 0 _ _ _ HBG4.out⟩
    refine' wpAnyT_take (i := 0) (oi := ?oicc0) (v := ?vcc0) ?hicc0 (by kernel_rfl) (by kernel_rfl) ?hqcc0 ?hycc0 hHeld ?restcc0
    case hicc0 => (simp only [List.getElem?_toArray, List.getElem?_cons_zero]; rfl)
    case hqcc0 => exact fun _ _ _ h => h
    case hycc0 => (refine Or.inl ⟨by rfl, ?_⟩; intro w' hSw; (try dsimp only at hSw); go_simp; try with_reducible rfl)
    (try simp only [Act.put, List.setIfInBounds_toArray, List.set_cons_zero, List.set_cons_succ])
    refine' wpAnyT_take (i := 1) (oi := ?oicc1) (v := ?vcc1) ?hicc1 (by kernel_rfl) (by kernel_rfl) ?hqcc1 ?hycc1 hHeld ?restcc1
    case hicc1 => (simp only [List.getElem?_toArray, List.getElem?_cons_zero, List.getElem?_cons_succ]; rfl)
    case hqcc1 => exact fun _ _ _ h => h
    case hycc1 => (refine Or.inl ⟨by rfl, ?_⟩; intro w' hSw; (try dsimp only at hSw); go_simp; try with_reducible rfl)
    (try simp only [Act.put, List.setIfInBounds_toArray, List.set_cons_zero, List.set_cons_succ])
    refine' wpAnyT_take (i := 2) (oi := ?oicc2) (v := ?vcc2) ?hicc2 (by kernel_rfl) (by kernel_rfl) ?hqcc2 ?hycc2 hHeld ?restcc2
    case hicc2 => (simp only [List.getElem?_toArray, List.getElem?_cons_zero, List.getElem?_cons_succ]; rfl)
    case hqcc2 => exact fun _ _ _ h => h
    case hycc2 => (refine Or.inl ⟨by rfl, ?_⟩; intro w' hSw; (try dsimp only at hSw); go_simp; try with_reducible rfl)
    (try simp only [Act.put, List.setIfInBounds_toArray, List.set_cons_zero, List.set_cons_succ])
    refine' wpAnyT_take (i := 3) (oi := ?oicc3) (v := ?vcc3) ?hicc3 (by kernel_rfl) (by kernel_rfl) ?hqcc3 ?hycc3 hHeld ?restcc3
    case hicc3 => (simp only [List.getElem?_toArray, List.getElem?_cons_zero, List.getElem?_cons_succ]; rfl)
    case hqcc3 => exact fun _ _ _ h => h
    case hycc3 => (refine Or.inl ⟨by rfl, ?_⟩; intro w' hSw; (try dsimp only at hSw); go_simp; try with_reducible rfl)
    (try simp only [Act.put, List.setIfInBounds_toArray, List.set_cons_zero, List.set_cons_succ])
    refine' wpAnyT_take (i := 4) (oi := ?oicc4) (v := ?vcc4) ?hicc4 (by kernel_rfl) (by kernel_rfl) ?hqcc4 ?hycc4 hHeld ?restcc4
    case hicc4 => (simp only [List.getElem?_toArray, List.getElem?_cons_zero, List.getElem?_cons_succ]; rfl)
    case hqcc4 => exact fun _ _ _ h => h
    case hycc4 => (refine Or.inl ⟨by rfl, ?_⟩; intro w' hSw; (try dsimp only at hSw); go_simp; try with_reducible rfl)
    (try simp only [Act.put, List.setIfInBounds_toArray, List.set_cons_zero, List.set_cons_succ])
    refine' wpAnyT_take (i := 5) (oi := ?oicc5) (v := ?vcc5) ?hicc5 (by kernel_rfl) (by kernel_rfl) ?hqcc5 ?hycc5 hHeld ?restcc5
    case hicc5 => (simp only [List.getElem?_toArray, List.getElem?_cons_zero, List.getElem?_cons_succ]; rfl)
    case hqcc5 => exact fun _ _ _ h => h
    case hycc5 => (refine Or.inl ⟨by rfl, ?_⟩; intro w' hSw; (try dsimp only at hSw); go_simp; try with_reducible rfl)
    (try simp only [Act.put, List.setIfInBounds_toArray, List.set_cons_zero, List.set_cons_succ])
    refine' wpAnyT_one (i := 6) (o := ?oicd6) (by kernel_rfl) ?hicd6 (fun K hK => ?stcd6)
    case hicd6 => (simp only [List.getElem?_toArray, List.getElem?_cons_zero, List.getElem?_cons_succ]; rfl)
    refine step_append_byt_at rfl (.tmp 24) (.tmp 25) rfl base (.slice a3 (L + 1) c3) (L + 1) _ (by simp [Act.eval]) (show W4.drew.ownsRow base 5 1 (.slice a3 (L + 1) c3) (L + 1) ((cur ++ [m]).map byteV) from HO4.out) yg ⟨yb, yo, none⟩ m m (by simp [Act.eval]) (show Byt W4.drew _ _ from HPY4.out) (by rw [HYL.out]; omega) (show base ≤ W4.heap.size from hz4) ?_
    intro v5 W5 ho5 hg5 hat5
    have HC5 := hid (HC4.out.trans ((Chg.below (below_drew (Below.refl W4.heap.size W4))).trans (Chg.grown hg5 hat5)))
    have HBG5 := hid (enc_grown (show W4.drew.heap[g]? = _ from HBG4.out) (show W4.drew.ownsRow base 5 1 (.slice a3 (L + 1) c3) (L + 1) ((cur ++ [m]).map byteV) from HO4.out) hg5)
    have HBH5 := hid (keep_grown (T := 101) (show W4.drew.ownsRow base 5 1 (.slice a3 (L + 1) c3) (L + 1) ((cur ++ [m]).map byteV) from HO4.out) (by decide) hg5 h _ HBH4.out)
    obtain ⟨a5, c5, rfl⟩ := own_form ho5
    have HO5 : Hid (W5.ownsRow base 5 1 (.slice a5 (L + 1 + yg.length) c5) (L + 1 + yg.length) ((cur ++ [m] ++ yg).map byteV)) := hid (by rw [List.map_append]; exact ho5)
    have hz5 : base ≤ W5.heap.size := Nat.le_trans hz4 hg5.size
    clear hHeld hg5 ho5 hat5
    have hHeld : W5.cell? ⟨h, 0, none⟩ = some (.pointer (some ⟨g, 0, none⟩)) ∧ W5.cell? ⟨g, 0, none⟩ = some (.slice a3 (L + 1) c3) := ⟨cell_of_row _ _ 0 _ _ _ HBH5.out, cell_of_row _ _ 0 _ _ _ HBG5.out⟩
    have f0 := box_fr HBG5.out 0
    refine hK.out _ _ (fun _ => hHeld) ?_
    clear hK K
    (try simp only [Act.put, List.setIfInBounds_toArray, List.set_cons_zero, List.set_cons_succ])
    refine' wpAnyT_one (i := 7) (o := ?oicd7) (by kernel_rfl) ?hicd7 (fun K hK => ?stcd7)
    case hicd7 => (simp only [List.getElem?_toArray, List.getElem?_cons_zero, List.getElem?_cons_succ]; rfl)
    go_simp
    refine hK.out _ _ (fun _ => hHeld) ?_
    clear hK K
    (try simp only [Act.put, List.setIfInBounds_toArray, List.set_cons_zero, List.set_cons_succ])
    refine' wpAnyT_one (i := 8) (o := ?oicd8) (by kernel_rfl) ?hicd8 (fun K hK => ?stcd8)
    case hicd8 => (simp only [List.getElem?_toArray, List.getElem?_cons_zero, List.getElem?_cons_succ]; rfl)
    go_simp
    refine hK.out _ _ (fun _ => hHeld) ?_
    clear hK K
    (try simp only [Act.put, List.setIfInBounds_toArray, List.set_cons_zero, List.set_cons_succ])
    refine' wpAnyT_one (i := 9) (o := ?oicd9) (by kernel_rfl) ?hicd9 (fun K hK => ?stcd9)
    case hicd9 => (simp only [List.getElem?_toArray, List.getElem?_cons_zero, List.getElem?_cons_succ]; rfl)
    go_simp
    refine hK.out _ _ (fun h => absurd h (by decide)) ?_
    clear hK K
    (try simp only [Act.put, List.setIfInBounds_toArray, List.set_cons_zero, List.set_cons_succ])
    refine wpAnyT_done (by kernel_rfl) ?_ _
    have HBG6 := hid (box_set (cs := [.slice a3 (L + 1) c3, vx, vm]) HBG5.out 0 (.slice a5 (L + 1 + yg.length) c5))
    have HBH6 := hid ((Below.heap_setCell W5 ⟨g, 0, none⟩ (.slice a5 (L + 1 + yg.length) c5) h (fun e => by have e' : h = g := e; rw [e', HBG5.out] at HBH5; cases HBH5.out)).trans HBH5.out)
    have HO6 := hid (own_off HO5.out (fun k hk e => enc_not HBG5.out HO5.out (by rw [hk, e])) 0 (.slice a5 (L + 1 + yg.length) c5))
    have HC6 := hid (HC5.out.set 0 (.slice a5 (L + 1 + yg.length) c5))
    obtain ⟨W6, hW6⟩ : ∃ X, W5.setCell ⟨g, 0, none⟩ (.slice a5 (L + 1 + yg.length) c5) = X := ⟨_, rfl⟩
    have hz6 : base ≤ W6.heap.size := by rw [← hW6]; simpa using hz5
    rw [hW6] at HBG6 HBH6 HO6 HC6 ⊢
    refine ⟨chg_kf HE.out HC6.out, chg_kc HE.out HC6.out, ⟨_, ⟨HBG6.out, ?_, hz6⟩, HCW.out.trans HC6.out, HBH6.out⟩⟩
    have e1 : l ++ (((pcs ((pre ++ [(⟨⟨⟨yb, yo, yg⟩, hy1⟩, hy2⟩ : {y : PcOf w // some y.1.b = A.map Addr.block})]).map Subtype.val)).map tk).flatten) = cur ++ [m] ++ yg := by
      rw [List.map_append, List.map_singleton, pcs_snoc, List.map_append, List.map_singleton, List.flatten_append, ← List.append_assoc, HCUR.out]
      simp [tk]
      exact HYL.out
    rw [e1, show (cur ++ [m] ++ yg).length = L + 1 + yg.length by rw [List.length_append, List.length_append, HLL.out]; rfl]
    exact HO6.out
  case done =>
    rintro D ys W hD hys ⟨v', he, hc, _⟩ hK
    rw [hys, HM.out, ← HLT.out] at he
    have hDw : w.heap.size ≤ D := by have := HZ2.out; rw [HH.out]; omega
    have HE := hid he
    have HC := hid hc
    have HK := hid hK
    clear he hc hK hys
    gi_wp2
    refine ⟨by simp, .inl ⟨_, _, rfl, run_takeDeferred HK.out, ?_⟩⟩
    exact ⟨_, results_none rfl _ _ _, ⟨_, rfl⟩, v', enc_put HE.out HK.out, chg_put HC.out hDw HK.out⟩
  case stop =>
    rintro D c pre W _ _ h _
    exact h.elim
end Go.Proofs.Ytldlddoealpomaa
