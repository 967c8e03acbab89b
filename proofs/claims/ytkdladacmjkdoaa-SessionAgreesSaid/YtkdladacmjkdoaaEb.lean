/- step. -/
import Derived.Test.YtkdladacmjkdoaaEa
namespace Go.Proofs.Ytkdladacmjkdoaa
open Go.RowKit Go.Lib
/-- What an end does in a step: 0 dials, 5 expires, 6 is closed, else one of the messages is received. -/
def actS (s : Ses) (sent : List Mes) (q wh now : Int) : Ses × List Mes :=
  if q = 0 then (if (dialR s now 3).2.2 = 0 then ((dialR s now 3).1, (dialR s now 3).2.1) else (s, []))
  else if q = 5 then expR s now 3
  else if q = 6 then closeR s
  else match sent[(wh % sent.length).toNat]? with
    | some m => recR s m
    | none => (s, [])
/-- What a step leaves: below base all is as it was, and so are rows of other types than messages. -/
def StpW (base : Nat) (w w' : World) : Prop := Below base w w' ∧ ∀ T, T ≠ 47 → Keep T w w'
def StepQ (base : Nat) (a b : Ses) (sent : List Mes) (w : World) (f : Ending) (w' : World) : Prop :=
  ∃ v, f = .returned (.tuple #[tv a b, v]) ∧ w'.ownsRow base 47 8 v sent.length (sent.map cM).flatten ∧ StpW base w w'
theorem results_t2 {fn : Func} {p u : Tmp} (h : fn.results = #[.cell p 54, .tmp u]) (tmps : Array Value) (w : World) (g : Nat) (T : TypeId) (a b : Ses)
    (hp : tmps.getD p undef = .pointer (some ⟨g, 0, none⟩)) (hh : w.heap[g]? = some (.cells (cT a b) T)) (z : Value) (hz : tmps.getD u undef = z) :
    (results fn tmps).run Try.prog w = .ok (.tuple #[tv a b, z]) w := results_t1 h tmps w g T a b hp hh z hz
theorem own_msgs {w : World} {base n : Nat} {v : Value} {l : List Mes} (h : w.ownsRow base 47 8 v n (l.map cM).flatten) (hn : l.length = n) : Msgs w v l :=
  ⟨ownAny_nilOk h, arr_of_own h (by rw [List.length_map]; exact hn) (fun r hr => by obtain ⟨s, _, rfl⟩ := List.mem_map.1 hr; rfl)⟩
theorem keepT_set12 {w : World} {g : Nat} {x y : Ses} {T T' : TypeId} (a b : Ses) (h : w.heap[g]? = some (.cells (cT x y) T')) (hT : T ≠ T') : Keep T w (set12 w g a b) := fun k cs hk => by
  have hne : k ≠ g := fun e => by
    subst e
    rw [h] at hk
    injection hk with hk
    injection hk with _ h2
    exact hT h2.symm
  have k1 : ∀ {W : World} (i : Nat) (v : Value), W.heap[k]? = some (.cells cs T) → (W.setCell ⟨g, i, none⟩ v).heap[k]? = some (.cells cs T) := fun _ _ hW => (Below.heap_setCell _ _ _ _ hne).trans hW
  exact k1 11 _ (k1 10 _ (k1 9 _ (k1 8 _ (k1 7 _ (k1 6 _ (k1 5 _ (k1 4 _ (k1 3 _ (k1 2 _ (k1 1 _ (k1 0 _ hk)))))))))))
theorem keepO_set12 {w w0 : World} {g : Nat} {T : TypeId} (a b : Ses) (h : Keep T w0 w) (hg : w0.heap.size ≤ g) : Keep T w0 (set12 w g a b) := fun k cs hk => by
  have hne : k ≠ g := by have := box_lt hk; omega
  have k1 : ∀ {W : World} (i : Nat) (v : Value), W.heap[k]? = some (.cells cs T) → (W.setCell ⟨g, i, none⟩ v).heap[k]? = some (.cells cs T) := fun _ _ hW => (Below.heap_setCell _ _ _ _ hne).trans hW
  exact k1 11 _ (k1 10 _ (k1 9 _ (k1 8 _ (k1 7 _ (k1 6 _ (k1 5 _ (k1 4 _ (k1 3 _ (k1 2 _ (k1 1 _ (k1 0 _ (h _ _ hk))))))))))))
theorem old_al2 {w : World} {g : Nat} {o : Obj} (h : w.heap[g]? = some o) (x : Obj) : (w.alloc x).heap[g]? = some o := (Below.heap_alloc _ _ _ (box_lt h)).trans h
theorem new_three2 (w : World) (x y z : Obj) : (((w.alloc x).alloc y).alloc z).heap[w.heap.size + 2]? = some z := by
  have h := new_two (w.alloc x) y z
  rwa [World.size_alloc] at h
theorem lo_h {w : World} {g : Nat} {T : TypeId} {a b : Ses} (x : Ses) (h : w.heap[g]? = some (.cells (cT a b) T)) : (set6 w g x).heap[g]? = some (.cells (cT x b) T) := by
  have h0 := bs [.int .i64 a.l, .int .i64 a.r, .int .i64 a.e, .int .i64 a.n, .int .i64 a.p, .int .i64 a.d, .int .i64 b.l, .int .i64 b.r, .int .i64 b.e, .int .i64 b.n, .int .i64 b.p, .int .i64 b.d] h 0 (.int .i64 x.l)
  have h1 := bs _ h0 1 (.int .i64 x.r)
  have h2 := bs _ h1 2 (.int .i64 x.e)
  have h3 := bs _ h2 3 (.int .i64 x.n)
  have h4 := bs _ h3 4 (.int .i64 x.p)
  exact bs _ h4 5 (.int .i64 x.d)
abbrev setHi (w : World) (g : Nat) (b : Ses) : World := (((((w.setCell ⟨g, 6, none⟩ (.int .i64 b.l)).setCell ⟨g, 7, none⟩ (.int .i64 b.r)).setCell ⟨g, 8, none⟩ (.int .i64 b.e)).setCell ⟨g, 9, none⟩ (.int .i64 b.n)).setCell ⟨g, 10, none⟩ (.int .i64 b.p)).setCell ⟨g, 11, none⟩ (.int .i64 b.d)
theorem hi_h {w : World} {g : Nat} {T : TypeId} {a b : Ses} (x : Ses) (h : w.heap[g]? = some (.cells (cT a b) T)) : (setHi w g x).heap[g]? = some (.cells (cT a x) T) := by
  have h0 := bs [.int .i64 a.l, .int .i64 a.r, .int .i64 a.e, .int .i64 a.n, .int .i64 a.p, .int .i64 a.d, .int .i64 b.l, .int .i64 b.r, .int .i64 b.e, .int .i64 b.n, .int .i64 b.p, .int .i64 b.d] h 6 (.int .i64 x.l)
  have h1 := bs _ h0 7 (.int .i64 x.r)
  have h2 := bs _ h1 8 (.int .i64 x.e)
  have h3 := bs _ h2 9 (.int .i64 x.n)
  have h4 := bs _ h3 10 (.int .i64 x.p)
  exact bs _ h4 11 (.int .i64 x.d)
theorem hi_b {B : Nat} {w0 w : World} {g : Nat} (s : Ses) (h : Below B w0 w) (hg : B ≤ g) : Below B w0 (setHi w g s) :=
  (((((h.setCell hg _).setCell hg _).setCell hg _).setCell hg _).setCell hg _).setCell hg _
theorem kset {T : TypeId} {g : Nat} {k : Nat} {cs : Array Value} (hne : k ≠ g) : ∀ {W : World} (i : Nat) (v : Value), W.heap[k]? = some (.cells cs T) → (W.setCell ⟨g, i, none⟩ v).heap[k]? = some (.cells cs T) := fun _ _ hW => (Below.heap_setCell _ _ _ _ hne).trans hW
theorem lo_keep {w : World} {g : Nat} {x y : Ses} {T T' : TypeId} (a : Ses) (h : w.heap[g]? = some (.cells (cT x y) T')) (hT : T ≠ T') : Keep T w (set6 w g a) := fun k cs hk => by
  have hne : k ≠ g := fun e => by
    subst e
    rw [h] at hk
    injection hk with hk
    injection hk with _ h2
    exact hT h2.symm
  exact kset hne 5 _ (kset hne 4 _ (kset hne 3 _ (kset hne 2 _ (kset hne 1 _ (kset hne 0 _ hk)))))
theorem hi_keep {w : World} {g : Nat} {x y : Ses} {T T' : TypeId} (a : Ses) (h : w.heap[g]? = some (.cells (cT x y) T')) (hT : T ≠ T') : Keep T w (setHi w g a) := fun k cs hk => by
  have hne : k ≠ g := fun e => by
    subst e
    rw [h] at hk
    injection hk with hk
    injection hk with _ h2
    exact hT h2.symm
  exact kset hne 11 _ (kset hne 10 _ (kset hne 9 _ (kset hne 8 _ (kset hne 7 _ (kset hne 6 _ hk)))))
theorem lo_off {w : World} {g k : Nat} {o : Obj} (x : Ses) (hne : k ≠ g) (h : w.heap[k]? = some o) : (set6 w g x).heap[k]? = some o :=
  have k1 : ∀ {W : World} (i : Nat) (v : Value), W.heap[k]? = some o → (W.setCell ⟨g, i, none⟩ v).heap[k]? = some o := fun _ _ hW => (Below.heap_setCell _ _ _ _ hne).trans hW
  k1 5 _ (k1 4 _ (k1 3 _ (k1 2 _ (k1 1 _ (k1 0 _ h)))))
theorem hi_off {w : World} {g k : Nat} {o : Obj} (x : Ses) (hne : k ≠ g) (h : w.heap[k]? = some o) : (setHi w g x).heap[k]? = some o :=
  have k1 : ∀ {W : World} (i : Nat) (v : Value), W.heap[k]? = some o → (W.setCell ⟨g, i, none⟩ v).heap[k]? = some o := fun _ _ hW => (Below.heap_setCell _ _ _ _ hne).trans hW
  k1 11 _ (k1 10 _ (k1 9 _ (k1 8 _ (k1 7 _ (k1 6 _ h)))))
theorem set_cell {w : World} {g p : Nat} (hp : p ≠ g) (i j : Nat) (v : Value) : (w.setCell ⟨g, j, none⟩ v).cell? ⟨p, i, none⟩ = w.cell? ⟨p, i, none⟩ := World.cell?_of_block (a := ⟨p, i, none⟩) (Below.heap_setCell _ _ _ _ hp)
theorem lo_cell {w : World} {g p : Nat} (x : Ses) (hp : p ≠ g) (i : Nat) : (set6 w g x).cell? ⟨p, i, none⟩ = w.cell? ⟨p, i, none⟩ :=
  (set_cell hp i 5 _).trans ((set_cell hp i 4 _).trans ((set_cell hp i 3 _).trans ((set_cell hp i 2 _).trans ((set_cell hp i 1 _).trans (set_cell hp i 0 _)))))
theorem hi_cell {w : World} {g p : Nat} (x : Ses) (hp : p ≠ g) (i : Nat) : (setHi w g x).cell? ⟨p, i, none⟩ = w.cell? ⟨p, i, none⟩ :=
  (set_cell hp i 11 _).trans ((set_cell hp i 10 _).trans ((set_cell hp i 9 _).trans ((set_cell hp i 8 _).trans ((set_cell hp i 7 _).trans (set_cell hp i 6 _)))))
theorem closeR_len (s : Ses) : (closeR s).2.length ≤ 1 := by unfold closeR; split <;> simp
theorem expR_len (s : Ses) (n q : Int) : (expR s n q).2.length ≤ 1 := by unfold expR; (repeat' split) <;> simp
theorem dialR_len (s : Ses) (n q : Int) : (dialR s n q).2.1.length ≤ 1 := by unfold dialR; (repeat' split) <;> simp
set_option maxHeartbeats 16000000 in
set_option maxRecDepth 100000 in
theorem step_close_f (a b : Ses) (sent : List Mes) (u : Value) (kd wh : Int) (now : Int) (base n : Nat) (w : World) (hbs : base ≤ w.heap.size) (hn : sent.length = n) (hnl : n ≤ 1000) (how : w.ownsRow base 47 8 u n (sent.map cM).flatten) (hkd : 0 ≤ kd ∧ kd ≤ 255) (_hwh : 0 ≤ wh ∧ wh ≤ 255) (hnow : 0 ≤ now ∧ now ≤ 1000) (hk : kd % 7 = 6) :
    Calls Try.prog 27 #[tv a b, u, .agg #[.int .u8 kd, .bool false, .int .u8 wh], .int .i64 now] w (StepQ base (actS a sent (kd % 7) wh now).1 b (sent ++ (actS a sent (kd % 7) wh now).2) w) := by
  obtain ⟨A0, c0, rfl⟩ := ownAny_form how
  obtain ⟨q, hq⟩ : ∃ q, kd % 7 = q := ⟨_, rfl⟩
  have tq : kd.tmod 7 = q := by rw [Int.tmod_eq_emod_of_nonneg hkd.1]; exact hq
  have wq : wrap64 q = q := w64 (by omega) (by omega)
  rw [hq]
  obtain ⟨g, hg⟩ : ∃ g, w.heap.size = g := ⟨_, rfl⟩
  obtain ⟨al, ar, ae, an, ap, ad⟩ := a
  obtain ⟨bl, br, be, bn, bp, bd⟩ := b
  obtain ⟨W0, hW⟩ : ∃ X, ((w.alloc (.cells (cT ⟨al, ar, ae, an, ap, ad⟩ ⟨bl, br, be, bn, bp, bd⟩) 54)).alloc (.cells #[.int .u8 kd, .bool false, .int .u8 wh] 61)).alloc (.cells (cT z6 z6) 54) = X := ⟨_, rfl⟩
  have kt : W0.heap[g]? = some (.cells (cT ⟨al, ar, ae, an, ap, ad⟩ ⟨bl, br, be, bn, bp, bd⟩) 54) := by rw [← hW, ← hg]; exact old_al2 (old_al2 (heap_alloc_new w _) _) _
  have km : W0.heap[g + 1]? = some (.cells #[.int .u8 kd, .bool false, .int .u8 wh] 61) := by rw [← hW, ← hg]; exact old_al2 (new_two w _ _) _
  have kr : W0.heap[g + 2]? = some (.cells (cT z6 z6) 54) := by rw [← hW, ← hg]; exact new_three2 w _ _ _
  have HB : Hid (Below g w W0) := hid (by rw [← hW, ← hg]; exact below_both (below_both (al1 w _) (al1 _ _)) (al1 _ _))
  have HSN : Hid (g ≤ W0.heap.size) := hid (Nat.le_of_lt (box_lt kt))
  have HG := hid hg
  have HKt := hid kt
  have HKm := hid km
  have HKr := hid kr
  have HBS := hid hbs
  have HLN := hid hn
  have HNL := hid hnl
  have HOW := hid how
  have HNOW : Hid (R64 now) := hid (by unfold R64; omega)
  obtain ⟨⟨t0, t1, t2, t3, t4, t5⟩, t6, t7, t8, t9, t10, t11⟩ := load12 kt
  simp only at t0 t1 t2 t3 t4 t5 t6 t7 t8 t9 t10 t11
  have m0 : W0.cell? ⟨g + 1, 0, none⟩ = some (.int .u8 kd) := cell_of_row _ _ 0 _ _ _ km
  have m1 : W0.cell? ⟨g + 1, 1, none⟩ = some (.bool false) := cell_of_row _ _ 1 _ _ _ km
  have m2 : W0.cell? ⟨g + 1, 2, none⟩ = some (.int .u8 wh) := cell_of_row _ _ 2 _ _ _ km
  have ft := box_fr kt
  unfold tv
  simp only [cT, z6] at hW
  have HWW := hid hW
  clear hg hW kt km kr hbs hn how hnl
  obtain ⟨⟨⟨xl, xr, xe, xn, xp, xd⟩, ms⟩, hx⟩ : ∃ r, closeR ⟨al, ar, ae, an, ap, ad⟩ = r := ⟨_, rfl⟩
  have h1 := fun W => closeS_any ⟨al, ar, ae, an, ap, ad⟩ W
  rw [hx] at h1
  have HC : Hid (∀ W, Calls Try.prog 22 #[.agg #[.int .i64 al, .int .i64 ar, .int .i64 ae, .int .i64 an, .int .i64 ap, .int .i64 ad]] W fun f w' => ∃ v, f = .returned (.tuple #[.agg #[.int .i64 xl, .int .i64 xr, .int .i64 xe, .int .i64 xn, .int .i64 xp, .int .i64 xd], v]) ∧ MsgQ W.heap.size w' v ms ∧ Below W.heap.size W w') := hid h1
  have HML : Hid (ms.length ≤ 1) := hid (by have h2 := closeR_len ⟨al, ar, ae, an, ap, ad⟩; rw [hx] at h2; exact h2)
  have hact : actS ⟨al, ar, ae, an, ap, ad⟩ sent 6 wh now = (⟨xl, xr, xe, xn, xp, xd⟩, ms) := by unfold actS; rw [if_neg (by decide), if_neg (by decide), if_pos rfl]; rw [hx]
  obtain rfl : q = 6 := by omega
  rw [hact]
  clear hact h1 hx hq
  go_enter Try.func27, Try.ntmps27
  go_upto_region 1 with fail
  rw [HWW.out, HG.out]
  clear HWW
  go_upto_region 16 with (go_at_call 22; (with_reducible refine (HC.out _).mono ?_); rintro _ wn ⟨v9, rfl, hm, hb⟩; have HMQ := hid (hm.keep (Nat.zero_le _) (fun _ _ _ h => h)); clear hm; have kt := (hb.block _ (box_lt HKt.out)).trans HKt.out; have km := (hb.block _ (box_lt HKm.out)).trans HKm.out; have kr := (hb.block _ (box_lt HKr.out)).trans HKr.out; have HKt := hid kt; have HKm := hid km; have HKr := hid kr; have HB := hid (HB.out.trans (hb.mono HSN.out)); have HSN := hid (Nat.le_trans HSN.out hb.size); obtain ⟨⟨t0, t1, t2, t3, t4, t5⟩, t6, t7, t8, t9, t10, t11⟩ := load12 kt; simp only at t0 t1 t2 t3 t4 t5 t6 t7 t8 t9 t10 t11; have ft := box_fr kt; clear hb kt km kr)
  obtain ⟨Wt, hWt⟩ : ∃ X, set6 wn g ⟨xl, xr, xe, xn, xp, xd⟩ = X := ⟨_, rfl⟩
  have HMS : Hid (Msgs Wt v9 ms) := hid (by rw [← hWt]; exact (HMQ.out.keepT (Nat.le_refl _) (lo_keep ⟨xl, xr, xe, xn, xp, xd⟩ HKt.out (by decide))).msgs)
  have HKr := hid (show Wt.heap[g + 2]? = some (.cells (cT z6 z6) 54) by rw [← hWt]; exact lo_off _ (by omega) HKr.out)
  have HB := hid (show Below g w Wt by rw [← hWt]; exact set6b ⟨xl, xr, xe, xn, xp, xd⟩ HB.out (Nat.le_refl _))
  have HKt := hid (show Wt.heap[g]? = some (.cells (cT ⟨xl, xr, xe, xn, xp, xd⟩ ⟨bl, br, be, bn, bp, bd⟩) 54) by rw [← hWt]; exact lo_h ⟨xl, xr, xe, xn, xp, xd⟩ HKt.out)
  have HWt := hid hWt
  simp only [set6] at HWt
  clear hWt t0 t1 t2 t3 t4 t5 t6 t7 t8 t9 t10 t11 ft m0 m1 m2
  rw [HWt.out]
  go_upto_region 16 with fail
  obtain ⟨X0, hX0⟩ : ∃ X, Wt.drew = X := ⟨_, rfl⟩
  have j1 : X0.heap[g]? = some (.cells (cT ⟨xl, xr, xe, xn, xp, xd⟩ ⟨bl, br, be, bn, bp, bd⟩) 54) := by rw [← hX0]; exact HKt.out
  have j2 : X0.heap[g + 2]? = some (.cells (cT z6 z6) 54) := by rw [← hX0]; exact HKr.out
  have HB0 : Hid (Below g w X0) := hid (by rw [← hX0]; exact below_drew HB.out)
  have HMM : Hid (Msgs X0 v9 ms) := hid (by rw [← hX0]; exact HMS.out)
  have J1 := hid j1
  have J2 := hid j2
  have hHeld : X0.cell? ⟨g, 0, none⟩ = some (.int .i64 xl) ∧ X0.cell? ⟨g, 1, none⟩ = some (.int .i64 xr) ∧ X0.cell? ⟨g, 2, none⟩ = some (.int .i64 xe) ∧ X0.cell? ⟨g, 3, none⟩ = some (.int .i64 xn) ∧ X0.cell? ⟨g, 4, none⟩ = some (.int .i64 xp) ∧ X0.cell? ⟨g, 5, none⟩ = some (.int .i64 xd) ∧ X0.cell? ⟨g, 6, none⟩ = some (.int .i64 bl) ∧ X0.cell? ⟨g, 7, none⟩ = some (.int .i64 br) ∧ X0.cell? ⟨g, 8, none⟩ = some (.int .i64 be) ∧ X0.cell? ⟨g, 9, none⟩ = some (.int .i64 bn) ∧ X0.cell? ⟨g, 10, none⟩ = some (.int .i64 bp) ∧ X0.cell? ⟨g, 11, none⟩ = some (.int .i64 bd) := by
    obtain ⟨⟨b0, b1, b2, b3, b4, b5⟩, r⟩ := load12 j1
    exact ⟨b0, b1, b2, b3, b4, b5, r⟩
  have HX0 := hid hX0
  clear hX0 j1 j2 
  refine region_tail 4 (fun X => X.cell? ⟨g, 0, none⟩ = some (.int .i64 xl) ∧ X.cell? ⟨g, 1, none⟩ = some (.int .i64 xr) ∧ X.cell? ⟨g, 2, none⟩ = some (.int .i64 xe) ∧ X.cell? ⟨g, 3, none⟩ = some (.int .i64 xn) ∧ X.cell? ⟨g, 4, none⟩ = some (.int .i64 xp) ∧ X.cell? ⟨g, 5, none⟩ = some (.int .i64 xd) ∧ X.cell? ⟨g, 6, none⟩ = some (.int .i64 bl) ∧ X.cell? ⟨g, 7, none⟩ = some (.int .i64 br) ∧ X.cell? ⟨g, 8, none⟩ = some (.int .i64 be) ∧ X.cell? ⟨g, 9, none⟩ = some (.int .i64 bn) ∧ X.cell? ⟨g, 10, none⟩ = some (.int .i64 bp) ∧ X.cell? ⟨g, 11, none⟩ = some (.int .i64 bd)) (by kernel_rfl) ?_
  rw [HX0.out]
  refine' wpAnyT_take (i := 0) (oi := ?oicf0) (v := ?vcf0) ?hicf0 (by kernel_rfl) (by kernel_rfl) ?hqcf0 ?hycf0 hHeld ?restcf0
  case hicf0 => (simp only [List.getElem?_toArray, List.getElem?_cons_zero]; rfl)
  case hqcf0 => exact fun _ _ _ h => h
  case hycf0 => (refine Or.inl ⟨by rfl, ?_⟩; intro w' hSw; (try dsimp only at hSw); go_simp; try with_reducible rfl)
  (try simp only [Act.put, List.setIfInBounds_toArray, List.set_cons_zero, List.set_cons_succ])
  refine' wpAnyT_take (i := 1) (oi := ?oicf1) (v := ?vcf1) ?hicf1 (by kernel_rfl) (by kernel_rfl) ?hqcf1 ?hycf1 hHeld ?restcf1
  case hicf1 => (simp only [List.getElem?_toArray, List.getElem?_cons_zero, List.getElem?_cons_succ]; rfl)
  case hqcf1 => exact fun _ _ _ h => h
  case hycf1 => (refine Or.inl ⟨by rfl, ?_⟩; intro w' hSw; (try dsimp only at hSw); go_simp; try with_reducible rfl)
  (try simp only [Act.put, List.setIfInBounds_toArray, List.set_cons_zero, List.set_cons_succ])
  refine' wpAnyT_take (i := 2) (oi := ?oicf2) (v := ?vcf2) ?hicf2 (by kernel_rfl) (by kernel_rfl) ?hqcf2 ?hycf2 hHeld ?restcf2
  case hicf2 => (simp only [List.getElem?_toArray, List.getElem?_cons_zero, List.getElem?_cons_succ]; rfl)
  case hqcf2 => exact fun _ _ _ h => h
  case hycf2 => (refine Or.inl ⟨by rfl, ?_⟩; intro w' hSw; (try dsimp only at hSw); go_simp; try with_reducible rfl)
  (try simp only [Act.put, List.setIfInBounds_toArray, List.set_cons_zero, List.set_cons_succ])
  refine' wpAnyT_one (i := 3) (o := ?oicf3) (by kernel_rfl) ?hicf3 (fun K hK => ?stcf3)
  case hicf3 => (simp only [List.getElem?_toArray, List.getElem?_cons_zero, List.getElem?_cons_succ]; rfl)
  refine step_append_mes rfl (.tmp 83) (.tmp 84) rfl base _ n _ rfl (own_keep HOW.out (keep_below (HB0.out.mono (by rw [HG.out]; exact Nat.le_refl _)))) ms v9 rfl HMM.out (by have := HNL.out; have := HML.out; omega) (by have := HBS.out; have := HB0.out.size; omega) ?_
  intro v8 X2 hown hgr
  have HK2 : Hid (∀ T, T ≠ 47 → Keep T X0 X2) := hid (fun T hT => keep_grown (own_keep HOW.out (keep_below (HB0.out.mono (by rw [HG.out]; exact Nat.le_refl _)))) hT hgr)
  have HP1 := hid (HK2.out 54 (by decide) _ _ J1.out)
  have HP2 := hid (HK2.out 54 (by decide) _ _ J2.out)
  have HB2 : Hid (Below base w X2) := hid (below_ownE (HB0.out.mono (by have := HBS.out; have := HG.out; omega)) (own_keep HOW.out (keep_below (HB0.out.mono (by rw [HG.out]; exact Nat.le_refl _)))) hgr (by have := HBS.out; have := HB0.out.size; omega) (Nat.le_refl _))
  have HOW2 := hid hown
  have hHeld : X2.cell? ⟨g, 0, none⟩ = some (.int .i64 xl) ∧ X2.cell? ⟨g, 1, none⟩ = some (.int .i64 xr) ∧ X2.cell? ⟨g, 2, none⟩ = some (.int .i64 xe) ∧ X2.cell? ⟨g, 3, none⟩ = some (.int .i64 xn) ∧ X2.cell? ⟨g, 4, none⟩ = some (.int .i64 xp) ∧ X2.cell? ⟨g, 5, none⟩ = some (.int .i64 xd) ∧ X2.cell? ⟨g, 6, none⟩ = some (.int .i64 bl) ∧ X2.cell? ⟨g, 7, none⟩ = some (.int .i64 br) ∧ X2.cell? ⟨g, 8, none⟩ = some (.int .i64 be) ∧ X2.cell? ⟨g, 9, none⟩ = some (.int .i64 bn) ∧ X2.cell? ⟨g, 10, none⟩ = some (.int .i64 bp) ∧ X2.cell? ⟨g, 11, none⟩ = some (.int .i64 bd) := by
    obtain ⟨⟨b0, b1, b2, b3, b4, b5⟩, r⟩ := load12 HP1.out
    exact ⟨b0, b1, b2, b3, b4, b5, r⟩
  clear hown hgr
  refine hK.out _ _ (fun _ => hHeld) ?_
  clear hK K
  (try simp only [Act.put, List.setIfInBounds_toArray, List.set_cons_zero, List.set_cons_succ])
  refine' wpAnyT_one (i := 4) (o := ?oicf4) (by kernel_rfl) ?hicf4 (fun K hK => ?stcf4)
  case hicf4 => (simp only [List.getElem?_toArray, List.getElem?_cons_zero, List.getElem?_cons_succ]; rfl)
  obtain ⟨⟨i0, i1, i2, i3, i4, i5⟩, i6, i7, i8, i9, i10, i11⟩ := load12 HP2.out
  simp only [z6] at i0 i1 i2 i3 i4 i5 i6 i7 i8 i9 i10 i11
  have ff := box_fr HP2.out
  go_simp
  obtain ⟨Y, hY⟩ : ∃ X, set12 X2 (g + 2) ⟨xl, xr, xe, xn, xp, xd⟩ ⟨bl, br, be, bn, bp, bd⟩ = X := ⟨_, rfl⟩
  have HY := hid hY
  simp only [set12, set6] at hY
  rw [hY]
  clear hY i0 i1 i2 i3 i4 i5 i6 i7 i8 i9 i10 i11 ff
  refine hK.out _ _ (fun h => absurd h (by decide)) ?_
  clear hK K
  (try simp only [Act.put, List.setIfInBounds_toArray, List.set_cons_zero, List.set_cons_succ])
  refine' wpAnyT_one (i := 5) (o := ?oicf5) (by kernel_rfl) ?hicf5 (fun K hK => ?stcf5)
  case hicf5 => (simp only [List.getElem?_toArray, List.getElem?_cons_zero, List.getElem?_cons_succ]; rfl)
  go_simp
  refine hK.out _ _ (fun h => absurd h (by decide)) ?_
  clear hK K
  (try simp only [Act.put, List.setIfInBounds_toArray, List.set_cons_zero, List.set_cons_succ])
  refine wpAnyT_done (by kernel_rfl) ?_ _
  go_wp2_with fail
  refine bodyPost_ret (results_t1 rfl _ _ (g + 2) 54 ⟨xl, xr, xe, xn, xp, xd⟩ ⟨bl, br, be, bn, bp, bd⟩ rfl (by rw [← HY.out]; exact set12h ⟨xl, xr, xe, xn, xp, xd⟩ ⟨bl, br, be, bn, bp, bd⟩ HP2.out) _ rfl) rfl ?_
  refine ⟨v8, rfl, ?_, ?_, fun T hT => ?_⟩
  · have e : ((sent ++ ms).map cM).flatten = (sent.map cM).flatten ++ ((ms).map cM).flatten := by rw [List.map_append, List.flatten_append]
    rw [e, List.length_append, HLN.out]
    exact own_keep HOW2.out (by rw [← HY.out]; exact keepT_set12 _ _ HP2.out (by decide))
  · rw [← HY.out]
    exact set12b _ _ HB2.out (by have := HBS.out; have := HG.out; omega)
  · rw [← HY.out]
    exact keepO_set12 _ _ (Keep.trans (keep_below (HB0.out.mono (by rw [HG.out]; exact Nat.le_refl _))) (HK2.out T hT)) (by have := HG.out; omega)
set_option maxHeartbeats 16000000 in
set_option maxRecDepth 100000 in
theorem step_exp_f (a b : Ses) (sent : List Mes) (u : Value) (kd wh : Int) (now : Int) (base n : Nat) (w : World) (hbs : base ≤ w.heap.size) (hn : sent.length = n) (hnl : n ≤ 1000) (how : w.ownsRow base 47 8 u n (sent.map cM).flatten) (hkd : 0 ≤ kd ∧ kd ≤ 255) (_hwh : 0 ≤ wh ∧ wh ≤ 255) (hnow : 0 ≤ now ∧ now ≤ 1000) (hk : kd % 7 = 5) :
    Calls Try.prog 27 #[tv a b, u, .agg #[.int .u8 kd, .bool false, .int .u8 wh], .int .i64 now] w (StepQ base (actS a sent (kd % 7) wh now).1 b (sent ++ (actS a sent (kd % 7) wh now).2) w) := by
  obtain ⟨A0, c0, rfl⟩ := ownAny_form how
  obtain ⟨q, hq⟩ : ∃ q, kd % 7 = q := ⟨_, rfl⟩
  have tq : kd.tmod 7 = q := by rw [Int.tmod_eq_emod_of_nonneg hkd.1]; exact hq
  have wq : wrap64 q = q := w64 (by omega) (by omega)
  rw [hq]
  obtain ⟨g, hg⟩ : ∃ g, w.heap.size = g := ⟨_, rfl⟩
  obtain ⟨al, ar, ae, an, ap, ad⟩ := a
  obtain ⟨bl, br, be, bn, bp, bd⟩ := b
  obtain ⟨W0, hW⟩ : ∃ X, ((w.alloc (.cells (cT ⟨al, ar, ae, an, ap, ad⟩ ⟨bl, br, be, bn, bp, bd⟩) 54)).alloc (.cells #[.int .u8 kd, .bool false, .int .u8 wh] 61)).alloc (.cells (cT z6 z6) 54) = X := ⟨_, rfl⟩
  have kt : W0.heap[g]? = some (.cells (cT ⟨al, ar, ae, an, ap, ad⟩ ⟨bl, br, be, bn, bp, bd⟩) 54) := by rw [← hW, ← hg]; exact old_al2 (old_al2 (heap_alloc_new w _) _) _
  have km : W0.heap[g + 1]? = some (.cells #[.int .u8 kd, .bool false, .int .u8 wh] 61) := by rw [← hW, ← hg]; exact old_al2 (new_two w _ _) _
  have kr : W0.heap[g + 2]? = some (.cells (cT z6 z6) 54) := by rw [← hW, ← hg]; exact new_three2 w _ _ _
  have HB : Hid (Below g w W0) := hid (by rw [← hW, ← hg]; exact below_both (below_both (al1 w _) (al1 _ _)) (al1 _ _))
  have HSN : Hid (g ≤ W0.heap.size) := hid (Nat.le_of_lt (box_lt kt))
  have HG := hid hg
  have HKt := hid kt
  have HKm := hid km
  have HKr := hid kr
  have HBS := hid hbs
  have HLN := hid hn
  have HNL := hid hnl
  have HOW := hid how
  have HNOW : Hid (R64 now) := hid (by unfold R64; omega)
  obtain ⟨⟨t0, t1, t2, t3, t4, t5⟩, t6, t7, t8, t9, t10, t11⟩ := load12 kt
  simp only at t0 t1 t2 t3 t4 t5 t6 t7 t8 t9 t10 t11
  have m0 : W0.cell? ⟨g + 1, 0, none⟩ = some (.int .u8 kd) := cell_of_row _ _ 0 _ _ _ km
  have m1 : W0.cell? ⟨g + 1, 1, none⟩ = some (.bool false) := cell_of_row _ _ 1 _ _ _ km
  have m2 : W0.cell? ⟨g + 1, 2, none⟩ = some (.int .u8 wh) := cell_of_row _ _ 2 _ _ _ km
  have ft := box_fr kt
  unfold tv
  simp only [cT, z6] at hW
  have HWW := hid hW
  clear hg hW kt km kr hbs hn how hnl
  obtain ⟨⟨⟨xl, xr, xe, xn, xp, xd⟩, ms⟩, hx⟩ : ∃ r, expR ⟨al, ar, ae, an, ap, ad⟩ now 3 = r := ⟨_, rfl⟩
  have h1 := fun W => expire_any ⟨al, ar, ae, an, ap, ad⟩ now 3 W HNOW.out
  rw [hx] at h1
  have HC : Hid (∀ W, Calls Try.prog 20 #[.agg #[.int .i64 al, .int .i64 ar, .int .i64 ae, .int .i64 an, .int .i64 ap, .int .i64 ad], .int .i64 now, .int .i64 3] W fun f w' => ∃ v, f = .returned (.tuple #[.agg #[.int .i64 xl, .int .i64 xr, .int .i64 xe, .int .i64 xn, .int .i64 xp, .int .i64 xd], v]) ∧ MsgQ W.heap.size w' v ms ∧ Below W.heap.size W w') := hid h1
  have HML : Hid (ms.length ≤ 1) := hid (by have h2 := expR_len ⟨al, ar, ae, an, ap, ad⟩ now 3; rw [hx] at h2; exact h2)
  have hact : actS ⟨al, ar, ae, an, ap, ad⟩ sent 5 wh now = (⟨xl, xr, xe, xn, xp, xd⟩, ms) := by unfold actS; rw [if_neg (by decide), if_pos rfl]; rw [hx]
  obtain rfl : q = 5 := by omega
  rw [hact]
  clear hact h1 hx hq
  go_enter Try.func27, Try.ntmps27
  go_upto_region 1 with fail
  rw [HWW.out, HG.out]
  clear HWW
  go_upto_region 16 with (go_at_call 20; (with_reducible refine (HC.out _).mono ?_); rintro _ wn ⟨v9, rfl, hm, hb⟩; have HMQ := hid (hm.keep (Nat.zero_le _) (fun _ _ _ h => h)); clear hm; have kt := (hb.block _ (box_lt HKt.out)).trans HKt.out; have km := (hb.block _ (box_lt HKm.out)).trans HKm.out; have kr := (hb.block _ (box_lt HKr.out)).trans HKr.out; have HKt := hid kt; have HKm := hid km; have HKr := hid kr; have HB := hid (HB.out.trans (hb.mono HSN.out)); have HSN := hid (Nat.le_trans HSN.out hb.size); obtain ⟨⟨t0, t1, t2, t3, t4, t5⟩, t6, t7, t8, t9, t10, t11⟩ := load12 kt; simp only at t0 t1 t2 t3 t4 t5 t6 t7 t8 t9 t10 t11; have ft := box_fr kt; clear hb kt km kr)
  obtain ⟨Wt, hWt⟩ : ∃ X, set6 wn g ⟨xl, xr, xe, xn, xp, xd⟩ = X := ⟨_, rfl⟩
  have HMS : Hid (Msgs Wt v9 ms) := hid (by rw [← hWt]; exact (HMQ.out.keepT (Nat.le_refl _) (lo_keep ⟨xl, xr, xe, xn, xp, xd⟩ HKt.out (by decide))).msgs)
  have HKr := hid (show Wt.heap[g + 2]? = some (.cells (cT z6 z6) 54) by rw [← hWt]; exact lo_off _ (by omega) HKr.out)
  have HB := hid (show Below g w Wt by rw [← hWt]; exact set6b ⟨xl, xr, xe, xn, xp, xd⟩ HB.out (Nat.le_refl _))
  have HKt := hid (show Wt.heap[g]? = some (.cells (cT ⟨xl, xr, xe, xn, xp, xd⟩ ⟨bl, br, be, bn, bp, bd⟩) 54) by rw [← hWt]; exact lo_h ⟨xl, xr, xe, xn, xp, xd⟩ HKt.out)
  have HWt := hid hWt
  simp only [set6] at HWt
  clear hWt t0 t1 t2 t3 t4 t5 t6 t7 t8 t9 t10 t11 ft m0 m1 m2
  rw [HWt.out]
  go_upto_region 16 with fail
  obtain ⟨X0, hX0⟩ : ∃ X, Wt.drew = X := ⟨_, rfl⟩
  have j1 : X0.heap[g]? = some (.cells (cT ⟨xl, xr, xe, xn, xp, xd⟩ ⟨bl, br, be, bn, bp, bd⟩) 54) := by rw [← hX0]; exact HKt.out
  have j2 : X0.heap[g + 2]? = some (.cells (cT z6 z6) 54) := by rw [← hX0]; exact HKr.out
  have HB0 : Hid (Below g w X0) := hid (by rw [← hX0]; exact below_drew HB.out)
  have HMM : Hid (Msgs X0 v9 ms) := hid (by rw [← hX0]; exact HMS.out)
  have J1 := hid j1
  have J2 := hid j2
  have hHeld : X0.cell? ⟨g, 0, none⟩ = some (.int .i64 xl) ∧ X0.cell? ⟨g, 1, none⟩ = some (.int .i64 xr) ∧ X0.cell? ⟨g, 2, none⟩ = some (.int .i64 xe) ∧ X0.cell? ⟨g, 3, none⟩ = some (.int .i64 xn) ∧ X0.cell? ⟨g, 4, none⟩ = some (.int .i64 xp) ∧ X0.cell? ⟨g, 5, none⟩ = some (.int .i64 xd) ∧ X0.cell? ⟨g, 6, none⟩ = some (.int .i64 bl) ∧ X0.cell? ⟨g, 7, none⟩ = some (.int .i64 br) ∧ X0.cell? ⟨g, 8, none⟩ = some (.int .i64 be) ∧ X0.cell? ⟨g, 9, none⟩ = some (.int .i64 bn) ∧ X0.cell? ⟨g, 10, none⟩ = some (.int .i64 bp) ∧ X0.cell? ⟨g, 11, none⟩ = some (.int .i64 bd) := by
    obtain ⟨⟨b0, b1, b2, b3, b4, b5⟩, r⟩ := load12 j1
    exact ⟨b0, b1, b2, b3, b4, b5, r⟩
  have HX0 := hid hX0
  clear hX0 j1 j2 
  refine region_tail 4 (fun X => X.cell? ⟨g, 0, none⟩ = some (.int .i64 xl) ∧ X.cell? ⟨g, 1, none⟩ = some (.int .i64 xr) ∧ X.cell? ⟨g, 2, none⟩ = some (.int .i64 xe) ∧ X.cell? ⟨g, 3, none⟩ = some (.int .i64 xn) ∧ X.cell? ⟨g, 4, none⟩ = some (.int .i64 xp) ∧ X.cell? ⟨g, 5, none⟩ = some (.int .i64 xd) ∧ X.cell? ⟨g, 6, none⟩ = some (.int .i64 bl) ∧ X.cell? ⟨g, 7, none⟩ = some (.int .i64 br) ∧ X.cell? ⟨g, 8, none⟩ = some (.int .i64 be) ∧ X.cell? ⟨g, 9, none⟩ = some (.int .i64 bn) ∧ X.cell? ⟨g, 10, none⟩ = some (.int .i64 bp) ∧ X.cell? ⟨g, 11, none⟩ = some (.int .i64 bd)) (by kernel_rfl) ?_
  rw [HX0.out]
  refine' wpAnyT_take (i := 0) (oi := ?oief0) (v := ?vef0) ?hief0 (by kernel_rfl) (by kernel_rfl) ?hqef0 ?hyef0 hHeld ?restef0
  case hief0 => (simp only [List.getElem?_toArray, List.getElem?_cons_zero]; rfl)
  case hqef0 => exact fun _ _ _ h => h
  case hyef0 => (refine Or.inl ⟨by rfl, ?_⟩; intro w' hSw; (try dsimp only at hSw); go_simp; try with_reducible rfl)
  (try simp only [Act.put, List.setIfInBounds_toArray, List.set_cons_zero, List.set_cons_succ])
  refine' wpAnyT_take (i := 1) (oi := ?oief1) (v := ?vef1) ?hief1 (by kernel_rfl) (by kernel_rfl) ?hqef1 ?hyef1 hHeld ?restef1
  case hief1 => (simp only [List.getElem?_toArray, List.getElem?_cons_zero, List.getElem?_cons_succ]; rfl)
  case hqef1 => exact fun _ _ _ h => h
  case hyef1 => (refine Or.inl ⟨by rfl, ?_⟩; intro w' hSw; (try dsimp only at hSw); go_simp; try with_reducible rfl)
  (try simp only [Act.put, List.setIfInBounds_toArray, List.set_cons_zero, List.set_cons_succ])
  refine' wpAnyT_take (i := 2) (oi := ?oief2) (v := ?vef2) ?hief2 (by kernel_rfl) (by kernel_rfl) ?hqef2 ?hyef2 hHeld ?restef2
  case hief2 => (simp only [List.getElem?_toArray, List.getElem?_cons_zero, List.getElem?_cons_succ]; rfl)
  case hqef2 => exact fun _ _ _ h => h
  case hyef2 => (refine Or.inl ⟨by rfl, ?_⟩; intro w' hSw; (try dsimp only at hSw); go_simp; try with_reducible rfl)
  (try simp only [Act.put, List.setIfInBounds_toArray, List.set_cons_zero, List.set_cons_succ])
  refine' wpAnyT_one (i := 3) (o := ?oief3) (by kernel_rfl) ?hief3 (fun K hK => ?stef3)
  case hief3 => (simp only [List.getElem?_toArray, List.getElem?_cons_zero, List.getElem?_cons_succ]; rfl)
  refine step_append_mes rfl (.tmp 83) (.tmp 84) rfl base _ n _ rfl (own_keep HOW.out (keep_below (HB0.out.mono (by rw [HG.out]; exact Nat.le_refl _)))) ms v9 rfl HMM.out (by have := HNL.out; have := HML.out; omega) (by have := HBS.out; have := HB0.out.size; omega) ?_
  intro v8 X2 hown hgr
  have HK2 : Hid (∀ T, T ≠ 47 → Keep T X0 X2) := hid (fun T hT => keep_grown (own_keep HOW.out (keep_below (HB0.out.mono (by rw [HG.out]; exact Nat.le_refl _)))) hT hgr)
  have HP1 := hid (HK2.out 54 (by decide) _ _ J1.out)
  have HP2 := hid (HK2.out 54 (by decide) _ _ J2.out)
  have HB2 : Hid (Below base w X2) := hid (below_ownE (HB0.out.mono (by have := HBS.out; have := HG.out; omega)) (own_keep HOW.out (keep_below (HB0.out.mono (by rw [HG.out]; exact Nat.le_refl _)))) hgr (by have := HBS.out; have := HB0.out.size; omega) (Nat.le_refl _))
  have HOW2 := hid hown
  have hHeld : X2.cell? ⟨g, 0, none⟩ = some (.int .i64 xl) ∧ X2.cell? ⟨g, 1, none⟩ = some (.int .i64 xr) ∧ X2.cell? ⟨g, 2, none⟩ = some (.int .i64 xe) ∧ X2.cell? ⟨g, 3, none⟩ = some (.int .i64 xn) ∧ X2.cell? ⟨g, 4, none⟩ = some (.int .i64 xp) ∧ X2.cell? ⟨g, 5, none⟩ = some (.int .i64 xd) ∧ X2.cell? ⟨g, 6, none⟩ = some (.int .i64 bl) ∧ X2.cell? ⟨g, 7, none⟩ = some (.int .i64 br) ∧ X2.cell? ⟨g, 8, none⟩ = some (.int .i64 be) ∧ X2.cell? ⟨g, 9, none⟩ = some (.int .i64 bn) ∧ X2.cell? ⟨g, 10, none⟩ = some (.int .i64 bp) ∧ X2.cell? ⟨g, 11, none⟩ = some (.int .i64 bd) := by
    obtain ⟨⟨b0, b1, b2, b3, b4, b5⟩, r⟩ := load12 HP1.out
    exact ⟨b0, b1, b2, b3, b4, b5, r⟩
  clear hown hgr
  refine hK.out _ _ (fun _ => hHeld) ?_
  clear hK K
  (try simp only [Act.put, List.setIfInBounds_toArray, List.set_cons_zero, List.set_cons_succ])
  refine' wpAnyT_one (i := 4) (o := ?oief4) (by kernel_rfl) ?hief4 (fun K hK => ?stef4)
  case hief4 => (simp only [List.getElem?_toArray, List.getElem?_cons_zero, List.getElem?_cons_succ]; rfl)
  obtain ⟨⟨i0, i1, i2, i3, i4, i5⟩, i6, i7, i8, i9, i10, i11⟩ := load12 HP2.out
  simp only [z6] at i0 i1 i2 i3 i4 i5 i6 i7 i8 i9 i10 i11
  have ff := box_fr HP2.out
  go_simp
  obtain ⟨Y, hY⟩ : ∃ X, set12 X2 (g + 2) ⟨xl, xr, xe, xn, xp, xd⟩ ⟨bl, br, be, bn, bp, bd⟩ = X := ⟨_, rfl⟩
  have HY := hid hY
  simp only [set12, set6] at hY
  rw [hY]
  clear hY i0 i1 i2 i3 i4 i5 i6 i7 i8 i9 i10 i11 ff
  refine hK.out _ _ (fun h => absurd h (by decide)) ?_
  clear hK K
  (try simp only [Act.put, List.setIfInBounds_toArray, List.set_cons_zero, List.set_cons_succ])
  refine' wpAnyT_one (i := 5) (o := ?oief5) (by kernel_rfl) ?hief5 (fun K hK => ?stef5)
  case hief5 => (simp only [List.getElem?_toArray, List.getElem?_cons_zero, List.getElem?_cons_succ]; rfl)
  go_simp
  refine hK.out _ _ (fun h => absurd h (by decide)) ?_
  clear hK K
  (try simp only [Act.put, List.setIfInBounds_toArray, List.set_cons_zero, List.set_cons_succ])
  refine wpAnyT_done (by kernel_rfl) ?_ _
  go_wp2_with fail
  refine bodyPost_ret (results_t1 rfl _ _ (g + 2) 54 ⟨xl, xr, xe, xn, xp, xd⟩ ⟨bl, br, be, bn, bp, bd⟩ rfl (by rw [← HY.out]; exact set12h ⟨xl, xr, xe, xn, xp, xd⟩ ⟨bl, br, be, bn, bp, bd⟩ HP2.out) _ rfl) rfl ?_
  refine ⟨v8, rfl, ?_, ?_, fun T hT => ?_⟩
  · have e : ((sent ++ ms).map cM).flatten = (sent.map cM).flatten ++ ((ms).map cM).flatten := by rw [List.map_append, List.flatten_append]
    rw [e, List.length_append, HLN.out]
    exact own_keep HOW2.out (by rw [← HY.out]; exact keepT_set12 _ _ HP2.out (by decide))
  · rw [← HY.out]
    exact set12b _ _ HB2.out (by have := HBS.out; have := HG.out; omega)
  · rw [← HY.out]
    exact keepO_set12 _ _ (Keep.trans (keep_below (HB0.out.mono (by rw [HG.out]; exact Nat.le_refl _))) (HK2.out T hT)) (by have := HG.out; omega)
set_option maxHeartbeats 16000000 in
set_option maxRecDepth 100000 in
theorem step_dial_f (a b : Ses) (sent : List Mes) (u : Value) (kd wh : Int) (now : Int) (base n : Nat) (w : World) (hbs : base ≤ w.heap.size) (hn : sent.length = n) (hnl : n ≤ 1000) (how : w.ownsRow base 47 8 u n (sent.map cM).flatten) (hkd : 0 ≤ kd ∧ kd ≤ 255) (_hwh : 0 ≤ wh ∧ wh ≤ 255) (hnow : 0 ≤ now ∧ now ≤ 1000) (hk : kd % 7 = 0) (her : (dialR a now 3).2.2 = 0) :
    Calls Try.prog 27 #[tv a b, u, .agg #[.int .u8 kd, .bool false, .int .u8 wh], .int .i64 now] w (StepQ base (actS a sent (kd % 7) wh now).1 b (sent ++ (actS a sent (kd % 7) wh now).2) w) := by
  obtain ⟨A0, c0, rfl⟩ := ownAny_form how
  obtain ⟨q, hq⟩ : ∃ q, kd % 7 = q := ⟨_, rfl⟩
  have tq : kd.tmod 7 = q := by rw [Int.tmod_eq_emod_of_nonneg hkd.1]; exact hq
  have wq : wrap64 q = q := w64 (by omega) (by omega)
  rw [hq]
  obtain ⟨g, hg⟩ : ∃ g, w.heap.size = g := ⟨_, rfl⟩
  obtain ⟨al, ar, ae, an, ap, ad⟩ := a
  obtain ⟨bl, br, be, bn, bp, bd⟩ := b
  obtain ⟨W0, hW⟩ : ∃ X, ((w.alloc (.cells (cT ⟨al, ar, ae, an, ap, ad⟩ ⟨bl, br, be, bn, bp, bd⟩) 54)).alloc (.cells #[.int .u8 kd, .bool false, .int .u8 wh] 61)).alloc (.cells (cT z6 z6) 54) = X := ⟨_, rfl⟩
  have kt : W0.heap[g]? = some (.cells (cT ⟨al, ar, ae, an, ap, ad⟩ ⟨bl, br, be, bn, bp, bd⟩) 54) := by rw [← hW, ← hg]; exact old_al2 (old_al2 (heap_alloc_new w _) _) _
  have km : W0.heap[g + 1]? = some (.cells #[.int .u8 kd, .bool false, .int .u8 wh] 61) := by rw [← hW, ← hg]; exact old_al2 (new_two w _ _) _
  have kr : W0.heap[g + 2]? = some (.cells (cT z6 z6) 54) := by rw [← hW, ← hg]; exact new_three2 w _ _ _
  have HB : Hid (Below g w W0) := hid (by rw [← hW, ← hg]; exact below_both (below_both (al1 w _) (al1 _ _)) (al1 _ _))
  have HSN : Hid (g ≤ W0.heap.size) := hid (Nat.le_of_lt (box_lt kt))
  have HG := hid hg
  have HKt := hid kt
  have HKm := hid km
  have HKr := hid kr
  have HBS := hid hbs
  have HLN := hid hn
  have HNL := hid hnl
  have HOW := hid how
  have HNOW : Hid (R64 now) := hid (by unfold R64; omega)
  obtain ⟨⟨t0, t1, t2, t3, t4, t5⟩, t6, t7, t8, t9, t10, t11⟩ := load12 kt
  simp only at t0 t1 t2 t3 t4 t5 t6 t7 t8 t9 t10 t11
  have m0 : W0.cell? ⟨g + 1, 0, none⟩ = some (.int .u8 kd) := cell_of_row _ _ 0 _ _ _ km
  have m1 : W0.cell? ⟨g + 1, 1, none⟩ = some (.bool false) := cell_of_row _ _ 1 _ _ _ km
  have m2 : W0.cell? ⟨g + 1, 2, none⟩ = some (.int .u8 wh) := cell_of_row _ _ 2 _ _ _ km
  have ft := box_fr kt
  unfold tv
  simp only [cT, z6] at hW
  have HWW := hid hW
  clear hg hW kt km kr hbs hn how hnl
  obtain ⟨⟨⟨xl, xr, xe, xn, xp, xd⟩, ms, er⟩, hx⟩ : ∃ r, dialR ⟨al, ar, ae, an, ap, ad⟩ now 3 = r := ⟨_, rfl⟩
  have h1 := fun W => dial_any ⟨al, ar, ae, an, ap, ad⟩ now 3 W
  rw [hx] at h1 her
  have HC : Hid (∀ W, Calls Try.prog 17 #[.agg #[.int .i64 al, .int .i64 ar, .int .i64 ae, .int .i64 an, .int .i64 ap, .int .i64 ad], .int .i64 now, .int .i64 3] W fun f w' => ∃ v, f = .returned (.tuple #[.agg #[.int .i64 xl, .int .i64 xr, .int .i64 xe, .int .i64 xn, .int .i64 xp, .int .i64 xd], v, .int .i64 er]) ∧ MsgQ W.heap.size w' v ms ∧ Below W.heap.size W w') := hid h1
  simp only at her
  subst her
  have HML : Hid (ms.length ≤ 1) := hid (by have h2 := dialR_len ⟨al, ar, ae, an, ap, ad⟩ now 3; rw [hx] at h2; exact h2)
  have hact : actS ⟨al, ar, ae, an, ap, ad⟩ sent 0 wh now = (⟨xl, xr, xe, xn, xp, xd⟩, ms) := by unfold actS; rw [if_pos rfl, hx]; rfl
  obtain rfl : q = 0 := by omega
  rw [hact]
  clear hact h1 hx hq
  go_enter Try.func27, Try.ntmps27
  go_upto_region 1 with fail
  rw [HWW.out, HG.out]
  clear HWW
  go_upto_region 10 with (go_at_call 17; (with_reducible refine (HC.out _).mono ?_); rintro _ wn ⟨v9, rfl, hm, hb⟩; have HMQ := hid (hm.keep (Nat.zero_le _) (fun _ _ _ h => h)); clear hm; have kt := (hb.block _ (box_lt HKt.out)).trans HKt.out; have km := (hb.block _ (box_lt HKm.out)).trans HKm.out; have kr := (hb.block _ (box_lt HKr.out)).trans HKr.out; have HKt := hid kt; have HKm := hid km; have HKr := hid kr; have HB := hid (HB.out.trans (hb.mono HSN.out)); have HSN := hid (Nat.le_trans HSN.out hb.size); obtain ⟨⟨t0, t1, t2, t3, t4, t5⟩, t6, t7, t8, t9, t10, t11⟩ := load12 kt; simp only at t0 t1 t2 t3 t4 t5 t6 t7 t8 t9 t10 t11; have ft := box_fr kt; clear hb kt km kr)
  obtain ⟨gx, hgx⟩ : ∃ h, wn.heap.size = h := ⟨_, rfl⟩
  obtain ⟨W1, hW1⟩ : ∃ X, wn.alloc (.cells (cS ⟨xl, xr, xe, xn, xp, xd⟩) 23) = X := ⟨_, rfl⟩
  have kx : W1.heap[gx]? = some (.cells (cS ⟨xl, xr, xe, xn, xp, xd⟩) 23) := by rw [← hW1, ← hgx]; exact heap_alloc_new _ _
  have kt : W1.heap[g]? = some (.cells (cT ⟨al, ar, ae, an, ap, ad⟩ ⟨bl, br, be, bn, bp, bd⟩) 54) := by rw [← hW1]; exact old_al2 HKt.out _
  have kr : W1.heap[g + 2]? = some (.cells (cT z6 z6) 54) := by rw [← hW1]; exact old_al2 HKr.out _
  have HMQ := hid (show MsgQ 0 W1 v9 ms by rw [← hW1]; exact HMQ.out.below (Nat.zero_le _) (al1 _ _))
  have HB := hid (show Below g w W1 by rw [← hW1]; exact HB.out.alloc HSN.out _)
  have HKt := hid kt
  have HKr := hid kr
  clear t0 t1 t2 t3 t4 t5 t6 t7 t8 t9 t10 t11 ft m0 m1 m2
  obtain ⟨⟨t0, t1, t2, t3, t4, t5⟩, t6, t7, t8, t9, t10, t11⟩ := load12 kt
  simp only at t0 t1 t2 t3 t4 t5 t6 t7 t8 t9 t10 t11
  obtain ⟨c0', c1', c2', c3', c4', c5'⟩ := load6 kx
  simp only at c0' c1' c2' c3' c4' c5'
  have ft := box_fr kt
  have HGX := hid hgx
  have HW1 := hid hW1
  simp only [cS] at HW1
  clear hgx hW1 kx kt kr
  rw [HGX.out, HW1.out]
  go_upto_region 16 with fail
  obtain ⟨Wt, hWt⟩ : ∃ X, set6 W1 g ⟨xl, xr, xe, xn, xp, xd⟩ = X := ⟨_, rfl⟩
  have HMS : Hid (Msgs Wt v9 ms) := hid (by rw [← hWt]; exact (HMQ.out.keepT (Nat.le_refl _) (lo_keep ⟨xl, xr, xe, xn, xp, xd⟩ HKt.out (by decide))).msgs)
  have HKr := hid (show Wt.heap[g + 2]? = some (.cells (cT z6 z6) 54) by rw [← hWt]; exact lo_off _ (by omega) HKr.out)
  have HB := hid (show Below g w Wt by rw [← hWt]; exact set6b ⟨xl, xr, xe, xn, xp, xd⟩ HB.out (Nat.le_refl _))
  have HKt := hid (show Wt.heap[g]? = some (.cells (cT ⟨xl, xr, xe, xn, xp, xd⟩ ⟨bl, br, be, bn, bp, bd⟩) 54) by rw [← hWt]; exact lo_h ⟨xl, xr, xe, xn, xp, xd⟩ HKt.out)
  have HWt := hid hWt
  simp only [set6] at HWt
  clear hWt t0 t1 t2 t3 t4 t5 t6 t7 t8 t9 t10 t11 ft c0' c1' c2' c3' c4' c5'
  rw [HWt.out]
  go_upto_region 16 with fail
  obtain ⟨X0, hX0⟩ : ∃ X, Wt.drew = X := ⟨_, rfl⟩
  have j1 : X0.heap[g]? = some (.cells (cT ⟨xl, xr, xe, xn, xp, xd⟩ ⟨bl, br, be, bn, bp, bd⟩) 54) := by rw [← hX0]; exact HKt.out
  have j2 : X0.heap[g + 2]? = some (.cells (cT z6 z6) 54) := by rw [← hX0]; exact HKr.out
  have HB0 : Hid (Below g w X0) := hid (by rw [← hX0]; exact below_drew HB.out)
  have HMM : Hid (Msgs X0 v9 ms) := hid (by rw [← hX0]; exact HMS.out)
  have J1 := hid j1
  have J2 := hid j2
  have hHeld : X0.cell? ⟨g, 0, none⟩ = some (.int .i64 xl) ∧ X0.cell? ⟨g, 1, none⟩ = some (.int .i64 xr) ∧ X0.cell? ⟨g, 2, none⟩ = some (.int .i64 xe) ∧ X0.cell? ⟨g, 3, none⟩ = some (.int .i64 xn) ∧ X0.cell? ⟨g, 4, none⟩ = some (.int .i64 xp) ∧ X0.cell? ⟨g, 5, none⟩ = some (.int .i64 xd) ∧ X0.cell? ⟨g, 6, none⟩ = some (.int .i64 bl) ∧ X0.cell? ⟨g, 7, none⟩ = some (.int .i64 br) ∧ X0.cell? ⟨g, 8, none⟩ = some (.int .i64 be) ∧ X0.cell? ⟨g, 9, none⟩ = some (.int .i64 bn) ∧ X0.cell? ⟨g, 10, none⟩ = some (.int .i64 bp) ∧ X0.cell? ⟨g, 11, none⟩ = some (.int .i64 bd) := by
    obtain ⟨⟨b0, b1, b2, b3, b4, b5⟩, r⟩ := load12 j1
    exact ⟨b0, b1, b2, b3, b4, b5, r⟩
  have HX0 := hid hX0
  clear hX0 j1 j2 
  refine region_tail 4 (fun X => X.cell? ⟨g, 0, none⟩ = some (.int .i64 xl) ∧ X.cell? ⟨g, 1, none⟩ = some (.int .i64 xr) ∧ X.cell? ⟨g, 2, none⟩ = some (.int .i64 xe) ∧ X.cell? ⟨g, 3, none⟩ = some (.int .i64 xn) ∧ X.cell? ⟨g, 4, none⟩ = some (.int .i64 xp) ∧ X.cell? ⟨g, 5, none⟩ = some (.int .i64 xd) ∧ X.cell? ⟨g, 6, none⟩ = some (.int .i64 bl) ∧ X.cell? ⟨g, 7, none⟩ = some (.int .i64 br) ∧ X.cell? ⟨g, 8, none⟩ = some (.int .i64 be) ∧ X.cell? ⟨g, 9, none⟩ = some (.int .i64 bn) ∧ X.cell? ⟨g, 10, none⟩ = some (.int .i64 bp) ∧ X.cell? ⟨g, 11, none⟩ = some (.int .i64 bd)) (by kernel_rfl) ?_
  rw [HX0.out]
  refine' wpAnyT_take (i := 0) (oi := ?oidf0) (v := ?vdf0) ?hidf0 (by kernel_rfl) (by kernel_rfl) ?hqdf0 ?hydf0 hHeld ?restdf0
  case hidf0 => (simp only [List.getElem?_toArray, List.getElem?_cons_zero]; rfl)
  case hqdf0 => exact fun _ _ _ h => h
  case hydf0 => (refine Or.inl ⟨by rfl, ?_⟩; intro w' hSw; (try dsimp only at hSw); go_simp; try with_reducible rfl)
  (try simp only [Act.put, List.setIfInBounds_toArray, List.set_cons_zero, List.set_cons_succ])
  refine' wpAnyT_take (i := 1) (oi := ?oidf1) (v := ?vdf1) ?hidf1 (by kernel_rfl) (by kernel_rfl) ?hqdf1 ?hydf1 hHeld ?restdf1
  case hidf1 => (simp only [List.getElem?_toArray, List.getElem?_cons_zero, List.getElem?_cons_succ]; rfl)
  case hqdf1 => exact fun _ _ _ h => h
  case hydf1 => (refine Or.inl ⟨by rfl, ?_⟩; intro w' hSw; (try dsimp only at hSw); go_simp; try with_reducible rfl)
  (try simp only [Act.put, List.setIfInBounds_toArray, List.set_cons_zero, List.set_cons_succ])
  refine' wpAnyT_take (i := 2) (oi := ?oidf2) (v := ?vdf2) ?hidf2 (by kernel_rfl) (by kernel_rfl) ?hqdf2 ?hydf2 hHeld ?restdf2
  case hidf2 => (simp only [List.getElem?_toArray, List.getElem?_cons_zero, List.getElem?_cons_succ]; rfl)
  case hqdf2 => exact fun _ _ _ h => h
  case hydf2 => (refine Or.inl ⟨by rfl, ?_⟩; intro w' hSw; (try dsimp only at hSw); go_simp; try with_reducible rfl)
  (try simp only [Act.put, List.setIfInBounds_toArray, List.set_cons_zero, List.set_cons_succ])
  refine' wpAnyT_one (i := 3) (o := ?oidf3) (by kernel_rfl) ?hidf3 (fun K hK => ?stdf3)
  case hidf3 => (simp only [List.getElem?_toArray, List.getElem?_cons_zero, List.getElem?_cons_succ]; rfl)
  refine step_append_mes rfl (.tmp 83) (.tmp 84) rfl base _ n _ rfl (own_keep HOW.out (keep_below (HB0.out.mono (by rw [HG.out]; exact Nat.le_refl _)))) ms v9 rfl HMM.out (by have := HNL.out; have := HML.out; omega) (by have := HBS.out; have := HB0.out.size; omega) ?_
  intro v8 X2 hown hgr
  have HK2 : Hid (∀ T, T ≠ 47 → Keep T X0 X2) := hid (fun T hT => keep_grown (own_keep HOW.out (keep_below (HB0.out.mono (by rw [HG.out]; exact Nat.le_refl _)))) hT hgr)
  have HP1 := hid (HK2.out 54 (by decide) _ _ J1.out)
  have HP2 := hid (HK2.out 54 (by decide) _ _ J2.out)
  have HB2 : Hid (Below base w X2) := hid (below_ownE (HB0.out.mono (by have := HBS.out; have := HG.out; omega)) (own_keep HOW.out (keep_below (HB0.out.mono (by rw [HG.out]; exact Nat.le_refl _)))) hgr (by have := HBS.out; have := HB0.out.size; omega) (Nat.le_refl _))
  have HOW2 := hid hown
  have hHeld : X2.cell? ⟨g, 0, none⟩ = some (.int .i64 xl) ∧ X2.cell? ⟨g, 1, none⟩ = some (.int .i64 xr) ∧ X2.cell? ⟨g, 2, none⟩ = some (.int .i64 xe) ∧ X2.cell? ⟨g, 3, none⟩ = some (.int .i64 xn) ∧ X2.cell? ⟨g, 4, none⟩ = some (.int .i64 xp) ∧ X2.cell? ⟨g, 5, none⟩ = some (.int .i64 xd) ∧ X2.cell? ⟨g, 6, none⟩ = some (.int .i64 bl) ∧ X2.cell? ⟨g, 7, none⟩ = some (.int .i64 br) ∧ X2.cell? ⟨g, 8, none⟩ = some (.int .i64 be) ∧ X2.cell? ⟨g, 9, none⟩ = some (.int .i64 bn) ∧ X2.cell? ⟨g, 10, none⟩ = some (.int .i64 bp) ∧ X2.cell? ⟨g, 11, none⟩ = some (.int .i64 bd) := by
    obtain ⟨⟨b0, b1, b2, b3, b4, b5⟩, r⟩ := load12 HP1.out
    exact ⟨b0, b1, b2, b3, b4, b5, r⟩
  clear hown hgr
  refine hK.out _ _ (fun _ => hHeld) ?_
  clear hK K
  (try simp only [Act.put, List.setIfInBounds_toArray, List.set_cons_zero, List.set_cons_succ])
  refine' wpAnyT_one (i := 4) (o := ?oidf4) (by kernel_rfl) ?hidf4 (fun K hK => ?stdf4)
  case hidf4 => (simp only [List.getElem?_toArray, List.getElem?_cons_zero, List.getElem?_cons_succ]; rfl)
  obtain ⟨⟨i0, i1, i2, i3, i4, i5⟩, i6, i7, i8, i9, i10, i11⟩ := load12 HP2.out
  simp only [z6] at i0 i1 i2 i3 i4 i5 i6 i7 i8 i9 i10 i11
  have ff := box_fr HP2.out
  go_simp
  obtain ⟨Y, hY⟩ : ∃ X, set12 X2 (g + 2) ⟨xl, xr, xe, xn, xp, xd⟩ ⟨bl, br, be, bn, bp, bd⟩ = X := ⟨_, rfl⟩
  have HY := hid hY
  simp only [set12, set6] at hY
  rw [hY]
  clear hY i0 i1 i2 i3 i4 i5 i6 i7 i8 i9 i10 i11 ff
  refine hK.out _ _ (fun h => absurd h (by decide)) ?_
  clear hK K
  (try simp only [Act.put, List.setIfInBounds_toArray, List.set_cons_zero, List.set_cons_succ])
  refine' wpAnyT_one (i := 5) (o := ?oidf5) (by kernel_rfl) ?hidf5 (fun K hK => ?stdf5)
  case hidf5 => (simp only [List.getElem?_toArray, List.getElem?_cons_zero, List.getElem?_cons_succ]; rfl)
  go_simp
  refine hK.out _ _ (fun h => absurd h (by decide)) ?_
  clear hK K
  (try simp only [Act.put, List.setIfInBounds_toArray, List.set_cons_zero, List.set_cons_succ])
  refine wpAnyT_done (by kernel_rfl) ?_ _
  go_wp2_with fail
  refine bodyPost_ret (results_t1 rfl _ _ (g + 2) 54 ⟨xl, xr, xe, xn, xp, xd⟩ ⟨bl, br, be, bn, bp, bd⟩ rfl (by rw [← HY.out]; exact set12h ⟨xl, xr, xe, xn, xp, xd⟩ ⟨bl, br, be, bn, bp, bd⟩ HP2.out) _ rfl) rfl ?_
  refine ⟨v8, rfl, ?_, ?_, fun T hT => ?_⟩
  · have e : ((sent ++ ms).map cM).flatten = (sent.map cM).flatten ++ ((ms).map cM).flatten := by rw [List.map_append, List.flatten_append]
    rw [e, List.length_append, HLN.out]
    exact own_keep HOW2.out (by rw [← HY.out]; exact keepT_set12 _ _ HP2.out (by decide))
  · rw [← HY.out]
    exact set12b _ _ HB2.out (by have := HBS.out; have := HG.out; omega)
  · rw [← HY.out]
    exact keepO_set12 _ _ (Keep.trans (keep_below (HB0.out.mono (by rw [HG.out]; exact Nat.le_refl _))) (HK2.out T hT)) (by have := HG.out; omega)
set_option maxHeartbeats 16000000 in
set_option maxRecDepth 100000 in
theorem step_dialn_f (a b : Ses) (sent : List Mes) (u : Value) (kd wh : Int) (now : Int) (base n : Nat) (w : World) (hbs : base ≤ w.heap.size) (hn : sent.length = n) (hnl : n ≤ 1000) (how : w.ownsRow base 47 8 u n (sent.map cM).flatten) (hkd : 0 ≤ kd ∧ kd ≤ 255) (_hwh : 0 ≤ wh ∧ wh ≤ 255) (hnow : 0 ≤ now ∧ now ≤ 1000) (hk : kd % 7 = 0) (her : ¬ (dialR a now 3).2.2 = 0) :
    Calls Try.prog 27 #[tv a b, u, .agg #[.int .u8 kd, .bool false, .int .u8 wh], .int .i64 now] w (StepQ base (actS a sent (kd % 7) wh now).1 b (sent ++ (actS a sent (kd % 7) wh now).2) w) := by
  obtain ⟨A0, c0, rfl⟩ := ownAny_form how
  obtain ⟨q, hq⟩ : ∃ q, kd % 7 = q := ⟨_, rfl⟩
  have tq : kd.tmod 7 = q := by rw [Int.tmod_eq_emod_of_nonneg hkd.1]; exact hq
  have wq : wrap64 q = q := w64 (by omega) (by omega)
  rw [hq]
  obtain ⟨g, hg⟩ : ∃ g, w.heap.size = g := ⟨_, rfl⟩
  obtain ⟨al, ar, ae, an, ap, ad⟩ := a
  obtain ⟨bl, br, be, bn, bp, bd⟩ := b
  obtain ⟨W0, hW⟩ : ∃ X, ((w.alloc (.cells (cT ⟨al, ar, ae, an, ap, ad⟩ ⟨bl, br, be, bn, bp, bd⟩) 54)).alloc (.cells #[.int .u8 kd, .bool false, .int .u8 wh] 61)).alloc (.cells (cT z6 z6) 54) = X := ⟨_, rfl⟩
  have kt : W0.heap[g]? = some (.cells (cT ⟨al, ar, ae, an, ap, ad⟩ ⟨bl, br, be, bn, bp, bd⟩) 54) := by rw [← hW, ← hg]; exact old_al2 (old_al2 (heap_alloc_new w _) _) _
  have km : W0.heap[g + 1]? = some (.cells #[.int .u8 kd, .bool false, .int .u8 wh] 61) := by rw [← hW, ← hg]; exact old_al2 (new_two w _ _) _
  have kr : W0.heap[g + 2]? = some (.cells (cT z6 z6) 54) := by rw [← hW, ← hg]; exact new_three2 w _ _ _
  have HB : Hid (Below g w W0) := hid (by rw [← hW, ← hg]; exact below_both (below_both (al1 w _) (al1 _ _)) (al1 _ _))
  have HSN : Hid (g ≤ W0.heap.size) := hid (Nat.le_of_lt (box_lt kt))
  have HG := hid hg
  have HKt := hid kt
  have HKm := hid km
  have HKr := hid kr
  have HBS := hid hbs
  have HLN := hid hn
  have HNL := hid hnl
  have HOW := hid how
  have HNOW : Hid (R64 now) := hid (by unfold R64; omega)
  obtain ⟨⟨t0, t1, t2, t3, t4, t5⟩, t6, t7, t8, t9, t10, t11⟩ := load12 kt
  simp only at t0 t1 t2 t3 t4 t5 t6 t7 t8 t9 t10 t11
  have m0 : W0.cell? ⟨g + 1, 0, none⟩ = some (.int .u8 kd) := cell_of_row _ _ 0 _ _ _ km
  have m1 : W0.cell? ⟨g + 1, 1, none⟩ = some (.bool false) := cell_of_row _ _ 1 _ _ _ km
  have m2 : W0.cell? ⟨g + 1, 2, none⟩ = some (.int .u8 wh) := cell_of_row _ _ 2 _ _ _ km
  have ft := box_fr kt
  unfold tv
  simp only [cT, z6] at hW
  have HWW := hid hW
  clear hg hW kt km kr hbs hn how hnl
  obtain ⟨⟨⟨xl, xr, xe, xn, xp, xd⟩, ms, er⟩, hx⟩ : ∃ r, dialR ⟨al, ar, ae, an, ap, ad⟩ now 3 = r := ⟨_, rfl⟩
  have h1 := fun W => dial_any ⟨al, ar, ae, an, ap, ad⟩ now 3 W
  rw [hx] at h1 her
  have HC : Hid (∀ W, Calls Try.prog 17 #[.agg #[.int .i64 al, .int .i64 ar, .int .i64 ae, .int .i64 an, .int .i64 ap, .int .i64 ad], .int .i64 now, .int .i64 3] W fun f w' => ∃ v, f = .returned (.tuple #[.agg #[.int .i64 xl, .int .i64 xr, .int .i64 xe, .int .i64 xn, .int .i64 xp, .int .i64 xd], v, .int .i64 er]) ∧ MsgQ W.heap.size w' v ms ∧ Below W.heap.size W w') := hid h1
  simp only at her
  have e0 : (er == 0) = false := by simp [her]
  have HML : Hid (([] : List Mes).length ≤ 1) := hid (by decide)
  have hact : actS ⟨al, ar, ae, an, ap, ad⟩ sent 0 wh now = (⟨al, ar, ae, an, ap, ad⟩, []) := by unfold actS; rw [if_pos rfl, hx]; exact if_neg her
  clear her
  obtain rfl : q = 0 := by omega
  rw [hact]
  clear hact h1 hx hq
  go_enter Try.func27, Try.ntmps27
  go_upto_region 1 with fail
  rw [HWW.out, HG.out]
  clear HWW
  go_upto_region 10 with (go_at_call 17; (with_reducible refine (HC.out _).mono ?_); rintro _ wn ⟨v9, rfl, hm, hb⟩; have HMQ := hid (hm.keep (Nat.zero_le _) (fun _ _ _ h => h)); clear hm; have kt := (hb.block _ (box_lt HKt.out)).trans HKt.out; have km := (hb.block _ (box_lt HKm.out)).trans HKm.out; have kr := (hb.block _ (box_lt HKr.out)).trans HKr.out; have HKt := hid kt; have HKm := hid km; have HKr := hid kr; have HB := hid (HB.out.trans (hb.mono HSN.out)); have HSN := hid (Nat.le_trans HSN.out hb.size); obtain ⟨⟨t0, t1, t2, t3, t4, t5⟩, t6, t7, t8, t9, t10, t11⟩ := load12 kt; simp only at t0 t1 t2 t3 t4 t5 t6 t7 t8 t9 t10 t11; have ft := box_fr kt; clear hb kt km kr)
  obtain ⟨gx, hgx⟩ : ∃ h, wn.heap.size = h := ⟨_, rfl⟩
  obtain ⟨W1, hW1⟩ : ∃ X, wn.alloc (.cells (cS ⟨xl, xr, xe, xn, xp, xd⟩) 23) = X := ⟨_, rfl⟩
  have kx : W1.heap[gx]? = some (.cells (cS ⟨xl, xr, xe, xn, xp, xd⟩) 23) := by rw [← hW1, ← hgx]; exact heap_alloc_new _ _
  have kt : W1.heap[g]? = some (.cells (cT ⟨al, ar, ae, an, ap, ad⟩ ⟨bl, br, be, bn, bp, bd⟩) 54) := by rw [← hW1]; exact old_al2 HKt.out _
  have kr : W1.heap[g + 2]? = some (.cells (cT z6 z6) 54) := by rw [← hW1]; exact old_al2 HKr.out _
  have HMQ := hid (show MsgQ 0 W1 v9 ms by rw [← hW1]; exact HMQ.out.below (Nat.zero_le _) (al1 _ _))
  have HB := hid (show Below g w W1 by rw [← hW1]; exact HB.out.alloc HSN.out _)
  have HKt := hid kt
  have HKr := hid kr
  clear t0 t1 t2 t3 t4 t5 t6 t7 t8 t9 t10 t11 ft m0 m1 m2
  obtain ⟨⟨t0, t1, t2, t3, t4, t5⟩, t6, t7, t8, t9, t10, t11⟩ := load12 kt
  simp only at t0 t1 t2 t3 t4 t5 t6 t7 t8 t9 t10 t11
  obtain ⟨c0', c1', c2', c3', c4', c5'⟩ := load6 kx
  simp only at c0' c1' c2' c3' c4' c5'
  have ft := box_fr kt
  have HGX := hid hgx
  have HW1 := hid hW1
  simp only [cS] at HW1
  clear hgx hW1 kx kt kr
  rw [HGX.out, HW1.out]
  go_upto_region 16 with fail
  have HMS : Hid (Msgs W1 (.slice none 0 0) []) := hid (msgs_nil W1)
  go_upto_region 16 with fail
  obtain ⟨X0, hX0⟩ : ∃ X, W1.drew = X := ⟨_, rfl⟩
  have j1 : X0.heap[g]? = some (.cells (cT ⟨al, ar, ae, an, ap, ad⟩ ⟨bl, br, be, bn, bp, bd⟩) 54) := by rw [← hX0]; exact HKt.out
  have j2 : X0.heap[g + 2]? = some (.cells (cT z6 z6) 54) := by rw [← hX0]; exact HKr.out
  have HB0 : Hid (Below g w X0) := hid (by rw [← hX0]; exact below_drew HB.out)
  have HMM : Hid (Msgs X0 (.slice none 0 0) []) := hid (by rw [← hX0]; exact HMS.out)
  have J1 := hid j1
  have J2 := hid j2
  have hHeld : X0.cell? ⟨g, 0, none⟩ = some (.int .i64 al) ∧ X0.cell? ⟨g, 1, none⟩ = some (.int .i64 ar) ∧ X0.cell? ⟨g, 2, none⟩ = some (.int .i64 ae) ∧ X0.cell? ⟨g, 3, none⟩ = some (.int .i64 an) ∧ X0.cell? ⟨g, 4, none⟩ = some (.int .i64 ap) ∧ X0.cell? ⟨g, 5, none⟩ = some (.int .i64 ad) ∧ X0.cell? ⟨g, 6, none⟩ = some (.int .i64 bl) ∧ X0.cell? ⟨g, 7, none⟩ = some (.int .i64 br) ∧ X0.cell? ⟨g, 8, none⟩ = some (.int .i64 be) ∧ X0.cell? ⟨g, 9, none⟩ = some (.int .i64 bn) ∧ X0.cell? ⟨g, 10, none⟩ = some (.int .i64 bp) ∧ X0.cell? ⟨g, 11, none⟩ = some (.int .i64 bd) := by
    obtain ⟨⟨b0, b1, b2, b3, b4, b5⟩, r⟩ := load12 j1
    exact ⟨b0, b1, b2, b3, b4, b5, r⟩
  have HX0 := hid hX0
  clear hX0 j1 j2 
  refine region_tail 4 (fun X => X.cell? ⟨g, 0, none⟩ = some (.int .i64 al) ∧ X.cell? ⟨g, 1, none⟩ = some (.int .i64 ar) ∧ X.cell? ⟨g, 2, none⟩ = some (.int .i64 ae) ∧ X.cell? ⟨g, 3, none⟩ = some (.int .i64 an) ∧ X.cell? ⟨g, 4, none⟩ = some (.int .i64 ap) ∧ X.cell? ⟨g, 5, none⟩ = some (.int .i64 ad) ∧ X.cell? ⟨g, 6, none⟩ = some (.int .i64 bl) ∧ X.cell? ⟨g, 7, none⟩ = some (.int .i64 br) ∧ X.cell? ⟨g, 8, none⟩ = some (.int .i64 be) ∧ X.cell? ⟨g, 9, none⟩ = some (.int .i64 bn) ∧ X.cell? ⟨g, 10, none⟩ = some (.int .i64 bp) ∧ X.cell? ⟨g, 11, none⟩ = some (.int .i64 bd)) (by kernel_rfl) ?_
  rw [HX0.out]
  refine' wpAnyT_take (i := 0) (oi := ?oief0) (v := ?vef0) ?hief0 (by kernel_rfl) (by kernel_rfl) ?hqef0 ?hyef0 hHeld ?restef0
  case hief0 => (simp only [List.getElem?_toArray, List.getElem?_cons_zero]; rfl)
  case hqef0 => exact fun _ _ _ h => h
  case hyef0 => (refine Or.inl ⟨by rfl, ?_⟩; intro w' hSw; (try dsimp only at hSw); go_simp; try with_reducible rfl)
  (try simp only [Act.put, List.setIfInBounds_toArray, List.set_cons_zero, List.set_cons_succ])
  refine' wpAnyT_take (i := 1) (oi := ?oief1) (v := ?vef1) ?hief1 (by kernel_rfl) (by kernel_rfl) ?hqef1 ?hyef1 hHeld ?restef1
  case hief1 => (simp only [List.getElem?_toArray, List.getElem?_cons_zero, List.getElem?_cons_succ]; rfl)
  case hqef1 => exact fun _ _ _ h => h
  case hyef1 => (refine Or.inl ⟨by rfl, ?_⟩; intro w' hSw; (try dsimp only at hSw); go_simp; try with_reducible rfl)
  (try simp only [Act.put, List.setIfInBounds_toArray, List.set_cons_zero, List.set_cons_succ])
  refine' wpAnyT_take (i := 2) (oi := ?oief2) (v := ?vef2) ?hief2 (by kernel_rfl) (by kernel_rfl) ?hqef2 ?hyef2 hHeld ?restef2
  case hief2 => (simp only [List.getElem?_toArray, List.getElem?_cons_zero, List.getElem?_cons_succ]; rfl)
  case hqef2 => exact fun _ _ _ h => h
  case hyef2 => (refine Or.inl ⟨by rfl, ?_⟩; intro w' hSw; (try dsimp only at hSw); go_simp; try with_reducible rfl)
  (try simp only [Act.put, List.setIfInBounds_toArray, List.set_cons_zero, List.set_cons_succ])
  refine' wpAnyT_one (i := 3) (o := ?oief3) (by kernel_rfl) ?hief3 (fun K hK => ?stef3)
  case hief3 => (simp only [List.getElem?_toArray, List.getElem?_cons_zero, List.getElem?_cons_succ]; rfl)
  refine step_append_mes rfl (.tmp 83) (.tmp 84) rfl base _ n _ rfl (own_keep HOW.out (keep_below (HB0.out.mono (by rw [HG.out]; exact Nat.le_refl _)))) [] (.slice none 0 0) rfl HMM.out (by have := HNL.out; have := HML.out; omega) (by have := HBS.out; have := HB0.out.size; omega) ?_
  intro v8 X2 hown hgr
  have HK2 : Hid (∀ T, T ≠ 47 → Keep T X0 X2) := hid (fun T hT => keep_grown (own_keep HOW.out (keep_below (HB0.out.mono (by rw [HG.out]; exact Nat.le_refl _)))) hT hgr)
  have HP1 := hid (HK2.out 54 (by decide) _ _ J1.out)
  have HP2 := hid (HK2.out 54 (by decide) _ _ J2.out)
  have HB2 : Hid (Below base w X2) := hid (below_ownE (HB0.out.mono (by have := HBS.out; have := HG.out; omega)) (own_keep HOW.out (keep_below (HB0.out.mono (by rw [HG.out]; exact Nat.le_refl _)))) hgr (by have := HBS.out; have := HB0.out.size; omega) (Nat.le_refl _))
  have HOW2 := hid hown
  have hHeld : X2.cell? ⟨g, 0, none⟩ = some (.int .i64 al) ∧ X2.cell? ⟨g, 1, none⟩ = some (.int .i64 ar) ∧ X2.cell? ⟨g, 2, none⟩ = some (.int .i64 ae) ∧ X2.cell? ⟨g, 3, none⟩ = some (.int .i64 an) ∧ X2.cell? ⟨g, 4, none⟩ = some (.int .i64 ap) ∧ X2.cell? ⟨g, 5, none⟩ = some (.int .i64 ad) ∧ X2.cell? ⟨g, 6, none⟩ = some (.int .i64 bl) ∧ X2.cell? ⟨g, 7, none⟩ = some (.int .i64 br) ∧ X2.cell? ⟨g, 8, none⟩ = some (.int .i64 be) ∧ X2.cell? ⟨g, 9, none⟩ = some (.int .i64 bn) ∧ X2.cell? ⟨g, 10, none⟩ = some (.int .i64 bp) ∧ X2.cell? ⟨g, 11, none⟩ = some (.int .i64 bd) := by
    obtain ⟨⟨b0, b1, b2, b3, b4, b5⟩, r⟩ := load12 HP1.out
    exact ⟨b0, b1, b2, b3, b4, b5, r⟩
  clear hown hgr
  refine hK.out _ _ (fun _ => hHeld) ?_
  clear hK K
  (try simp only [Act.put, List.setIfInBounds_toArray, List.set_cons_zero, List.set_cons_succ])
  refine' wpAnyT_one (i := 4) (o := ?oief4) (by kernel_rfl) ?hief4 (fun K hK => ?stef4)
  case hief4 => (simp only [List.getElem?_toArray, List.getElem?_cons_zero, List.getElem?_cons_succ]; rfl)
  obtain ⟨⟨i0, i1, i2, i3, i4, i5⟩, i6, i7, i8, i9, i10, i11⟩ := load12 HP2.out
  simp only [z6] at i0 i1 i2 i3 i4 i5 i6 i7 i8 i9 i10 i11
  have ff := box_fr HP2.out
  go_simp
  obtain ⟨Y, hY⟩ : ∃ X, set12 X2 (g + 2) ⟨al, ar, ae, an, ap, ad⟩ ⟨bl, br, be, bn, bp, bd⟩ = X := ⟨_, rfl⟩
  have HY := hid hY
  simp only [set12, set6] at hY
  rw [hY]
  clear hY i0 i1 i2 i3 i4 i5 i6 i7 i8 i9 i10 i11 ff
  refine hK.out _ _ (fun h => absurd h (by decide)) ?_
  clear hK K
  (try simp only [Act.put, List.setIfInBounds_toArray, List.set_cons_zero, List.set_cons_succ])
  refine' wpAnyT_one (i := 5) (o := ?oief5) (by kernel_rfl) ?hief5 (fun K hK => ?stef5)
  case hief5 => (simp only [List.getElem?_toArray, List.getElem?_cons_zero, List.getElem?_cons_succ]; rfl)
  go_simp
  refine hK.out _ _ (fun h => absurd h (by decide)) ?_
  clear hK K
  (try simp only [Act.put, List.setIfInBounds_toArray, List.set_cons_zero, List.set_cons_succ])
  refine wpAnyT_done (by kernel_rfl) ?_ _
  go_wp2_with fail
  refine bodyPost_ret (results_t1 rfl _ _ (g + 2) 54 ⟨al, ar, ae, an, ap, ad⟩ ⟨bl, br, be, bn, bp, bd⟩ rfl (by rw [← HY.out]; exact set12h ⟨al, ar, ae, an, ap, ad⟩ ⟨bl, br, be, bn, bp, bd⟩ HP2.out) _ rfl) rfl ?_
  refine ⟨v8, rfl, ?_, ?_, fun T hT => ?_⟩
  · have e : ((sent ++ []).map cM).flatten = (sent.map cM).flatten ++ (([]).map cM).flatten := by rw [List.map_append, List.flatten_append]
    rw [e, List.length_append, HLN.out]
    exact own_keep HOW2.out (by rw [← HY.out]; exact keepT_set12 _ _ HP2.out (by decide))
  · rw [← HY.out]
    exact set12b _ _ HB2.out (by have := HBS.out; have := HG.out; omega)
  · rw [← HY.out]
    exact keepO_set12 _ _ (Keep.trans (keep_below (HB0.out.mono (by rw [HG.out]; exact Nat.le_refl _))) (HK2.out T hT)) (by have := HG.out; omega)
set_option maxHeartbeats 16000000 in
set_option maxRecDepth 100000 in
theorem step_rec1_f (a b : Ses) (sent : List Mes) (u : Value) (kd wh : Int) (now : Int) (base n : Nat) (w : World) (hbs : base ≤ w.heap.size) (hn : sent.length = n) (hnl : n ≤ 1000) (how : w.ownsRow base 47 8 u n (sent.map cM).flatten) (hkd : 0 ≤ kd ∧ kd ≤ 255) (hwh : 0 ≤ wh ∧ wh ≤ 255) (hnow : 0 ≤ now ∧ now ≤ 1000) (hk : kd % 7 ≠ 0 ∧ kd % 7 ≠ 5 ∧ kd % 7 ≠ 6) (hn0 : 0 < n) :
    Calls Try.prog 27 #[tv a b, u, .agg #[.int .u8 kd, .bool false, .int .u8 wh], .int .i64 now] w (StepQ base (actS a sent (kd % 7) wh now).1 b (sent ++ (actS a sent (kd % 7) wh now).2) w) := by
  obtain ⟨A0, c0, rfl⟩ := ownAny_form how
  obtain ⟨q, hq⟩ : ∃ q, kd % 7 = q := ⟨_, rfl⟩
  have tq : kd.tmod 7 = q := by rw [Int.tmod_eq_emod_of_nonneg hkd.1]; exact hq
  have wq : wrap64 q = q := w64 (by omega) (by omega)
  rw [hq]
  obtain ⟨g, hg⟩ : ∃ g, w.heap.size = g := ⟨_, rfl⟩
  obtain ⟨al, ar, ae, an, ap, ad⟩ := a
  obtain ⟨bl, br, be, bn, bp, bd⟩ := b
  obtain ⟨W0, hW⟩ : ∃ X, ((w.alloc (.cells (cT ⟨al, ar, ae, an, ap, ad⟩ ⟨bl, br, be, bn, bp, bd⟩) 54)).alloc (.cells #[.int .u8 kd, .bool false, .int .u8 wh] 61)).alloc (.cells (cT z6 z6) 54) = X := ⟨_, rfl⟩
  have kt : W0.heap[g]? = some (.cells (cT ⟨al, ar, ae, an, ap, ad⟩ ⟨bl, br, be, bn, bp, bd⟩) 54) := by rw [← hW, ← hg]; exact old_al2 (old_al2 (heap_alloc_new w _) _) _
  have km : W0.heap[g + 1]? = some (.cells #[.int .u8 kd, .bool false, .int .u8 wh] 61) := by rw [← hW, ← hg]; exact old_al2 (new_two w _ _) _
  have kr : W0.heap[g + 2]? = some (.cells (cT z6 z6) 54) := by rw [← hW, ← hg]; exact new_three2 w _ _ _
  have HB : Hid (Below g w W0) := hid (by rw [← hW, ← hg]; exact below_both (below_both (al1 w _) (al1 _ _)) (al1 _ _))
  have HSN : Hid (g ≤ W0.heap.size) := hid (Nat.le_of_lt (box_lt kt))
  have HG := hid hg
  have HKt := hid kt
  have HKm := hid km
  have HKr := hid kr
  have HBS := hid hbs
  have HLN := hid hn
  have HNL := hid hnl
  have HOW := hid how
  have HNOW : Hid (R64 now) := hid (by unfold R64; omega)
  obtain ⟨⟨t0, t1, t2, t3, t4, t5⟩, t6, t7, t8, t9, t10, t11⟩ := load12 kt
  simp only at t0 t1 t2 t3 t4 t5 t6 t7 t8 t9 t10 t11
  have m0 : W0.cell? ⟨g + 1, 0, none⟩ = some (.int .u8 kd) := cell_of_row _ _ 0 _ _ _ km
  have m1 : W0.cell? ⟨g + 1, 1, none⟩ = some (.bool false) := cell_of_row _ _ 1 _ _ _ km
  have m2 : W0.cell? ⟨g + 1, 2, none⟩ = some (.int .u8 wh) := cell_of_row _ _ 2 _ _ _ km
  have ft := box_fr kt
  unfold tv
  simp only [cT, z6] at hW
  have HWW := hid hW
  clear hg hW kt km kr hbs hn how hnl
  obtain ⟨j, hj⟩ : ∃ j : Nat, wh.tmod (n : Int) = (j : Int) := ⟨(wh % (n : Int)).toNat, by rw [Int.tmod_eq_emod_of_nonneg hwh.1]; have := Int.emod_nonneg wh (show (n : Int) ≠ 0 by omega); omega⟩
  have hjn : j < n := by
    rw [Int.tmod_eq_emod_of_nonneg hwh.1] at hj
    have := Int.emod_lt_of_pos wh (show (0 : Int) < (n : Int) by omega)
    omega
  obtain ⟨m, hm⟩ : ∃ m, sent[j]? = some m := ⟨sent[j]'(by rw [HLN.out]; exact hjn), List.getElem?_eq_getElem _⟩
  obtain ⟨⟨⟨xl, xr, xe, xn, xp, xd⟩, ms⟩, hx⟩ : ∃ r, recR ⟨al, ar, ae, an, ap, ad⟩ m = r := ⟨_, rfl⟩
  have hact : actS ⟨al, ar, ae, an, ap, ad⟩ sent q wh now = (⟨xl, xr, xe, xn, xp, xd⟩, ms) := by
    unfold actS
    rw [if_neg (by omega), if_neg (by omega), if_neg (by omega), HLN.out]
    have e : (wh % (n : Int)).toNat = j := by rw [Int.tmod_eq_emod_of_nonneg hwh.1] at hj; omega
    rw [e, hm]
    exact hx
  rw [hact]
  have h1 := fun W => receive_any ⟨al, ar, ae, an, ap, ad⟩ now m 0 none 0 0 none 0 0 W
  rw [hx] at h1
  have HML : Hid (ms.length ≤ 1) := hid (by have h2 := recR_len ⟨al, ar, ae, an, ap, ad⟩ m; rw [hx] at h2; exact h2)
  obtain ⟨bk, hA, hcell⟩ : ∃ bk, A0 = some ⟨bk, 0, none⟩ ∧ bk < w.heap.size ∧ ∀ i u, (cM m)[i]? = some u → w.cell? ⟨bk, j * 8 + i, none⟩ = some u := by
    have hms := own_msgs HOW.out HLN.out
    rcases HOW.out.2 with ⟨e, _⟩ | ⟨bk, cap, cur, e, _, hg0, _⟩
    · injection e with _ e2 _
      omega
    · injection e with e1 _ _
      refine ⟨bk, e1, box_lt hg0, fun i u hu => ?_⟩
      subst e1
      have hlen := (List.getElem?_eq_some_iff.1 hu).1
      have h8 : (cM m).length = 8 := rfl
      have hfl := flat_getG (rows := sent.map cM) (st := 8) (i := j) (j := i) (r := cM m) (fun r hr => by obtain ⟨s, _, rfl⟩ := List.mem_map.1 hr; rfl) (by rw [List.getElem?_map, hm]; rfl) (by omega)
      rw [hu] at hfl
      have := mes_cells hms (j * 8 + i) u hfl
      rwa [add_at, Nat.zero_add] at this
  subst hA
  obtain ⟨hbl, hcl⟩ := hcell
  obtain ⟨k, mf, mt, mn, me⟩ := m
  have HC : Hid (∀ W, Calls Try.prog 24 #[.agg #[.int .i64 al, .int .i64 ar, .int .i64 ae, .int .i64 an, .int .i64 ap, .int .i64 ad], .int .i64 now, .agg #[.int .i64 k, .int .i64 mf, .int .i64 mt, .int .i64 mn, .int .i64 0, .int .i64 me, .slice none 0 0, .slice none 0 0]] W fun f w' => ∃ v, f = .returned (.tuple #[.agg #[.int .i64 xl, .int .i64 xr, .int .i64 xe, .int .i64 xn, .int .i64 xp, .int .i64 xd], v]) ∧ MsgQ W.heap.size w' v ms ∧ Below W.heap.size W w') := hid h1
  have HBL := hid hbl
  have HCL := hid hcl
  have HK : Hid (∀ X, Below W0.heap.size W0 X → X.cell? ⟨bk, j * 8, none⟩ = some (.int .i64 k) ∧ X.cell? ⟨bk, j * 8 + 1, none⟩ = some (.int .i64 mf) ∧ X.cell? ⟨bk, j * 8 + 2, none⟩ = some (.int .i64 mt) ∧ X.cell? ⟨bk, j * 8 + 3, none⟩ = some (.int .i64 mn) ∧ X.cell? ⟨bk, j * 8 + 4, none⟩ = some (.int .i64 0) ∧ X.cell? ⟨bk, j * 8 + 5, none⟩ = some (.int .i64 me) ∧ X.cell? ⟨bk, j * 8 + 6, none⟩ = some (.slice none 0 0) ∧ X.cell? ⟨bk, j * 8 + 7, none⟩ = some (.slice none 0 0) ∧ X.cell? ⟨g + 1, 2, none⟩ = some (.int .u8 wh)) := hid (fun X hX => by
    have hw2 : X.cell? ⟨g + 1, 2, none⟩ = some (.int .u8 wh) := cell_of_row _ _ 2 _ _ _ ((hX.block _ (box_lt HKm.out)).trans HKm.out)
    have hc : ∀ i u, (cM ⟨k, mf, mt, mn, me⟩)[i]? = some u → X.cell? ⟨bk, j * 8 + i, none⟩ = some u := fun i u hu => ((hX.mono HSN.out).cell (p := ⟨bk, j * 8 + i, none⟩) (by have := HBL.out; have := HG.out; show bk < g; omega)).trans ((HB.out.cell (p := ⟨bk, j * 8 + i, none⟩) (by have := HBL.out; have := HG.out; show bk < g; omega)).trans (HCL.out i u hu))
    exact ⟨hc 0 _ rfl, hc 1 _ rfl, hc 2 _ rfl, hc 3 _ rfl, hc 4 _ rfl, hc 5 _ rfl, hc 6 _ rfl, hc 7 _ rfl, hw2⟩)
  have d9 : decide (0 < n) = true := decide_eq_true (by omega)
  have d8 : decide ((0 : Int) < (n : Int)) = true := decide_eq_true (by omega)
  have ww : IntKind.i64.wrap wh = wh := by rw [IntKind.wrap_i64]; omega
  have wj : IntKind.i64.wrap (j : Int) = (j : Int) := by rw [IntKind.wrap_i64]; have := HNL.out; omega
  have nz : ((n : Int) == 0) = false := by simp; omega
  have nz' : ¬ (n : Int) = 0 := by omega
  have nz2 : ¬ n = 0 := by omega
  have hji : (j : Int) < (n : Int) := by omega
  have q0 : (q == 0) = false := by simp; omega
  have q5 : (q == 5) = false := by simp; omega
  have q6 : (q == 6) = false := by simp; omega
  clear hact h1 hx hm hq hk hbl hcl hkd hwh
  go_enter Try.func27, Try.ntmps27
  go_upto_region 1 with fail
  rw [HWW.out, HG.out]
  clear HWW
  go_upto_region 7 with fail
  obtain ⟨X0, hX0⟩ : ∃ X, W0.drew = X := ⟨_, rfl⟩
  have hb0 : Below W0.heap.size W0 X0 := by rw [← hX0]; exact (Below.refl W0.heap.size W0).drew
  have hHeld := HK.out X0 hb0
  have HB1 := hid hb0
  have kx0 := (hb0.block _ (box_lt HKt.out)).trans HKt.out
  have HX0 := hid hX0
  clear hX0 hb0 t0 t1 t2 t3 t4 t5 t6 t7 t8 t9 t10 t11 ft m0 m1 m2
  obtain ⟨⟨t0, t1, t2, t3, t4, t5⟩, t6, t7, t8, t9, t10, t11⟩ := load12 kx0
  simp only at t0 t1 t2 t3 t4 t5 t6 t7 t8 t9 t10 t11
  clear kx0
  refine region_tail 20 (fun X => X.cell? ⟨bk, j * 8, none⟩ = some (.int .i64 k) ∧ X.cell? ⟨bk, j * 8 + 1, none⟩ = some (.int .i64 mf) ∧ X.cell? ⟨bk, j * 8 + 2, none⟩ = some (.int .i64 mt) ∧ X.cell? ⟨bk, j * 8 + 3, none⟩ = some (.int .i64 mn) ∧ X.cell? ⟨bk, j * 8 + 4, none⟩ = some (.int .i64 0) ∧ X.cell? ⟨bk, j * 8 + 5, none⟩ = some (.int .i64 me) ∧ X.cell? ⟨bk, j * 8 + 6, none⟩ = some (.slice none 0 0) ∧ X.cell? ⟨bk, j * 8 + 7, none⟩ = some (.slice none 0 0) ∧ X.cell? ⟨g + 1, 2, none⟩ = some (.int .u8 wh)) (by kernel_rfl) ?_
  rw [HX0.out]
  refine' wpAnyT_take (i := 0) (oi := ?oirf0) (v := ?vrf0) ?hirf0 (by kernel_rfl) (by kernel_rfl) ?hqrf0 ?hyrf0 hHeld ?restrf0
  case hirf0 => (simp only [List.getElem?_toArray, List.getElem?_cons_zero]; rfl)
  case hqrf0 => exact fun _ _ _ h => h
  case hyrf0 => (refine Or.inl ⟨by rfl, ?_⟩; intro w' hSw; (try dsimp only at hSw); go_simp; try with_reducible rfl)
  (try simp only [Act.put, List.setIfInBounds_toArray, List.set_cons_zero, List.set_cons_succ])
  refine' wpAnyT_take (i := 1) (oi := ?oirf1) (v := ?vrf1) ?hirf1 (by kernel_rfl) (by kernel_rfl) ?hqrf1 ?hyrf1 hHeld ?restrf1
  case hirf1 => (simp only [List.getElem?_toArray, List.getElem?_cons_zero, List.getElem?_cons_succ]; rfl)
  case hqrf1 => exact fun _ _ _ h => h
  case hyrf1 => (refine Or.inl ⟨by rfl, ?_⟩; intro w' hSw; (try dsimp only at hSw); go_simp; try with_reducible rfl)
  (try simp only [Act.put, List.setIfInBounds_toArray, List.set_cons_zero, List.set_cons_succ])
  refine' wpAnyT_take (i := 2) (oi := ?oirf2) (v := ?vrf2) ?hirf2 (by kernel_rfl) (by kernel_rfl) ?hqrf2 ?hyrf2 hHeld ?restrf2
  case hirf2 => (simp only [List.getElem?_toArray, List.getElem?_cons_zero, List.getElem?_cons_succ]; rfl)
  case hqrf2 => exact fun _ _ _ h => h
  case hyrf2 => (refine Or.inl ⟨by rfl, ?_⟩; intro w' hSw; (try dsimp only at hSw); go_simp; try with_reducible rfl)
  (try simp only [Act.put, List.setIfInBounds_toArray, List.set_cons_zero, List.set_cons_succ])
  refine' wpAnyT_take (i := 4) (oi := ?oirf4) (v := ?vrf4) ?hirf4 (by kernel_rfl) (by kernel_rfl) ?hqrf4 ?hyrf4 hHeld ?restrf4
  case hirf4 => (simp only [List.getElem?_toArray, List.getElem?_cons_zero, List.getElem?_cons_succ]; rfl)
  case hqrf4 => exact fun _ _ _ h => h
  case hyrf4 => (refine Or.inl ⟨by rfl, ?_⟩; intro w' hSw; (try dsimp only at hSw); go_simp; try with_reducible rfl)
  (try simp only [Act.put, List.setIfInBounds_toArray, List.set_cons_zero, List.set_cons_succ])
  refine' wpAnyT_take (i := 5) (oi := ?oirf5) (v := ?vrf5) ?hirf5 (by kernel_rfl) (by kernel_rfl) ?hqrf5 ?hyrf5 hHeld ?restrf5
  case hirf5 => (simp only [List.getElem?_toArray, List.getElem?_cons_zero, List.getElem?_cons_succ]; rfl)
  case hqrf5 => exact fun _ _ _ h => h
  case hyrf5 => (refine Or.inl ⟨by rfl, ?_⟩; intro w' hSw; (try dsimp only at hSw); go_simp; try with_reducible rfl)
  (try simp only [Act.put, List.setIfInBounds_toArray, List.set_cons_zero, List.set_cons_succ])
  refine' wpAnyT_take (i := 6) (oi := ?oirf6) (v := ?vrf6) ?hirf6 (by kernel_rfl) (by kernel_rfl) ?hqrf6 ?hyrf6 hHeld ?restrf6
  case hirf6 => (simp only [List.getElem?_toArray, List.getElem?_cons_zero, List.getElem?_cons_succ]; rfl)
  case hqrf6 => exact fun _ _ _ h => h
  case hyrf6 => (refine Or.inl ⟨by rfl, ?_⟩; intro w' hSw; (try dsimp only at hSw); go_simp; try with_reducible rfl)
  (try simp only [Act.put, List.setIfInBounds_toArray, List.set_cons_zero, List.set_cons_succ])
  refine' wpAnyT_take (i := 7) (oi := ?oirf7) (v := ?vrf7) ?hirf7 (by kernel_rfl) (by kernel_rfl) ?hqrf7 ?hyrf7 hHeld ?restrf7
  case hirf7 => (simp only [List.getElem?_toArray, List.getElem?_cons_zero, List.getElem?_cons_succ]; rfl)
  case hqrf7 => exact fun _ _ _ h => h
  case hyrf7 => (refine Or.inl ⟨by rfl, ?_⟩; intro w' hSw; (try dsimp only at hSw); go_simp; try with_reducible rfl)
  (try simp only [Act.put, List.setIfInBounds_toArray, List.set_cons_zero, List.set_cons_succ])
  refine' wpAnyT_take (i := 8) (oi := ?oirf8) (v := ?vrf8) ?hirf8 (by kernel_rfl) (by kernel_rfl) ?hqrf8 ?hyrf8 hHeld ?restrf8
  case hirf8 => (simp only [List.getElem?_toArray, List.getElem?_cons_zero, List.getElem?_cons_succ]; rfl)
  case hqrf8 => exact fun _ _ _ h => h
  case hyrf8 => (refine Or.inl ⟨by rfl, ?_⟩; intro w' hSw; (try dsimp only at hSw); go_simp; try with_reducible rfl)
  (try simp only [Act.put, List.setIfInBounds_toArray, List.set_cons_zero, List.set_cons_succ])
  refine' wpAnyT_take (i := 9) (oi := ?oirf9) (v := ?vrf9) ?hirf9 (by kernel_rfl) (by kernel_rfl) ?hqrf9 ?hyrf9 hHeld ?restrf9
  case hirf9 => (simp only [List.getElem?_toArray, List.getElem?_cons_zero, List.getElem?_cons_succ]; rfl)
  case hqrf9 => exact fun _ _ _ h => h
  case hyrf9 => (refine Or.inl ⟨by rfl, ?_⟩; intro w' hSw; (try dsimp only at hSw); go_simp; try with_reducible rfl)
  (try simp only [Act.put, List.setIfInBounds_toArray, List.set_cons_zero, List.set_cons_succ])
  refine' wpAnyT_take (i := 10) (oi := ?oirf10) (v := ?vrf10) ?hirf10 (by kernel_rfl) (by kernel_rfl) ?hqrf10 ?hyrf10 hHeld ?restrf10
  case hirf10 => (simp only [List.getElem?_toArray, List.getElem?_cons_zero, List.getElem?_cons_succ]; rfl)
  case hqrf10 => exact fun _ _ _ h => h
  case hyrf10 => (refine Or.inl ⟨by rfl, ?_⟩; intro w' hSw; (try dsimp only at hSw); go_simp; try with_reducible rfl)
  (try simp only [Act.put, List.setIfInBounds_toArray, List.set_cons_zero, List.set_cons_succ])
  refine' wpAnyT_take (i := 11) (oi := ?oirf11) (v := ?vrf11) ?hirf11 (by kernel_rfl) (by kernel_rfl) ?hqrf11 ?hyrf11 hHeld ?restrf11
  case hirf11 => (simp only [List.getElem?_toArray, List.getElem?_cons_zero, List.getElem?_cons_succ]; rfl)
  case hqrf11 => exact fun _ _ _ h => h
  case hyrf11 => (refine Or.inl ⟨by rfl, ?_⟩; intro w' hSw; (try dsimp only at hSw); go_simp; try with_reducible rfl)
  (try simp only [Act.put, List.setIfInBounds_toArray, List.set_cons_zero, List.set_cons_succ])
  refine' wpAnyT_take (i := 12) (oi := ?oirf12) (v := ?vrf12) ?hirf12 (by kernel_rfl) (by kernel_rfl) ?hqrf12 ?hyrf12 hHeld ?restrf12
  case hirf12 => (simp only [List.getElem?_toArray, List.getElem?_cons_zero, List.getElem?_cons_succ]; rfl)
  case hqrf12 => exact fun _ _ _ h => h
  case hyrf12 => (refine Or.inl ⟨by rfl, ?_⟩; intro w' hSw; (try dsimp only at hSw); go_simp; try with_reducible rfl)
  (try simp only [Act.put, List.setIfInBounds_toArray, List.set_cons_zero, List.set_cons_succ])
  refine' wpAnyT_take (i := 13) (oi := ?oirf13) (v := ?vrf13) ?hirf13 (by kernel_rfl) (by kernel_rfl) ?hqrf13 ?hyrf13 hHeld ?restrf13
  case hirf13 => (simp only [List.getElem?_toArray, List.getElem?_cons_zero, List.getElem?_cons_succ]; rfl)
  case hqrf13 => exact fun _ _ _ h => h
  case hyrf13 => (refine Or.inl ⟨by rfl, ?_⟩; intro w' hSw; (try dsimp only at hSw); go_simp; try with_reducible rfl)
  (try simp only [Act.put, List.setIfInBounds_toArray, List.set_cons_zero, List.set_cons_succ])
  refine' wpAnyT_one (i := 3) (o := ?oirf3) (by kernel_rfl) ?hirf3 (fun K hK => ?strf3)
  case hirf3 => (simp only [List.getElem?_toArray, List.getElem?_cons_zero, List.getElem?_cons_succ]; rfl)
  go_simp
  refine hK.out _ _ (fun _ => hHeld) ?_
  clear hK K
  (try simp only [Act.put, List.setIfInBounds_toArray, List.set_cons_zero, List.set_cons_succ])
  refine' wpAnyT_one (i := 14) (o := ?oirf14) (by kernel_rfl) ?hirf14 (fun K hK => ?strf14)
  case hirf14 => (simp only [List.getElem?_toArray, List.getElem?_cons_zero, List.getElem?_cons_succ]; rfl)
  go_simp
  go_at_call 24
  (with_reducible refine (HC.out _).mono ?_)
  rintro _ wn ⟨v9, rfl, hm, hb⟩
  have HMQ : Hid (MsgQ 0 wn v9 ms) := hid (hm.keep (Nat.zero_le _) (fun _ _ _ h => h))
  have HB2 := hid (below_both HB1.out hb)
  have hHeld := HK.out wn HB2.out
  clear hm hb t0 t1 t2 t3 t4 t5 t6 t7 t8 t9 t10 t11
  refine hK.out _ _ (fun _ => hHeld) ?_
  clear hK K
  (try simp only [Act.put, List.setIfInBounds_toArray, List.set_cons_zero, List.set_cons_succ])
  refine' wpAnyT_take (i := 15) (oi := ?oirf15) (v := ?vrf15) ?hirf15 (by kernel_rfl) (by kernel_rfl) ?hqrf15 ?hyrf15 hHeld ?restrf15
  case hirf15 => (simp only [List.getElem?_toArray, List.getElem?_cons_zero, List.getElem?_cons_succ]; rfl)
  case hqrf15 => exact fun _ _ _ h => h
  case hyrf15 => (refine Or.inl ⟨by rfl, ?_⟩; intro w' hSw; (try dsimp only at hSw); go_simp; try with_reducible rfl)
  (try simp only [Act.put, List.setIfInBounds_toArray, List.set_cons_zero, List.set_cons_succ])
  refine' wpAnyT_take (i := 16) (oi := ?oirf16) (v := ?vrf16) ?hirf16 (by kernel_rfl) (by kernel_rfl) ?hqrf16 ?hyrf16 hHeld ?restrf16
  case hirf16 => (simp only [List.getElem?_toArray, List.getElem?_cons_zero, List.getElem?_cons_succ]; rfl)
  case hqrf16 => exact fun _ _ _ h => h
  case hyrf16 => (refine Or.inl ⟨by rfl, ?_⟩; intro w' hSw; (try dsimp only at hSw); go_simp; try with_reducible rfl)
  (try simp only [Act.put, List.setIfInBounds_toArray, List.set_cons_zero, List.set_cons_succ])
  refine' wpAnyT_take (i := 17) (oi := ?oirf17) (v := ?vrf17) ?hirf17 (by kernel_rfl) (by kernel_rfl) ?hqrf17 ?hyrf17 hHeld ?restrf17
  case hirf17 => (simp only [List.getElem?_toArray, List.getElem?_cons_zero, List.getElem?_cons_succ]; rfl)
  case hqrf17 => exact fun _ _ _ h => h
  case hyrf17 => (refine Or.inl ⟨by rfl, ?_⟩; intro w' hSw; (try dsimp only at hSw); go_simp; try with_reducible rfl)
  (try simp only [Act.put, List.setIfInBounds_toArray, List.set_cons_zero, List.set_cons_succ])
  refine' wpAnyT_one (i := 18) (o := ?oirf18) (by kernel_rfl) ?hirf18 (fun K hK => ?strf18)
  case hirf18 => (simp only [List.getElem?_toArray, List.getElem?_cons_zero, List.getElem?_cons_succ]; rfl)
  go_simp
  refine hK.out _ _ (fun _ => hHeld) ?_
  clear hK K
  (try simp only [Act.put, List.setIfInBounds_toArray, List.set_cons_zero, List.set_cons_succ])
  refine' wpAnyT_one (i := 19) (o := ?oirf19) (by kernel_rfl) ?hirf19 (fun K hK => ?strf19)
  case hirf19 => (simp only [List.getElem?_toArray, List.getElem?_cons_zero, List.getElem?_cons_succ]; rfl)
  have HKt0 := hid HKt.out
  have HKt := hid ((HB2.out.block _ (box_lt HKt.out)).trans HKt.out)
  have HKr := hid ((HB2.out.block _ (box_lt HKr.out)).trans HKr.out)
  have HB := hid (HB.out.trans (HB2.out.mono HSN.out))
  obtain ⟨⟨t0, t1, t2, t3, t4, t5⟩, t6, t7, t8, t9, t10, t11⟩ := load12 HKt.out
  simp only at t0 t1 t2 t3 t4 t5 t6 t7 t8 t9 t10 t11
  have ft := box_fr HKt.out
  go_simp
  obtain ⟨Wt, hWt⟩ : ∃ X, set6 wn g ⟨xl, xr, xe, xn, xp, xd⟩ = X := ⟨_, rfl⟩
  have HMS : Hid (Msgs Wt v9 ms) := hid (by rw [← hWt]; exact (HMQ.out.keepT (Nat.le_refl _) (lo_keep ⟨xl, xr, xe, xn, xp, xd⟩ HKt.out (by decide))).msgs)
  have HKr := hid (show Wt.heap[g + 2]? = some (.cells (cT z6 z6) 54) by rw [← hWt]; exact lo_off _ (by omega) HKr.out)
  have HB := hid (show Below g w Wt by rw [← hWt]; exact set6b ⟨xl, xr, xe, xn, xp, xd⟩ HB.out (Nat.le_refl _))
  have HKt := hid (show Wt.heap[g]? = some (.cells (cT ⟨xl, xr, xe, xn, xp, xd⟩ ⟨bl, br, be, bn, bp, bd⟩) 54) by rw [← hWt]; exact lo_h ⟨xl, xr, xe, xn, xp, xd⟩ HKt.out)
  have HWt := hid hWt
  have hHn : Wt.cell? ⟨bk, j * 8, none⟩ = some (.int .i64 k) ∧ Wt.cell? ⟨bk, j * 8 + 1, none⟩ = some (.int .i64 mf) ∧ Wt.cell? ⟨bk, j * 8 + 2, none⟩ = some (.int .i64 mt) ∧ Wt.cell? ⟨bk, j * 8 + 3, none⟩ = some (.int .i64 mn) ∧ Wt.cell? ⟨bk, j * 8 + 4, none⟩ = some (.int .i64 0) ∧ Wt.cell? ⟨bk, j * 8 + 5, none⟩ = some (.int .i64 me) ∧ Wt.cell? ⟨bk, j * 8 + 6, none⟩ = some (.slice none 0 0) ∧ Wt.cell? ⟨bk, j * 8 + 7, none⟩ = some (.slice none 0 0) ∧ Wt.cell? ⟨g + 1, 2, none⟩ = some (.int .u8 wh) := by
    have hg : ∀ (p : Nat) (i : Nat), p ≠ g → Wt.cell? ⟨p, i, none⟩ = wn.cell? ⟨p, i, none⟩ := fun p i hp => by rw [← HWt.out]; exact lo_cell _ hp i
    obtain ⟨e0, e1, e2, e3, e4, e5, e6, e7, e8⟩ := hHeld
    have hbg : bk ≠ g := by have := HBL.out; have := HG.out; omega
    exact ⟨(hg _ _ hbg).trans e0, (hg _ _ hbg).trans e1, (hg _ _ hbg).trans e2, (hg _ _ hbg).trans e3, (hg _ _ hbg).trans e4, (hg _ _ hbg).trans e5, (hg _ _ hbg).trans e6, (hg _ _ hbg).trans e7, (hg _ _ (by omega)).trans e8⟩
  simp only [set6] at HWt
  clear hWt t0 t1 t2 t3 t4 t5 t6 t7 t8 t9 t10 t11 ft
  rw [HWt.out]
  clear hHeld
  have hHeld := hHn
  refine hK.out _ _ (fun _ => hHeld) ?_
  clear hK K
  (try simp only [Act.put, List.setIfInBounds_toArray, List.set_cons_zero, List.set_cons_succ])
  refine' wpAnyT_one (i := 20) (o := ?oirf20) (by kernel_rfl) ?hirf20 (fun K hK => ?strf20)
  case hirf20 => (simp only [List.getElem?_toArray, List.getElem?_cons_zero, List.getElem?_cons_succ]; rfl)
  go_simp
  refine hK.out _ _ (fun h => absurd h (by decide)) ?_
  clear hK K
  (try simp only [Act.put, List.setIfInBounds_toArray, List.set_cons_zero, List.set_cons_succ])
  refine wpAnyT_done (by kernel_rfl) ?_ _
  go_upto_region 16 with fail
  obtain ⟨X0, hX0⟩ : ∃ X, Wt.drew = X := ⟨_, rfl⟩
  have j1 : X0.heap[g]? = some (.cells (cT ⟨xl, xr, xe, xn, xp, xd⟩ ⟨bl, br, be, bn, bp, bd⟩) 54) := by rw [← hX0]; exact HKt.out
  have j2 : X0.heap[g + 2]? = some (.cells (cT z6 z6) 54) := by rw [← hX0]; exact HKr.out
  have HB0 : Hid (Below g w X0) := hid (by rw [← hX0]; exact below_drew HB.out)
  have HMM : Hid (Msgs X0 v9 ms) := hid (by rw [← hX0]; exact HMS.out)
  have J1 := hid j1
  have J2 := hid j2
  have hHeld : X0.cell? ⟨g, 0, none⟩ = some (.int .i64 xl) ∧ X0.cell? ⟨g, 1, none⟩ = some (.int .i64 xr) ∧ X0.cell? ⟨g, 2, none⟩ = some (.int .i64 xe) ∧ X0.cell? ⟨g, 3, none⟩ = some (.int .i64 xn) ∧ X0.cell? ⟨g, 4, none⟩ = some (.int .i64 xp) ∧ X0.cell? ⟨g, 5, none⟩ = some (.int .i64 xd) ∧ X0.cell? ⟨g, 6, none⟩ = some (.int .i64 bl) ∧ X0.cell? ⟨g, 7, none⟩ = some (.int .i64 br) ∧ X0.cell? ⟨g, 8, none⟩ = some (.int .i64 be) ∧ X0.cell? ⟨g, 9, none⟩ = some (.int .i64 bn) ∧ X0.cell? ⟨g, 10, none⟩ = some (.int .i64 bp) ∧ X0.cell? ⟨g, 11, none⟩ = some (.int .i64 bd) := by
    obtain ⟨⟨b0, b1, b2, b3, b4, b5⟩, r⟩ := load12 j1
    exact ⟨b0, b1, b2, b3, b4, b5, r⟩
  have HX0 := hid hX0
  clear hX0 j1 j2 
  refine region_tail 4 (fun X => X.cell? ⟨g, 0, none⟩ = some (.int .i64 xl) ∧ X.cell? ⟨g, 1, none⟩ = some (.int .i64 xr) ∧ X.cell? ⟨g, 2, none⟩ = some (.int .i64 xe) ∧ X.cell? ⟨g, 3, none⟩ = some (.int .i64 xn) ∧ X.cell? ⟨g, 4, none⟩ = some (.int .i64 xp) ∧ X.cell? ⟨g, 5, none⟩ = some (.int .i64 xd) ∧ X.cell? ⟨g, 6, none⟩ = some (.int .i64 bl) ∧ X.cell? ⟨g, 7, none⟩ = some (.int .i64 br) ∧ X.cell? ⟨g, 8, none⟩ = some (.int .i64 be) ∧ X.cell? ⟨g, 9, none⟩ = some (.int .i64 bn) ∧ X.cell? ⟨g, 10, none⟩ = some (.int .i64 bp) ∧ X.cell? ⟨g, 11, none⟩ = some (.int .i64 bd)) (by kernel_rfl) ?_
  rw [HX0.out]
  refine' wpAnyT_take (i := 0) (oi := ?oihf0) (v := ?vhf0) ?hihf0 (by kernel_rfl) (by kernel_rfl) ?hqhf0 ?hyhf0 hHeld ?resthf0
  case hihf0 => (simp only [List.getElem?_toArray, List.getElem?_cons_zero]; rfl)
  case hqhf0 => exact fun _ _ _ h => h
  case hyhf0 => (refine Or.inl ⟨by rfl, ?_⟩; intro w' hSw; (try dsimp only at hSw); go_simp; try with_reducible rfl)
  (try simp only [Act.put, List.setIfInBounds_toArray, List.set_cons_zero, List.set_cons_succ])
  refine' wpAnyT_take (i := 1) (oi := ?oihf1) (v := ?vhf1) ?hihf1 (by kernel_rfl) (by kernel_rfl) ?hqhf1 ?hyhf1 hHeld ?resthf1
  case hihf1 => (simp only [List.getElem?_toArray, List.getElem?_cons_zero, List.getElem?_cons_succ]; rfl)
  case hqhf1 => exact fun _ _ _ h => h
  case hyhf1 => (refine Or.inl ⟨by rfl, ?_⟩; intro w' hSw; (try dsimp only at hSw); go_simp; try with_reducible rfl)
  (try simp only [Act.put, List.setIfInBounds_toArray, List.set_cons_zero, List.set_cons_succ])
  refine' wpAnyT_take (i := 2) (oi := ?oihf2) (v := ?vhf2) ?hihf2 (by kernel_rfl) (by kernel_rfl) ?hqhf2 ?hyhf2 hHeld ?resthf2
  case hihf2 => (simp only [List.getElem?_toArray, List.getElem?_cons_zero, List.getElem?_cons_succ]; rfl)
  case hqhf2 => exact fun _ _ _ h => h
  case hyhf2 => (refine Or.inl ⟨by rfl, ?_⟩; intro w' hSw; (try dsimp only at hSw); go_simp; try with_reducible rfl)
  (try simp only [Act.put, List.setIfInBounds_toArray, List.set_cons_zero, List.set_cons_succ])
  refine' wpAnyT_one (i := 3) (o := ?oihf3) (by kernel_rfl) ?hihf3 (fun K hK => ?sthf3)
  case hihf3 => (simp only [List.getElem?_toArray, List.getElem?_cons_zero, List.getElem?_cons_succ]; rfl)
  refine step_append_mes rfl (.tmp 83) (.tmp 84) rfl base _ n _ rfl (own_keep HOW.out (keep_below (HB0.out.mono (by rw [HG.out]; exact Nat.le_refl _)))) ms v9 rfl HMM.out (by have := HNL.out; have := HML.out; omega) (by have := HBS.out; have := HB0.out.size; omega) ?_
  intro v8 X2 hown hgr
  have HK2 : Hid (∀ T, T ≠ 47 → Keep T X0 X2) := hid (fun T hT => keep_grown (own_keep HOW.out (keep_below (HB0.out.mono (by rw [HG.out]; exact Nat.le_refl _)))) hT hgr)
  have HP1 := hid (HK2.out 54 (by decide) _ _ J1.out)
  have HP2 := hid (HK2.out 54 (by decide) _ _ J2.out)
  have HB2 : Hid (Below base w X2) := hid (below_ownE (HB0.out.mono (by have := HBS.out; have := HG.out; omega)) (own_keep HOW.out (keep_below (HB0.out.mono (by rw [HG.out]; exact Nat.le_refl _)))) hgr (by have := HBS.out; have := HB0.out.size; omega) (Nat.le_refl _))
  have HOW2 := hid hown
  have hHeld : X2.cell? ⟨g, 0, none⟩ = some (.int .i64 xl) ∧ X2.cell? ⟨g, 1, none⟩ = some (.int .i64 xr) ∧ X2.cell? ⟨g, 2, none⟩ = some (.int .i64 xe) ∧ X2.cell? ⟨g, 3, none⟩ = some (.int .i64 xn) ∧ X2.cell? ⟨g, 4, none⟩ = some (.int .i64 xp) ∧ X2.cell? ⟨g, 5, none⟩ = some (.int .i64 xd) ∧ X2.cell? ⟨g, 6, none⟩ = some (.int .i64 bl) ∧ X2.cell? ⟨g, 7, none⟩ = some (.int .i64 br) ∧ X2.cell? ⟨g, 8, none⟩ = some (.int .i64 be) ∧ X2.cell? ⟨g, 9, none⟩ = some (.int .i64 bn) ∧ X2.cell? ⟨g, 10, none⟩ = some (.int .i64 bp) ∧ X2.cell? ⟨g, 11, none⟩ = some (.int .i64 bd) := by
    obtain ⟨⟨b0, b1, b2, b3, b4, b5⟩, r⟩ := load12 HP1.out
    exact ⟨b0, b1, b2, b3, b4, b5, r⟩
  clear hown hgr
  refine hK.out _ _ (fun _ => hHeld) ?_
  clear hK K
  (try simp only [Act.put, List.setIfInBounds_toArray, List.set_cons_zero, List.set_cons_succ])
  refine' wpAnyT_one (i := 4) (o := ?oihf4) (by kernel_rfl) ?hihf4 (fun K hK => ?sthf4)
  case hihf4 => (simp only [List.getElem?_toArray, List.getElem?_cons_zero, List.getElem?_cons_succ]; rfl)
  obtain ⟨⟨i0, i1, i2, i3, i4, i5⟩, i6, i7, i8, i9, i10, i11⟩ := load12 HP2.out
  simp only [z6] at i0 i1 i2 i3 i4 i5 i6 i7 i8 i9 i10 i11
  have ff := box_fr HP2.out
  go_simp
  obtain ⟨Y, hY⟩ : ∃ X, set12 X2 (g + 2) ⟨xl, xr, xe, xn, xp, xd⟩ ⟨bl, br, be, bn, bp, bd⟩ = X := ⟨_, rfl⟩
  have HY := hid hY
  simp only [set12, set6] at hY
  rw [hY]
  clear hY i0 i1 i2 i3 i4 i5 i6 i7 i8 i9 i10 i11 ff
  refine hK.out _ _ (fun h => absurd h (by decide)) ?_
  clear hK K
  (try simp only [Act.put, List.setIfInBounds_toArray, List.set_cons_zero, List.set_cons_succ])
  refine' wpAnyT_one (i := 5) (o := ?oihf5) (by kernel_rfl) ?hihf5 (fun K hK => ?sthf5)
  case hihf5 => (simp only [List.getElem?_toArray, List.getElem?_cons_zero, List.getElem?_cons_succ]; rfl)
  go_simp
  refine hK.out _ _ (fun h => absurd h (by decide)) ?_
  clear hK K
  (try simp only [Act.put, List.setIfInBounds_toArray, List.set_cons_zero, List.set_cons_succ])
  refine wpAnyT_done (by kernel_rfl) ?_ _
  go_wp2_with fail
  refine bodyPost_ret (results_t1 rfl _ _ (g + 2) 54 ⟨xl, xr, xe, xn, xp, xd⟩ ⟨bl, br, be, bn, bp, bd⟩ rfl (by rw [← HY.out]; exact set12h ⟨xl, xr, xe, xn, xp, xd⟩ ⟨bl, br, be, bn, bp, bd⟩ HP2.out) _ rfl) rfl ?_
  refine ⟨v8, rfl, ?_, ?_, fun T hT => ?_⟩
  · have e : ((sent ++ ms).map cM).flatten = (sent.map cM).flatten ++ ((ms).map cM).flatten := by rw [List.map_append, List.flatten_append]
    rw [e, List.length_append, HLN.out]
    exact own_keep HOW2.out (by rw [← HY.out]; exact keepT_set12 _ _ HP2.out (by decide))
  · rw [← HY.out]
    exact set12b _ _ HB2.out (by have := HBS.out; have := HG.out; omega)
  · rw [← HY.out]
    exact keepO_set12 _ _ (Keep.trans (keep_below (HB0.out.mono (by rw [HG.out]; exact Nat.le_refl _))) (HK2.out T hT)) (by have := HG.out; omega)
set_option maxHeartbeats 16000000 in
set_option maxRecDepth 100000 in
theorem step_rec0_f (a b : Ses) (sent : List Mes) (u : Value) (kd wh : Int) (now : Int) (base n : Nat) (w : World) (hbs : base ≤ w.heap.size) (hn : sent.length = n) (hnl : n ≤ 1000) (how : w.ownsRow base 47 8 u n (sent.map cM).flatten) (hkd : 0 ≤ kd ∧ kd ≤ 255) (_hwh : 0 ≤ wh ∧ wh ≤ 255) (hnow : 0 ≤ now ∧ now ≤ 1000) (hk : kd % 7 ≠ 0 ∧ kd % 7 ≠ 5 ∧ kd % 7 ≠ 6) (hn0 : n = 0) :
    Calls Try.prog 27 #[tv a b, u, .agg #[.int .u8 kd, .bool false, .int .u8 wh], .int .i64 now] w (StepQ base (actS a sent (kd % 7) wh now).1 b (sent ++ (actS a sent (kd % 7) wh now).2) w) := by
  obtain ⟨A0, c0, rfl⟩ := ownAny_form how
  obtain ⟨q, hq⟩ : ∃ q, kd % 7 = q := ⟨_, rfl⟩
  have tq : kd.tmod 7 = q := by rw [Int.tmod_eq_emod_of_nonneg hkd.1]; exact hq
  have wq : wrap64 q = q := w64 (by omega) (by omega)
  rw [hq]
  obtain ⟨g, hg⟩ : ∃ g, w.heap.size = g := ⟨_, rfl⟩
  obtain ⟨al, ar, ae, an, ap, ad⟩ := a
  obtain ⟨bl, br, be, bn, bp, bd⟩ := b
  obtain ⟨W0, hW⟩ : ∃ X, ((w.alloc (.cells (cT ⟨al, ar, ae, an, ap, ad⟩ ⟨bl, br, be, bn, bp, bd⟩) 54)).alloc (.cells #[.int .u8 kd, .bool false, .int .u8 wh] 61)).alloc (.cells (cT z6 z6) 54) = X := ⟨_, rfl⟩
  have kt : W0.heap[g]? = some (.cells (cT ⟨al, ar, ae, an, ap, ad⟩ ⟨bl, br, be, bn, bp, bd⟩) 54) := by rw [← hW, ← hg]; exact old_al2 (old_al2 (heap_alloc_new w _) _) _
  have km : W0.heap[g + 1]? = some (.cells #[.int .u8 kd, .bool false, .int .u8 wh] 61) := by rw [← hW, ← hg]; exact old_al2 (new_two w _ _) _
  have kr : W0.heap[g + 2]? = some (.cells (cT z6 z6) 54) := by rw [← hW, ← hg]; exact new_three2 w _ _ _
  have HB : Hid (Below g w W0) := hid (by rw [← hW, ← hg]; exact below_both (below_both (al1 w _) (al1 _ _)) (al1 _ _))
  have HSN : Hid (g ≤ W0.heap.size) := hid (Nat.le_of_lt (box_lt kt))
  have HG := hid hg
  have HKt := hid kt
  have HKm := hid km
  have HKr := hid kr
  have HBS := hid hbs
  have HLN := hid hn
  have HNL := hid hnl
  have HOW := hid how
  have HNOW : Hid (R64 now) := hid (by unfold R64; omega)
  obtain ⟨⟨t0, t1, t2, t3, t4, t5⟩, t6, t7, t8, t9, t10, t11⟩ := load12 kt
  simp only at t0 t1 t2 t3 t4 t5 t6 t7 t8 t9 t10 t11
  have m0 : W0.cell? ⟨g + 1, 0, none⟩ = some (.int .u8 kd) := cell_of_row _ _ 0 _ _ _ km
  have m1 : W0.cell? ⟨g + 1, 1, none⟩ = some (.bool false) := cell_of_row _ _ 1 _ _ _ km
  have m2 : W0.cell? ⟨g + 1, 2, none⟩ = some (.int .u8 wh) := cell_of_row _ _ 2 _ _ _ km
  have ft := box_fr kt
  unfold tv
  simp only [cT, z6] at hW
  have HWW := hid hW
  clear hg hW kt km kr hbs hn how hnl
  have hs0 : sent = [] := List.eq_nil_of_length_eq_zero (by rw [HLN.out]; exact hn0)
  have hact : actS ⟨al, ar, ae, an, ap, ad⟩ sent q wh now = (⟨al, ar, ae, an, ap, ad⟩, []) := by rw [hs0]; unfold actS; rw [if_neg (by omega), if_neg (by omega), if_neg (by omega)]; simp
  rw [hact]
  clear hs0
  have HML : Hid (([] : List Mes).length ≤ 1) := hid (by decide)
  have d9 : decide (0 < n) = false := decide_eq_false (by omega)
  have d8 : decide ((0 : Int) < (n : Int)) = false := decide_eq_false (by omega)
  have HMS : Hid (Msgs W0 (.slice none 0 0) []) := hid (msgs_nil W0)
  have q0 : (q == 0) = false := by simp; omega
  have q5 : (q == 5) = false := by simp; omega
  have q6 : (q == 6) = false := by simp; omega
  clear hact hq hk hn0 hkd
  go_enter Try.func27, Try.ntmps27
  go_upto_region 1 with fail
  rw [HWW.out, HG.out]
  clear HWW
  go_upto_region 16 with fail
  go_upto_region 16 with fail
  obtain ⟨X0, hX0⟩ : ∃ X, W0.drew = X := ⟨_, rfl⟩
  have j1 : X0.heap[g]? = some (.cells (cT ⟨al, ar, ae, an, ap, ad⟩ ⟨bl, br, be, bn, bp, bd⟩) 54) := by rw [← hX0]; exact HKt.out
  have j2 : X0.heap[g + 2]? = some (.cells (cT z6 z6) 54) := by rw [← hX0]; exact HKr.out
  have HB0 : Hid (Below g w X0) := hid (by rw [← hX0]; exact below_drew HB.out)
  have HMM : Hid (Msgs X0 (.slice none 0 0) []) := hid (by rw [← hX0]; exact HMS.out)
  have J1 := hid j1
  have J2 := hid j2
  have hHeld : X0.cell? ⟨g, 0, none⟩ = some (.int .i64 al) ∧ X0.cell? ⟨g, 1, none⟩ = some (.int .i64 ar) ∧ X0.cell? ⟨g, 2, none⟩ = some (.int .i64 ae) ∧ X0.cell? ⟨g, 3, none⟩ = some (.int .i64 an) ∧ X0.cell? ⟨g, 4, none⟩ = some (.int .i64 ap) ∧ X0.cell? ⟨g, 5, none⟩ = some (.int .i64 ad) ∧ X0.cell? ⟨g, 6, none⟩ = some (.int .i64 bl) ∧ X0.cell? ⟨g, 7, none⟩ = some (.int .i64 br) ∧ X0.cell? ⟨g, 8, none⟩ = some (.int .i64 be) ∧ X0.cell? ⟨g, 9, none⟩ = some (.int .i64 bn) ∧ X0.cell? ⟨g, 10, none⟩ = some (.int .i64 bp) ∧ X0.cell? ⟨g, 11, none⟩ = some (.int .i64 bd) := by
    obtain ⟨⟨b0, b1, b2, b3, b4, b5⟩, r⟩ := load12 j1
    exact ⟨b0, b1, b2, b3, b4, b5, r⟩
  have HX0 := hid hX0
  clear hX0 j1 j2 
  refine region_tail 4 (fun X => X.cell? ⟨g, 0, none⟩ = some (.int .i64 al) ∧ X.cell? ⟨g, 1, none⟩ = some (.int .i64 ar) ∧ X.cell? ⟨g, 2, none⟩ = some (.int .i64 ae) ∧ X.cell? ⟨g, 3, none⟩ = some (.int .i64 an) ∧ X.cell? ⟨g, 4, none⟩ = some (.int .i64 ap) ∧ X.cell? ⟨g, 5, none⟩ = some (.int .i64 ad) ∧ X.cell? ⟨g, 6, none⟩ = some (.int .i64 bl) ∧ X.cell? ⟨g, 7, none⟩ = some (.int .i64 br) ∧ X.cell? ⟨g, 8, none⟩ = some (.int .i64 be) ∧ X.cell? ⟨g, 9, none⟩ = some (.int .i64 bn) ∧ X.cell? ⟨g, 10, none⟩ = some (.int .i64 bp) ∧ X.cell? ⟨g, 11, none⟩ = some (.int .i64 bd)) (by kernel_rfl) ?_
  rw [HX0.out]
  refine' wpAnyT_take (i := 0) (oi := ?oigf0) (v := ?vgf0) ?higf0 (by kernel_rfl) (by kernel_rfl) ?hqgf0 ?hygf0 hHeld ?restgf0
  case higf0 => (simp only [List.getElem?_toArray, List.getElem?_cons_zero]; rfl)
  case hqgf0 => exact fun _ _ _ h => h
  case hygf0 => (refine Or.inl ⟨by rfl, ?_⟩; intro w' hSw; (try dsimp only at hSw); go_simp; try with_reducible rfl)
  (try simp only [Act.put, List.setIfInBounds_toArray, List.set_cons_zero, List.set_cons_succ])
  refine' wpAnyT_take (i := 1) (oi := ?oigf1) (v := ?vgf1) ?higf1 (by kernel_rfl) (by kernel_rfl) ?hqgf1 ?hygf1 hHeld ?restgf1
  case higf1 => (simp only [List.getElem?_toArray, List.getElem?_cons_zero, List.getElem?_cons_succ]; rfl)
  case hqgf1 => exact fun _ _ _ h => h
  case hygf1 => (refine Or.inl ⟨by rfl, ?_⟩; intro w' hSw; (try dsimp only at hSw); go_simp; try with_reducible rfl)
  (try simp only [Act.put, List.setIfInBounds_toArray, List.set_cons_zero, List.set_cons_succ])
  refine' wpAnyT_take (i := 2) (oi := ?oigf2) (v := ?vgf2) ?higf2 (by kernel_rfl) (by kernel_rfl) ?hqgf2 ?hygf2 hHeld ?restgf2
  case higf2 => (simp only [List.getElem?_toArray, List.getElem?_cons_zero, List.getElem?_cons_succ]; rfl)
  case hqgf2 => exact fun _ _ _ h => h
  case hygf2 => (refine Or.inl ⟨by rfl, ?_⟩; intro w' hSw; (try dsimp only at hSw); go_simp; try with_reducible rfl)
  (try simp only [Act.put, List.setIfInBounds_toArray, List.set_cons_zero, List.set_cons_succ])
  refine' wpAnyT_one (i := 3) (o := ?oigf3) (by kernel_rfl) ?higf3 (fun K hK => ?stgf3)
  case higf3 => (simp only [List.getElem?_toArray, List.getElem?_cons_zero, List.getElem?_cons_succ]; rfl)
  refine step_append_mes rfl (.tmp 83) (.tmp 84) rfl base _ n _ rfl (own_keep HOW.out (keep_below (HB0.out.mono (by rw [HG.out]; exact Nat.le_refl _)))) [] (.slice none 0 0) rfl HMM.out (by have := HNL.out; have := HML.out; omega) (by have := HBS.out; have := HB0.out.size; omega) ?_
  intro v8 X2 hown hgr
  have HK2 : Hid (∀ T, T ≠ 47 → Keep T X0 X2) := hid (fun T hT => keep_grown (own_keep HOW.out (keep_below (HB0.out.mono (by rw [HG.out]; exact Nat.le_refl _)))) hT hgr)
  have HP1 := hid (HK2.out 54 (by decide) _ _ J1.out)
  have HP2 := hid (HK2.out 54 (by decide) _ _ J2.out)
  have HB2 : Hid (Below base w X2) := hid (below_ownE (HB0.out.mono (by have := HBS.out; have := HG.out; omega)) (own_keep HOW.out (keep_below (HB0.out.mono (by rw [HG.out]; exact Nat.le_refl _)))) hgr (by have := HBS.out; have := HB0.out.size; omega) (Nat.le_refl _))
  have HOW2 := hid hown
  have hHeld : X2.cell? ⟨g, 0, none⟩ = some (.int .i64 al) ∧ X2.cell? ⟨g, 1, none⟩ = some (.int .i64 ar) ∧ X2.cell? ⟨g, 2, none⟩ = some (.int .i64 ae) ∧ X2.cell? ⟨g, 3, none⟩ = some (.int .i64 an) ∧ X2.cell? ⟨g, 4, none⟩ = some (.int .i64 ap) ∧ X2.cell? ⟨g, 5, none⟩ = some (.int .i64 ad) ∧ X2.cell? ⟨g, 6, none⟩ = some (.int .i64 bl) ∧ X2.cell? ⟨g, 7, none⟩ = some (.int .i64 br) ∧ X2.cell? ⟨g, 8, none⟩ = some (.int .i64 be) ∧ X2.cell? ⟨g, 9, none⟩ = some (.int .i64 bn) ∧ X2.cell? ⟨g, 10, none⟩ = some (.int .i64 bp) ∧ X2.cell? ⟨g, 11, none⟩ = some (.int .i64 bd) := by
    obtain ⟨⟨b0, b1, b2, b3, b4, b5⟩, r⟩ := load12 HP1.out
    exact ⟨b0, b1, b2, b3, b4, b5, r⟩
  clear hown hgr
  refine hK.out _ _ (fun _ => hHeld) ?_
  clear hK K
  (try simp only [Act.put, List.setIfInBounds_toArray, List.set_cons_zero, List.set_cons_succ])
  refine' wpAnyT_one (i := 4) (o := ?oigf4) (by kernel_rfl) ?higf4 (fun K hK => ?stgf4)
  case higf4 => (simp only [List.getElem?_toArray, List.getElem?_cons_zero, List.getElem?_cons_succ]; rfl)
  obtain ⟨⟨i0, i1, i2, i3, i4, i5⟩, i6, i7, i8, i9, i10, i11⟩ := load12 HP2.out
  simp only [z6] at i0 i1 i2 i3 i4 i5 i6 i7 i8 i9 i10 i11
  have ff := box_fr HP2.out
  go_simp
  obtain ⟨Y, hY⟩ : ∃ X, set12 X2 (g + 2) ⟨al, ar, ae, an, ap, ad⟩ ⟨bl, br, be, bn, bp, bd⟩ = X := ⟨_, rfl⟩
  have HY := hid hY
  simp only [set12, set6] at hY
  rw [hY]
  clear hY i0 i1 i2 i3 i4 i5 i6 i7 i8 i9 i10 i11 ff
  refine hK.out _ _ (fun h => absurd h (by decide)) ?_
  clear hK K
  (try simp only [Act.put, List.setIfInBounds_toArray, List.set_cons_zero, List.set_cons_succ])
  refine' wpAnyT_one (i := 5) (o := ?oigf5) (by kernel_rfl) ?higf5 (fun K hK => ?stgf5)
  case higf5 => (simp only [List.getElem?_toArray, List.getElem?_cons_zero, List.getElem?_cons_succ]; rfl)
  go_simp
  refine hK.out _ _ (fun h => absurd h (by decide)) ?_
  clear hK K
  (try simp only [Act.put, List.setIfInBounds_toArray, List.set_cons_zero, List.set_cons_succ])
  refine wpAnyT_done (by kernel_rfl) ?_ _
  go_wp2_with fail
  refine bodyPost_ret (results_t1 rfl _ _ (g + 2) 54 ⟨al, ar, ae, an, ap, ad⟩ ⟨bl, br, be, bn, bp, bd⟩ rfl (by rw [← HY.out]; exact set12h ⟨al, ar, ae, an, ap, ad⟩ ⟨bl, br, be, bn, bp, bd⟩ HP2.out) _ rfl) rfl ?_
  refine ⟨v8, rfl, ?_, ?_, fun T hT => ?_⟩
  · have e : ((sent ++ []).map cM).flatten = (sent.map cM).flatten ++ (([]).map cM).flatten := by rw [List.map_append, List.flatten_append]
    rw [e, List.length_append, HLN.out]
    exact own_keep HOW2.out (by rw [← HY.out]; exact keepT_set12 _ _ HP2.out (by decide))
  · rw [← HY.out]
    exact set12b _ _ HB2.out (by have := HBS.out; have := HG.out; omega)
  · rw [← HY.out]
    exact keepO_set12 _ _ (Keep.trans (keep_below (HB0.out.mono (by rw [HG.out]; exact Nat.le_refl _))) (HK2.out T hT)) (by have := HG.out; omega)
set_option maxHeartbeats 16000000 in
set_option maxRecDepth 100000 in
theorem step_f (a b : Ses) (sent : List Mes) (u : Value) (kd wh : Int) (now : Int) (base n : Nat) (w : World) (hbs : base ≤ w.heap.size) (hn : sent.length = n) (hnl : n ≤ 1000) (how : w.ownsRow base 47 8 u n (sent.map cM).flatten) (hkd : 0 ≤ kd ∧ kd ≤ 255) (hwh : 0 ≤ wh ∧ wh ≤ 255) (hnow : 0 ≤ now ∧ now ≤ 1000) :
    Calls Try.prog 27 #[tv a b, u, .agg #[.int .u8 kd, .bool false, .int .u8 wh], .int .i64 now] w (StepQ base (actS a sent (kd % 7) wh now).1 b (sent ++ (actS a sent (kd % 7) wh now).2) w) := by
  by_cases h0 : kd % 7 = 0
  · by_cases he : (dialR a now 3).2.2 = 0
    · exact step_dial_f a b sent u kd wh now base n w hbs hn hnl how hkd hwh hnow h0 he
    · exact step_dialn_f a b sent u kd wh now base n w hbs hn hnl how hkd hwh hnow h0 he
  by_cases h5 : kd % 7 = 5
  · exact step_exp_f a b sent u kd wh now base n w hbs hn hnl how hkd hwh hnow h5
  by_cases h6 : kd % 7 = 6
  · exact step_close_f a b sent u kd wh now base n w hbs hn hnl how hkd hwh hnow h6
  rcases Nat.eq_zero_or_pos n with hz | hz
  · exact step_rec0_f a b sent u kd wh now base n w hbs hn hnl how hkd hwh hnow ⟨h0, h5, h6⟩ hz
  · exact step_rec1_f a b sent u kd wh now base n w hbs hn hnl how hkd hwh hnow ⟨h0, h5, h6⟩ hz
end Go.Proofs.Ytkdladacmjkdoaa
