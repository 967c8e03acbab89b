/- The reader's extent, bytes. -/
import Derived.Test.YtchpoddfjbopbaaS
import Derived.Laws.Rows
namespace Go.Proofs.Ytchpoddfjbopbaa
open Go.RowKit Go.Lib

theorem und66 : Try.prog.underlying 66 = some (.struct (Try.prog.fieldsOf 66)) := by kernel_rfl
theorem size66 : (Try.prog.info? 66).map (·.size) = some 2 := by kernel_rfl
theorem Rd.lt {w0 w : World} {g : Nat} {s : List Nat} {er : Int} (h : Rd w0 w g s er) : g < w.heap.size := by
  obtain ⟨v, hb, _⟩ := h
  exact box_lt hb
theorem Rd.alloc {w0 w : World} {g : Nat} {s : List Nat} {er : Int} (h : Rd w0 w g s er) (o : Obj) : Rd w0 (w.alloc o) g s er := by
  obtain ⟨v, hb, h2⟩ := h
  exact ⟨v, (Below.heap_alloc _ _ _ (box_lt hb)).trans hb, h2⟩
theorem Rd.set {w0 w : World} {g c i : Nat} {s : List Nat} {er : Int} (h : Rd w0 w g s er) (hc : g ≠ c) (u : Value) : Rd w0 (w.setCell ⟨c, i, none⟩ u) g s er := by
  obtain ⟨v, hb, h2⟩ := h
  exact ⟨v, (Below.heap_setCell _ _ _ _ hc).trans hb, h2⟩
theorem Upd.new {g : Nat} {a b : World} (h : Upd g a b) {c i : Nat} (hc : a.heap.size ≤ c) (u : Value) : Upd g a (b.setCell ⟨c, i, none⟩ u) :=
  ⟨h.low.setCell (Nat.zero_le _) u, fun k hk hg => (Below.heap_setCell _ _ _ _ (by show k ≠ c; omega)).trans (h.block k hk hg)⟩
theorem below_upd {g B : Nat} {a b c : World} (h : Below B a b) (k : Upd g b c) (hg : B ≤ g) (hB : B ≤ b.heap.size) : Below B a c := h.trans (k.below hg hB)

def VExt (_ : World) (v : Value) (x : Nat × Nat) : Prop := v = .agg #[.int .i64 (x.1 : Int), .int .i64 (x.2 : Int)]
def ShExt (v : Value) : Prop := ∃ a b : Nat, a ≤ 9007199254740991 ∧ b ≤ 9007199254740991 ∧ v = .agg #[.int .i64 (a : Int), .int .i64 (b : Int)]
theorem vnat {w : World} {n x : Nat} (h : VNat w (.int .i64 (n : Int)) x) : x = n := by unfold VNat at h; injection h with _ h; omega
/-- Reading leaves no more than there was. -/
def Shrinks {α : Type} (D : Reads α) : Prop := ∀ s x t, D s = .ok (x, t) → t.length ≤ s.length
theorem shr_num : Shrinks dNum := fun s x t h => by
  unfold dNum at h
  split at h
  · injection h with h
    injection h with _ h
    rw [← h, List.length_drop]; omega
  · cases h
theorem shr_pair {α β : Type} {D : Reads α} {D' : Reads β} (h : Shrinks D) (h' : Shrinks D') : Shrinks (dPair D D') := fun s x t e => by
  obtain ⟨u, e1, e2⟩ := dPair_inv e
  exact Nat.le_trans (h' _ _ _ e2) (h _ _ _ e1)
theorem shr_take (k : Nat) : Shrinks (dTake k) := fun s x t h => by
  unfold dTake at h
  split at h
  · cases h
  · cases h
    rw [List.length_drop]; omega
theorem shr_len {α : Type} {D : Nat → Reads α} (h : ∀ n, Shrinks (D n)) : Shrinks (dLen D) := fun s x t e => by
  unfold dLen at e
  rcases h1 : dNum s with er | ⟨n, u⟩
  · rw [h1] at e; cases e
  · rw [h1] at e
    simp only at e
    split at e
    · cases e
    · exact Nat.le_trans (h n _ _ _ e) (shr_num _ _ _ h1)
theorem shr_many {α : Type} {D : Reads α} (h : Shrinks D) (n : Nat) : Shrinks (dMany D n) := by
  induction n with
  | zero => intro s x t e; simp only [dMany] at e; cases e; omega
  | succ n ih =>
    intro s x t e
    rw [dMany] at e
    rcases h1 : D s with er | ⟨a, u⟩
    · simp only [h1] at e; cases e
    · simp only [h1] at e
      rcases h2 : dMany D n u with er | ⟨l, r⟩
      · simp only [h2] at e; cases e
      · simp only [h2] at e
        cases e
        exact Nat.le_trans (ih _ _ _ h2) (h _ _ _ h1)
/-- What was read at s in the state er, and where reading has come to. -/
def After {α : Type} (D : Reads α) (V : World → Value → α → Prop) (w1 : World) (v : Value) (s : List Nat) (er : Int) (s1 : List Nat) (er1 : Int) : Prop :=
  (er = 0 ∧ er1 = 0 ∧ ∃ x, V w1 v x ∧ D s = .ok (x, s1)) ∨ (er1 ≠ 0 ∧ (er = 0 → D s = .error er1) ∧ (er ≠ 0 → er1 = er))
theorem got_after {α : Type} {D : Reads α} (hD : Shrinks D) {V : World → Value → α → Prop} {w0 w1 : World} {v : Value} {g : Nat} {s : List Nat} {er : Int}
    (h : (∃ x t, er = 0 ∧ D s = .ok (x, t) ∧ V w1 v x ∧ Rd w0 w1 g t 0) ∨ ∃ er', er' ≠ 0 ∧ (er = 0 → D s = .error er') ∧ (er ≠ 0 → er' = er) ∧ Rd w0 w1 g [] er') :
    ∃ s1 er1, Rd w0 w1 g s1 er1 ∧ (er1 ≠ 0 → s1 = []) ∧ s1.length ≤ s.length ∧ After D V w1 v s er s1 er1 := by
  rcases h with ⟨x, t, he, hd, hv, hr⟩ | ⟨er', he', ha, hb, hr⟩
  · exact ⟨t, 0, hr, fun h => absurd rfl h, hD _ _ _ hd, .inl ⟨he, rfl, x, hv, hd⟩⟩
  · exact ⟨[], er', hr, fun _ => rfl, by simp, .inr ⟨he', ha, hb⟩⟩

set_option maxHeartbeats 2000000 in
set_option maxRecDepth 100000 in
theorem rext_any (s : List Nat) (er : Int) (g : Nat) (w0 w : World) (hb0 : Below w0.heap.size w0 w) (hbg : w0.heap.size ≤ g) (hr : Rd w0 w g s er) (he : er ≠ 0 → s = []) (hl : s.length ≤ 90000) :
    Calls Try.prog 74 #[.pointer (some ⟨g, 0, none⟩)] w (Got dExt VExt ShExt w0 w g s er) := by
  have hb0s := hb0.size
  have hgl := hr.lt
  have HP := hid (rnum_any s er g w0 (w.alloc (.cells #[.int .i64 0, .int .i64 0] 66)) (hb0.alloc hb0s _) (hr.alloc _) he hl)
  have HU0 := hid ((Upd.refl g w).alloc (.cells #[.int .i64 0, .int .i64 0] 66))
  have HB0 := hid hb0
  have HN := hid (fun (s' : List Nat) (er' : Int) (W : World) (hu : Upd g w W) (hr : Rd w0 W g s' er') (he : er' ≠ 0 → s' = []) (hl : s'.length ≤ 90000) => rnum_any s' er' g w0 W (below_upd hb0 hu hbg hb0s) hr he hl)
  have hx := heap_alloc_new w (.cells #[.int .i64 0, .int .i64 0] 66)
  obtain ⟨W, hW⟩ : ∃ W, w.alloc (.cells #[.int .i64 0, .int .i64 0] 66) = W := ⟨_, rfl⟩
  rw [hW] at HP HU0 hx
  have HX := hid hx
  have hWs : W.heap.size = w.heap.size + 1 := by rw [← hW]; simp
  have hWl : w.heap.size < W.heap.size := by omega
  clear hr he hb0 hx hWs
  go_enter Try.func74, Try.ntmps74
  go_wp2_with fail
  refine HP.out.mono ?_
  rintro e w1 ⟨v1, rfl, ⟨n, hn, rfl⟩, hu1, h1⟩
  have HU1 := hid (HU0.out.trans hu1)
  have HX1 := hid ((hu1.block _ hWl (by omega)).trans HX.out)
  have hz1 := hu1.low.size
  obtain ⟨s1, er1, hr1, hs1, hl1, h1⟩ := got_after shr_num h1
  have HC1 := hid (HN.out s1 er1 w1 HU1.out hr1 hs1 (by omega))
  have H1 := hid h1
  clear hr1 hs1 hl1 h1 hu1
  go_wp2_with fail
  refine HC1.out.mono ?_
  rintro e w2 ⟨v2, rfl, ⟨m, hm, rfl⟩, hu2, h2⟩
  have HU2 := hid (HU1.out.trans hu2)
  have hx2 := (hu2.block _ (by omega) (by omega)).trans HX1.out
  have hz2 := hu2.low.size
  have H2 := hid h2
  have cz0 : w2.cell? ⟨w.heap.size, 0, none⟩ = some (.int .i64 0) := cell_of_row _ _ 0 _ _ _ hx2
  have cz1 : w2.cell? ⟨w.heap.size, 1, none⟩ = some (.int .i64 0) := cell_of_row _ _ 1 _ _ _ hx2
  have fz0 := box_fr hx2 0
  have fz1 := box_fr hx2 1
  have HX2 := hid hx2
  clear hu2 h2 hx2
  go_wp2
  refine bodyPost_ret (results_cell_row rfl _ _ w.heap.size 66 #[.int .i64 (n : Int), .int .i64 (m : Int)] (0, 0) _ rfl (box_s1 (box_s0 HX2.out _) _) und66 rfl size66) rfl ?_
  refine ⟨_, rfl, ⟨n, m, hn, hm, rfl⟩, (HU2.out.new (Nat.le_refl _) _).new (Nat.le_refl _) _, ?_⟩
  rcases H2.out with ⟨x, t, he, hd, hv, hr⟩ | ⟨er', he', ha, hb, hr⟩
  · obtain rfl := vnat hv
    rcases H1.out with ⟨h0, _, y, hy, hd1⟩ | ⟨hne, _⟩
    · obtain rfl := vnat hy
      exact .inl ⟨(y, x), t, h0, dPair_ok hd1 hd, rfl, (hr.set (by omega) _).set (by omega) _⟩
    · exact absurd he hne
  · refine .inr ⟨er', he', fun h0 => ?_, fun h0 => ?_, (hr.set (by omega) _).set (by omega) _⟩
    · rcases H1.out with ⟨_, h1, y, _, hd1⟩ | ⟨hne, h2, _⟩
      · exact dPair_err' hd1 (ha h1)
      · rw [hb hne]; exact dPair_err (h2 h0)
    · rcases H1.out with ⟨h1, _⟩ | ⟨hne, _, h3⟩
      · exact absurd h1 h0
      · rw [hb hne, h3 h0]
end Go.Proofs.Ytchpoddfjbopbaa
