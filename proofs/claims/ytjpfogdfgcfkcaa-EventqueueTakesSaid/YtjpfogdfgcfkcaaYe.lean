/- First and Pop in full, and the reference's. -/
import Derived.Test.YtjpfogdfgcfkcaaYd
namespace Go.Proofs.Ytjpfogdfgcfkcaa
open Go.RowKit Go.Lib

def zE : Ec := (0, 0, 0, 0, [])
def fstE (l : List Ec) (next : Int) : Bool × Ec := if chk l next ≠ 0 then (false, zE) else match l with
  | [] => (false, zE)
  | y :: _ => (true, y)
def popE (l : List Ec) (next : Int) : List Ec × Int × Ec × Int := if chk l next ≠ 0 then ([], 0, zE, chk l next) else match l with
  | [] => ([], 0, zE, 7)
  | y :: r => (r, next, y, 0)
/-- What First answers. -/
def FQ (w : World) (r : Bool × Ec) (e : Ending) (w' : World) : Prop := ∃ d, e = .returned (.tuple #[.agg #[.int .i64 r.2.1, .int .i64 r.2.2.1, .int .i64 r.2.2.2.1, .int .i64 r.2.2.2.2.1, d], .bool r.1]) ∧ Byt w' d r.2.2.2.2.2 ∧ Below w.heap.size w w'
/-- What Pop answers. -/
def PQ (w : World) (r : List Ec × Int × Ec × Int) (e : Ending) (w' : World) : Prop := ∃ u vs d, e = .returned (.tuple #[.agg #[u, .int .i64 r.2.1], .agg #[.int .i64 r.2.2.1.1, .int .i64 r.2.2.1.2.1, .int .i64 r.2.2.1.2.2.1, .int .i64 r.2.2.1.2.2.2.1, d], .int .i64 r.2.2.2]) ∧ EL w' u vs ∧ vs.map core = r.1 ∧ Byt w' d r.2.2.1.2.2.2.2 ∧ Below w.heap.size w w'
theorem fq_of {w w' : World} {l : List Ec} {next : Int} {e : Ending} (hok : chk l next = 0) (h : FstQ w l e w') : FQ w (fstE l next) e w' := by
  obtain ⟨hb, ⟨rfl, rfl⟩ | ⟨y, r, x, rfl, rfl, hx, hp⟩⟩ := h
  · refine ⟨.slice none 0 0, ?_, ?_, hb⟩
    · unfold fstE; rw [hok, if_neg (by simp)]; rfl
    · unfold fstE; rw [hok, if_neg (by simp)]; exact byt_nil w'
  · subst hx
    refine ⟨x.d, ?_, ?_, hb⟩
    · unfold fstE; rw [hok, if_neg (by simp)]; rfl
    · unfold fstE; rw [hok, if_neg (by simp)]; exact hp.byt.1
theorem pq_of {w w' : World} {l : List Ec} {next : Int} {e : Ending} (hok : chk l next = 0) (h : PopQ w l next e w') : PQ w (popE l next) e w' := by
  rcases h with ⟨rfl, rfl, hb⟩ | ⟨y, r, q, x, rfl, rfl, ⟨u, vs, rfl, h4, h5, h6, h7⟩, hx, hp⟩
  · refine ⟨.slice none 0 0, [], .slice none 0 0, ?_, el_nil w', ?_, ?_, hb⟩
    · unfold popE; rw [hok, if_neg (by simp)]; rfl
    · unfold popE; rw [hok, if_neg (by simp)]; rfl
    · unfold popE; rw [hok, if_neg (by simp)]; exact byt_nil w'
  · subst hx
    refine ⟨u, vs, x.d, ?_, el_of_own h4 rfl h6, ?_, ?_, h7⟩
    · unfold popE; rw [hok, if_neg (by simp)]; rfl
    · unfold popE; rw [hok, if_neg (by simp)]; exact h5
    · unfold popE; rw [hok, if_neg (by simp)]; exact hp.byt.1
theorem fst_err {l : List Ec} {next : Int} (h : chk l next ≠ 0) : fstE l next = (false, zE) := by unfold fstE; rw [if_pos h]
theorem pop_err {l : List Ec} {next : Int} (h : chk l next ≠ 0) : popE l next = ([], 0, zE, chk l next) := by unfold popE; rw [if_pos h]
set_option maxHeartbeats 4000000 in
set_option maxRecDepth 100000 in
theorem popX_any (l : List Ev) (v : Value) (next : Int) (w : World) (hv : EL w v l) (hr : ∀ x ∈ l, R64 x.n) (hb : ∀ x ∈ l, x.p.length ≤ 100000) (hne : chk (l.map core) next ≠ 0) :
    Calls Try.prog 20 #[.agg #[v, .int .i64 next]] w (PQ w (popE (l.map core) next)) := by
  obtain ⟨A, c, rfl⟩ := el_form hv
  obtain ⟨N, hN⟩ : ∃ N, l.length = N := ⟨_, rfl⟩
  rw [hN] at hv ⊢
  obtain ⟨W1, hW1⟩ : ∃ W1, ((w.alloc (.cells #[.slice A N c, .int .i64 next] 24)).alloc (.cells #[.slice none 0 0, .int .i64 0] 24)).alloc (.cells #[.int .i64 0, .int .i64 0, .int .i64 0, .int .i64 0, .slice none 0 0] 32) = W1 := ⟨_, rfl⟩
  obtain ⟨g, hg⟩ : ∃ g, w.heap.size = g := ⟨_, rfl⟩
  have hb1 : Below w.heap.size w W1 := by rw [← hW1]; exact (((Below.refl _ w).alloc (Nat.le_refl _) _).alloc (by simp) _).alloc (by simp; omega) _
  have hx1 : W1.heap[g]? = some (.cells #[.slice A N c, .int .i64 next] 24) := by rw [← hW1, ← hg]; exact (Below.heap_alloc _ _ _ (by simp; omega)).trans ((Below.heap_alloc _ _ _ (by simp)).trans (heap_alloc_new w _))
  have hy1 : W1.heap[g + 1]? = some (.cells #[.slice none 0 0, .int .i64 0] 24) := by
    rw [← hW1, ← hg]
    refine (Below.heap_alloc _ _ _ (by simp)).trans ?_
    have h := heap_alloc_new (w.alloc (.cells #[.slice A N c, .int .i64 next] 24)) (.cells #[.slice none 0 0, .int .i64 0] 24)
    simpa using h
  have hu1 : W1.heap[g + 2]? = some (.cells #[.int .i64 0, .int .i64 0, .int .i64 0, .int .i64 0, .slice none 0 0] 32) := by
    rw [← hW1, ← hg]
    have h := heap_alloc_new ((w.alloc (.cells #[.slice A N c, .int .i64 next] 24)).alloc (.cells #[.slice none 0 0, .int .i64 0] 24)) (.cells #[.int .i64 0, .int .i64 0, .int .i64 0, .int .i64 0, .slice none 0 0] 32)
    simpa using h
  have hz1 : W1.heap.size = g + 3 := by rw [← hW1, ← hg]; simp
  have x0 : W1.cell? ⟨g, 0, none⟩ = some (.slice A N c) := cell_of_row _ _ 0 _ _ _ hx1
  have x1 : W1.cell? ⟨g, 1, none⟩ = some (.int .i64 next) := cell_of_row _ _ 1 _ _ _ hx1
  have HV := hid hv
  have HCK := hid (fun (X : World) (hX : Below w.heap.size w X) => check_any l _ next X (hv.below hX) hr)
  obtain ⟨ck, hck⟩ : ∃ ck, chk (l.map core) next = ck := ⟨_, rfl⟩
  rw [hck] at HCK
  have HCE := hid hck
  rw [hck] at hne
  have hc0 := hne
  have HPB := hid hb
  have HN := hid hN
  have HB1 := hid hb1
  have HX1 := hid hx1
  have HY1 := hid hy1
  have HU1 := hid hu1
  have HZ1 := hid hz1
  have HW1 := hid hW1
  have HG := hid hg
  clear hv hN hr hb hb1 hx1 hy1 hu1 hz1 hW1 hg hck hne
  go_enter Try.func20, Try.ntmps20
  go_wp2_with fail
  rw [HW1.out, HG.out]
  refine (HCK.out W1 HB1.out).mono ?_
  rintro e w2 ⟨rfl, hb2⟩
  have HX2 := hid ((hb2.block _ (box_lt HX1.out)).trans HX1.out)
  have HY2 := hid ((hb2.block _ (box_lt HY1.out)).trans HY1.out)
  have HU2 := hid ((hb2.block _ (box_lt HU1.out)).trans HU1.out)
  have HB2 := hid (HB1.out.trans (hb2.mono HB1.out.size))
  have hz2 : g + 3 ≤ w2.heap.size := by rw [← HZ1.out]; exact hb2.size
  clear hb2 x0 x1 HCK
  have x0 := cell_of_row _ _ 0 _ _ _ HX2.out
  have x1 := cell_of_row _ _ 1 _ _ _ HX2.out
  have d1 : (ck != 0) = true := by rw [bne_iff_ne]; exact hc0
  have HQ : Hid (popE (l.map core) next = ([], 0, zE, ck)) := hid (by rw [pop_err (by rw [HCE.out]; exact hc0), HCE.out])
  have y0 := cell_of_row _ _ 0 _ _ _ HY2.out
  have y1 := cell_of_row _ _ 1 _ _ _ HY2.out
  have fy0 := box_fr HY2.out 0
  have fy1 := box_fr HY2.out 1
  have z0 := cell_of_row _ _ 0 _ _ _ HU2.out
  have fz0 := box_fr HU2.out 0
  have z1 := cell_of_row _ _ 1 _ _ _ HU2.out
  have fz1 := box_fr HU2.out 1
  have z2 := cell_of_row _ _ 2 _ _ _ HU2.out
  have fz2 := box_fr HU2.out 2
  have z3 := cell_of_row _ _ 3 _ _ _ HU2.out
  have fz3 := box_fr HU2.out 3
  have z4 := cell_of_row _ _ 4 _ _ _ HU2.out
  have fz4 := box_fr HU2.out 4
  clear hc0
  go_wp2_with fail
  have hu3 : (set2 w2 (g + 1) (.slice none 0 0) (.int .i64 0)).heap[g + 2]? = some (.cells #[.int .i64 0, .int .i64 0, .int .i64 0, .int .i64 0, .slice none 0 0] 32) := (set2o _ _ (by omega)).trans HU2.out
  have hy3 : (set5 (set2 w2 (g + 1) (.slice none 0 0) (.int .i64 0)) (g + 2) (.int .i64 0) (.int .i64 0) (.int .i64 0) (.int .i64 0) (.slice none 0 0)).heap[g + 1]? = some (.cells #[.slice none 0 0, .int .i64 0] 24) := (set5o _ _ _ _ _ (by omega)).trans (set2h _ _ HY2.out)
  refine bodyPost_ret (results_vv_tmp rfl _ _ (g + 1) (g + 2) _ _ rfl (lv24 hy3) rfl (lv32 (set5h _ _ _ _ _ hu3)) _ rfl) rfl ?_
  exact ⟨.slice none 0 0, [], .slice none 0 0, by rw [HQ.out]; rfl, el_nil _, by rw [HQ.out]; rfl, by rw [HQ.out]; exact byt_nil _, set5b _ _ _ _ _ (set2b _ _ HB2.out (by rw [HG.out]; omega)) (by rw [HG.out]; omega)⟩
theorem popP_any (l : List Ev) (v : Value) (next : Int) (w : World) (hv : EL w v l) (hr : ∀ x ∈ l, R64 x.n) (hl : l.length ≤ 100000) (hb : ∀ x ∈ l, x.p.length ≤ 100000) :
    Calls Try.prog 20 #[.agg #[v, .int .i64 next]] w (PQ w (popE (l.map core) next)) := by
  by_cases h : chk (l.map core) next = 0
  · exact (pop_any l v next w hv hr hl hb h).mono fun e w' hq => pq_of h hq
  · exact popX_any l v next w hv hr hb h
set_option maxHeartbeats 4000000 in
set_option maxRecDepth 100000 in
theorem firstX_any (l : List Ev) (v : Value) (next : Int) (w : World) (hv : EL w v l) (hr : ∀ x ∈ l, R64 x.n) (hb : ∀ x ∈ l, x.p.length ≤ 100000) (hne : chk (l.map core) next ≠ 0) :
    Calls Try.prog 17 #[.agg #[v, .int .i64 next]] w (FQ w (fstE (l.map core) next)) := by
  obtain ⟨A, c, rfl⟩ := el_form hv
  obtain ⟨N, hN⟩ : ∃ N, l.length = N := ⟨_, rfl⟩
  rw [hN] at hv ⊢
  obtain ⟨W1, hW1⟩ : ∃ W1, (w.alloc (.cells #[.slice A N c, .int .i64 next] 24)).alloc (.cells #[.int .i64 0, .int .i64 0, .int .i64 0, .int .i64 0, .slice none 0 0] 32) = W1 := ⟨_, rfl⟩
  obtain ⟨g, hg⟩ : ∃ g, w.heap.size = g := ⟨_, rfl⟩
  have hb1 : Below w.heap.size w W1 := by rw [← hW1]; exact ((Below.refl _ w).alloc (Nat.le_refl _) _).alloc (by simp) _
  have hx1 : W1.heap[g]? = some (.cells #[.slice A N c, .int .i64 next] 24) := by rw [← hW1, ← hg]; exact (Below.heap_alloc _ _ _ (by simp)).trans (heap_alloc_new w _)
  have hu1 : W1.heap[g + 1]? = some (.cells #[.int .i64 0, .int .i64 0, .int .i64 0, .int .i64 0, .slice none 0 0] 32) := by
    rw [← hW1, ← hg]
    have h := heap_alloc_new (w.alloc (.cells #[.slice A N c, .int .i64 next] 24)) (.cells #[.int .i64 0, .int .i64 0, .int .i64 0, .int .i64 0, .slice none 0 0] 32)
    simpa using h
  have hz1 : W1.heap.size = g + 2 := by rw [← hW1, ← hg]; simp
  have x0 : W1.cell? ⟨g, 0, none⟩ = some (.slice A N c) := cell_of_row _ _ 0 _ _ _ hx1
  have x1 : W1.cell? ⟨g, 1, none⟩ = some (.int .i64 next) := cell_of_row _ _ 1 _ _ _ hx1
  have HV := hid hv
  have HCK := hid (fun (X : World) (hX : Below w.heap.size w X) => check_any l _ next X (hv.below hX) hr)
  obtain ⟨ck, hck⟩ : ∃ ck, chk (l.map core) next = ck := ⟨_, rfl⟩
  rw [hck] at HCK
  have HCE := hid hck
  rw [hck] at hne
  have hc0 := hne
  have HPB := hid hb
  have HN := hid hN
  have HB1 := hid hb1
  have HX1 := hid hx1
  have HU1 := hid hu1
  have HZ1 := hid hz1
  have HW1 := hid hW1
  have HG := hid hg
  clear hv hN hr hb hb1 hx1 hu1 hz1 hW1 hg hck hne
  go_enter Try.func17, Try.ntmps17
  go_wp2_with fail
  rw [HW1.out, HG.out]
  refine (HCK.out W1 HB1.out).mono ?_
  rintro e w2 ⟨rfl, hb2⟩
  have HX2 := hid ((hb2.block _ (box_lt HX1.out)).trans HX1.out)
  have HU2 := hid ((hb2.block _ (box_lt HU1.out)).trans HU1.out)
  have HB2 := hid (HB1.out.trans (hb2.mono HB1.out.size))
  have hz2 : g + 2 ≤ w2.heap.size := by rw [← HZ1.out]; exact hb2.size
  clear hb2 x0 x1 HCK
  have x0 := cell_of_row _ _ 0 _ _ _ HX2.out
  have d1 : (ck != 0) = true := by rw [bne_iff_ne]; exact hc0
  have HQ : Hid (fstE (l.map core) next = (false, zE)) := hid (fst_err (by rw [HCE.out]; exact hc0))
  have z0 := cell_of_row _ _ 0 _ _ _ HU2.out
  have fz0 := box_fr HU2.out 0
  have z1 := cell_of_row _ _ 1 _ _ _ HU2.out
  have fz1 := box_fr HU2.out 1
  have z2 := cell_of_row _ _ 2 _ _ _ HU2.out
  have fz2 := box_fr HU2.out 2
  have z3 := cell_of_row _ _ 3 _ _ _ HU2.out
  have fz3 := box_fr HU2.out 3
  have z4 := cell_of_row _ _ 4 _ _ _ HU2.out
  have fz4 := box_fr HU2.out 4
  clear hc0
  go_wp2_with fail
  refine bodyPost_ret (results_v_tmp rfl _ _ (g + 1) _ rfl (lv32 (set5h _ _ _ _ _ HU2.out)) _ rfl) rfl ?_
  exact ⟨.slice none 0 0, by rw [HQ.out]; rfl, by rw [HQ.out]; exact byt_nil _, set5b _ _ _ _ _ HB2.out (by rw [HG.out]; omega)⟩
theorem firstP_any (l : List Ev) (v : Value) (next : Int) (w : World) (hv : EL w v l) (hr : ∀ x ∈ l, R64 x.n) (hb : ∀ x ∈ l, x.p.length ≤ 100000) :
    Calls Try.prog 17 #[.agg #[v, .int .i64 next]] w (FQ w (fstE (l.map core) next)) := by
  by_cases h : chk (l.map core) next = 0
  · exact (first_any l v next w hv hr hb h).mono fun e w' hq => fq_of h hq
  · exact firstX_any l v next w hv hr hb h
set_option maxHeartbeats 4000000 in
set_option maxRecDepth 100000 in
theorem refFirst_any (l : List Ev) (v : Value) (next : Int) (w : World) (hv : EL w v l) (hb : ∀ x ∈ l, x.p.length ≤ 100000) :
    Calls Try.prog 18 #[.agg #[v, .int .i64 next]] w (FQ w (fstE (l.map core) next)) := by
  obtain ⟨A, c, rfl⟩ := el_form hv
  obtain ⟨N, hN⟩ : ∃ N, l.length = N := ⟨_, rfl⟩
  rw [hN] at hv ⊢
  obtain ⟨W1, hW1⟩ : ∃ W1, (w.alloc (.cells #[.slice A N c, .int .i64 next] 24)).alloc (.cells #[.int .i64 0, .int .i64 0, .int .i64 0, .int .i64 0, .slice none 0 0] 32) = W1 := ⟨_, rfl⟩
  obtain ⟨g, hg⟩ : ∃ g, w.heap.size = g := ⟨_, rfl⟩
  have hb1 : Below w.heap.size w W1 := by rw [← hW1]; exact ((Below.refl _ w).alloc (Nat.le_refl _) _).alloc (by simp) _
  have hx1 : W1.heap[g]? = some (.cells #[.slice A N c, .int .i64 next] 24) := by rw [← hW1, ← hg]; exact (Below.heap_alloc _ _ _ (by simp)).trans (heap_alloc_new w _)
  have hu1 : W1.heap[g + 1]? = some (.cells #[.int .i64 0, .int .i64 0, .int .i64 0, .int .i64 0, .slice none 0 0] 32) := by
    rw [← hW1, ← hg]
    have h := heap_alloc_new (w.alloc (.cells #[.slice A N c, .int .i64 next] 24)) (.cells #[.int .i64 0, .int .i64 0, .int .i64 0, .int .i64 0, .slice none 0 0] 32)
    simpa using h
  have hz1 : W1.heap.size = g + 2 := by rw [← hW1, ← hg]; simp
  have x0 : W1.cell? ⟨g, 0, none⟩ = some (.slice A N c) := cell_of_row _ _ 0 _ _ _ hx1
  have x1 : W1.cell? ⟨g, 1, none⟩ = some (.int .i64 next) := cell_of_row _ _ 1 _ _ _ hx1
  have HV := hid hv
  have HCK := hid (fun (X : World) (hX : Below w.heap.size w X) => refCheck_any l _ next X (hv.below hX))
  obtain ⟨ck, hck⟩ : ∃ ck, chk (l.map core) next = ck := ⟨_, rfl⟩
  rw [hck] at HCK
  have HCE := hid hck
  have HPB := hid hb
  have HN := hid hN
  have HB1 := hid hb1
  have HX1 := hid hx1
  have HU1 := hid hu1
  have HZ1 := hid hz1
  have HW1 := hid hW1
  have HG := hid hg
  clear hv hN hb hb1 hx1 hu1 hz1 hW1 hg hck
  go_enter Try.func18, Try.ntmps18
  go_wp2_with fail
  rw [HW1.out, HG.out]
  refine (HCK.out W1 HB1.out).mono ?_
  rintro e w2 ⟨rfl, hb2⟩
  have HX2 := hid ((hb2.block _ (box_lt HX1.out)).trans HX1.out)
  have HU2 := hid ((hb2.block _ (box_lt HU1.out)).trans HU1.out)
  have HB2 := hid (HB1.out.trans (hb2.mono HB1.out.size))
  have hz2 : g + 2 ≤ w2.heap.size := by rw [← HZ1.out]; exact hb2.size
  clear hb2 x0 x1 HCK
  have x0 := cell_of_row _ _ 0 _ _ _ HX2.out
  by_cases hc0 : ck ≠ 0
  · have d1 : (ck != 0) = true := by rw [bne_iff_ne]; exact hc0
    have HQ : Hid (fstE (l.map core) next = (false, zE)) := hid (fst_err (by rw [HCE.out]; exact hc0))
    have z0 := cell_of_row _ _ 0 _ _ _ HU2.out
    have fz0 := box_fr HU2.out 0
    have z1 := cell_of_row _ _ 1 _ _ _ HU2.out
    have fz1 := box_fr HU2.out 1
    have z2 := cell_of_row _ _ 2 _ _ _ HU2.out
    have fz2 := box_fr HU2.out 2
    have z3 := cell_of_row _ _ 3 _ _ _ HU2.out
    have fz3 := box_fr HU2.out 3
    have z4 := cell_of_row _ _ 4 _ _ _ HU2.out
    have fz4 := box_fr HU2.out 4
    clear hc0
    go_wp2_with fail
    refine bodyPost_ret (results_v_tmp rfl _ _ (g + 1) _ rfl (lv32 (set5h _ _ _ _ _ HU2.out)) _ rfl) rfl ?_
    exact ⟨.slice none 0 0, by rw [HQ.out]; rfl, by rw [HQ.out]; exact byt_nil _, set5b _ _ _ _ _ HB2.out (by rw [HG.out]; omega)⟩
  have hc0' : ck = 0 := Classical.not_not.1 hc0
  subst hc0'
  clear hc0
  by_cases hn0 : N = 0
  · have d0 : ((N : Int) == 0) = true := by rw [beq_iff_eq]; omega
    have HQ : Hid (fstE (l.map core) next = (false, zE)) := hid (by rw [List.eq_nil_of_length_eq_zero (HN.out.trans hn0)] at HCE ⊢; unfold fstE; rw [HCE.out, if_neg (by simp)]; rfl)
    have z0 := cell_of_row _ _ 0 _ _ _ HU2.out
    have fz0 := box_fr HU2.out 0
    have z1 := cell_of_row _ _ 1 _ _ _ HU2.out
    have fz1 := box_fr HU2.out 1
    have z2 := cell_of_row _ _ 2 _ _ _ HU2.out
    have fz2 := box_fr HU2.out 2
    have z3 := cell_of_row _ _ 3 _ _ _ HU2.out
    have fz3 := box_fr HU2.out 3
    have z4 := cell_of_row _ _ 4 _ _ _ HU2.out
    have fz4 := box_fr HU2.out 4
    clear hn0
    go_wp2_with fail
    refine bodyPost_ret (results_v_tmp rfl _ _ (g + 1) _ rfl (lv32 (set5h _ _ _ _ _ HU2.out)) _ rfl) rfl ?_
    exact ⟨.slice none 0 0, by rw [HQ.out]; rfl, by rw [HQ.out]; exact byt_nil _, set5b _ _ _ _ _ HB2.out (by rw [HG.out]; omega)⟩
  have d0 : ((N : Int) == 0) = false := by rw [beq_eq_false_iff_ne]; omega
  have hN0 : (0 : Int) < (N : Int) := by omega
  have hN1 : 0 < N := by omega
  obtain ⟨b, off, rfl, hbl, hc⟩ := el_cells HV.out (by rw [HN.out]; omega)
  obtain ⟨x, r, hxr⟩ : ∃ x r, l = x :: r := by
    rcases l with _ | ⟨x, r⟩
    · have := HN.out; simp at this; omega
    · exact ⟨x, r, rfl⟩
  obtain ⟨p0, p1, p2, p3, p4⟩ := hc 0 x (by rw [hxr]; rfl)
  rw [Nat.zero_mul, Nat.add_zero] at p0 p1 p2 p3 p4
  have hxb := HV.out.1 x (by rw [hxr]; exact List.mem_cons_self ..)
  have hxl := HPB.out x (by rw [hxr]; exact List.mem_cons_self ..)
  have HMAP : Hid (l.map core = core x :: r.map core) := hid (by rw [hxr]; rfl)
  clear hxr hc hn0
  obtain ⟨xt, xn, xk, xo, xd, xp⟩ := x
  dsimp only at p0 p1 p2 p3 p4 hxb hxl
  have HCE2 := hid (refCopy_any xt xn xk xo xd xp w2 (hxb.1.below HB2.out) hxb.2 (by omega))
  have HP8 : Hid (B8 xp) := hid hxb.1.1
  have q0 := (HB2.out.cell (p := ⟨b, off, none⟩) hbl).trans p0
  have q1 := (HB2.out.cell (p := ⟨b, off + 1, none⟩) hbl).trans p1
  have q2 := (HB2.out.cell (p := ⟨b, off + 2, none⟩) hbl).trans p2
  have q3 := (HB2.out.cell (p := ⟨b, off + 3, none⟩) hbl).trans p3
  have q4 := (HB2.out.cell (p := ⟨b, off + 4, none⟩) hbl).trans p4
  clear p0 p1 p2 p3 p4 hxb
  go_wp2_with fail
  refine HCE2.out.mono ?_
  rintro e w3 ⟨eA, ec, rfl, ho3, hb3⟩
  have hu3 := (hb3.block _ (box_lt HU2.out)).trans HU2.out
  have hbw := HB2.out.trans (hb3.mono HB2.out.size)
  have z0 := cell_of_row _ _ 0 _ _ _ hu3
  have fz0 := box_fr hu3 0
  have z1 := cell_of_row _ _ 1 _ _ _ hu3
  have fz1 := box_fr hu3 1
  have z2 := cell_of_row _ _ 2 _ _ _ hu3
  have fz2 := box_fr hu3 2
  have z3 := cell_of_row _ _ 3 _ _ _ hu3
  have fz3 := box_fr hu3 3
  have z4 := cell_of_row _ _ 4 _ _ _ hu3
  have fz4 := box_fr hu3 4
  go_wp2_with fail
  have hkeep : Keep 5 w3 (set5 w3 (g + 1) (.int .i64 xt) (.int .i64 xn) (.int .i64 xk) (.int .i64 xo) (.slice eA xp.length ec)) := fun k cs hk => (set5o _ _ _ _ _ (fun e => by rw [e, hu3] at hk; cases hk)).trans hk
  refine bodyPost_ret (results_v_tmp rfl _ _ (g + 1) _ rfl (lv32 (set5h _ _ _ _ _ hu3)) _ rfl) rfl ?_
  exact fq_of HCE.out ⟨set5b _ _ _ _ _ hbw (by rw [HG.out]; omega), .inr ⟨_, _, ⟨xt, xn, xk, xo, .slice eA xp.length ec, xp⟩, HMAP.out, rfl, rfl, Pay.keep (x := ⟨xt, xn, xk, xo, .slice eA xp.length ec, xp⟩) ⟨⟨_, ho3⟩, HP8.out⟩ hkeep⟩⟩
set_option maxHeartbeats 4000000 in
set_option maxRecDepth 100000 in
theorem refPop_any (l : List Ev) (v : Value) (next : Int) (w : World) (hv : EL w v l) (hl : l.length ≤ 100000) (hb : ∀ x ∈ l, x.p.length ≤ 100000) :
    Calls Try.prog 21 #[.agg #[v, .int .i64 next]] w (PQ w (popE (l.map core) next)) := by
  obtain ⟨A, c, rfl⟩ := el_form hv
  obtain ⟨N, hN⟩ : ∃ N, l.length = N := ⟨_, rfl⟩
  rw [hN] at hv hl ⊢
  obtain ⟨W1, hW1⟩ : ∃ W1, ((w.alloc (.cells #[.slice A N c, .int .i64 next] 24)).alloc (.cells #[.slice none 0 0, .int .i64 0] 24)).alloc (.cells #[.int .i64 0, .int .i64 0, .int .i64 0, .int .i64 0, .slice none 0 0] 32) = W1 := ⟨_, rfl⟩
  obtain ⟨g, hg⟩ : ∃ g, w.heap.size = g := ⟨_, rfl⟩
  have hb1 : Below w.heap.size w W1 := by rw [← hW1]; exact (((Below.refl _ w).alloc (Nat.le_refl _) _).alloc (by simp) _).alloc (by simp; omega) _
  have hx1 : W1.heap[g]? = some (.cells #[.slice A N c, .int .i64 next] 24) := by rw [← hW1, ← hg]; exact (Below.heap_alloc _ _ _ (by simp; omega)).trans ((Below.heap_alloc _ _ _ (by simp)).trans (heap_alloc_new w _))
  have hy1 : W1.heap[g + 1]? = some (.cells #[.slice none 0 0, .int .i64 0] 24) := by
    rw [← hW1, ← hg]
    refine (Below.heap_alloc _ _ _ (by simp)).trans ?_
    have h := heap_alloc_new (w.alloc (.cells #[.slice A N c, .int .i64 next] 24)) (.cells #[.slice none 0 0, .int .i64 0] 24)
    simpa using h
  have hu1 : W1.heap[g + 2]? = some (.cells #[.int .i64 0, .int .i64 0, .int .i64 0, .int .i64 0, .slice none 0 0] 32) := by
    rw [← hW1, ← hg]
    have h := heap_alloc_new ((w.alloc (.cells #[.slice A N c, .int .i64 next] 24)).alloc (.cells #[.slice none 0 0, .int .i64 0] 24)) (.cells #[.int .i64 0, .int .i64 0, .int .i64 0, .int .i64 0, .slice none 0 0] 32)
    simpa using h
  have hz1 : W1.heap.size = g + 3 := by rw [← hW1, ← hg]; simp
  have x0 : W1.cell? ⟨g, 0, none⟩ = some (.slice A N c) := cell_of_row _ _ 0 _ _ _ hx1
  have x1 : W1.cell? ⟨g, 1, none⟩ = some (.int .i64 next) := cell_of_row _ _ 1 _ _ _ hx1
  have HV := hid hv
  have HCK := hid (fun (X : World) (hX : Below w.heap.size w X) => refCheck_any l _ next X (hv.below hX))
  obtain ⟨ck, hck⟩ : ∃ ck, chk (l.map core) next = ck := ⟨_, rfl⟩
  rw [hck] at HCK
  have HCE := hid hck
  have HPB := hid hb
  have HN := hid hN
  have HB1 := hid hb1
  have HX1 := hid hx1
  have HY1 := hid hy1
  have HU1 := hid hu1
  have HZ1 := hid hz1
  have HW1 := hid hW1
  have HG := hid hg
  clear hv hN hb hb1 hx1 hy1 hu1 hz1 hW1 hg hck
  go_enter Try.func21, Try.ntmps21
  go_wp2_with fail
  rw [HW1.out, HG.out]
  refine (HCK.out W1 HB1.out).mono ?_
  rintro e w2 ⟨rfl, hb2⟩
  have HX2 := hid ((hb2.block _ (box_lt HX1.out)).trans HX1.out)
  have HY2 := hid ((hb2.block _ (box_lt HY1.out)).trans HY1.out)
  have HU2 := hid ((hb2.block _ (box_lt HU1.out)).trans HU1.out)
  have HB2 := hid (HB1.out.trans (hb2.mono HB1.out.size))
  have hz2 : g + 3 ≤ w2.heap.size := by rw [← HZ1.out]; exact hb2.size
  clear hb2 x0 x1 HCK
  have x0 := cell_of_row _ _ 0 _ _ _ HX2.out
  have x1 := cell_of_row _ _ 1 _ _ _ HX2.out
  by_cases hc0 : ck ≠ 0
  · have d1 : (ck != 0) = true := by rw [bne_iff_ne]; exact hc0
    have HQ : Hid (popE (l.map core) next = ([], 0, zE, ck)) := hid (by rw [pop_err (by rw [HCE.out]; exact hc0), HCE.out])
    have y0 := cell_of_row _ _ 0 _ _ _ HY2.out
    have y1 := cell_of_row _ _ 1 _ _ _ HY2.out
    have fy0 := box_fr HY2.out 0
    have fy1 := box_fr HY2.out 1
    have z0 := cell_of_row _ _ 0 _ _ _ HU2.out
    have fz0 := box_fr HU2.out 0
    have z1 := cell_of_row _ _ 1 _ _ _ HU2.out
    have fz1 := box_fr HU2.out 1
    have z2 := cell_of_row _ _ 2 _ _ _ HU2.out
    have fz2 := box_fr HU2.out 2
    have z3 := cell_of_row _ _ 3 _ _ _ HU2.out
    have fz3 := box_fr HU2.out 3
    have z4 := cell_of_row _ _ 4 _ _ _ HU2.out
    have fz4 := box_fr HU2.out 4
    clear hc0
    go_wp2_with fail
    have hu3 : (set2 w2 (g + 1) (.slice none 0 0) (.int .i64 0)).heap[g + 2]? = some (.cells #[.int .i64 0, .int .i64 0, .int .i64 0, .int .i64 0, .slice none 0 0] 32) := (set2o _ _ (by omega)).trans HU2.out
    have hy3 : (set5 (set2 w2 (g + 1) (.slice none 0 0) (.int .i64 0)) (g + 2) (.int .i64 0) (.int .i64 0) (.int .i64 0) (.int .i64 0) (.slice none 0 0)).heap[g + 1]? = some (.cells #[.slice none 0 0, .int .i64 0] 24) := (set5o _ _ _ _ _ (by omega)).trans (set2h _ _ HY2.out)
    refine bodyPost_ret (results_vv_tmp rfl _ _ (g + 1) (g + 2) _ _ rfl (lv24 hy3) rfl (lv32 (set5h _ _ _ _ _ hu3)) _ rfl) rfl ?_
    exact ⟨.slice none 0 0, [], .slice none 0 0, by rw [HQ.out]; rfl, el_nil _, by rw [HQ.out]; rfl, by rw [HQ.out]; exact byt_nil _, set5b _ _ _ _ _ (set2b _ _ HB2.out (by rw [HG.out]; omega)) (by rw [HG.out]; omega)⟩
  have hc0' : ck = 0 := Classical.not_not.1 hc0
  subst hc0'
  clear hc0
  by_cases hn0 : N = 0
  · have d0 : ((N : Int) == 0) = true := by rw [beq_iff_eq]; omega
    have HQ : Hid (popE (l.map core) next = ([], 0, zE, 7)) := hid (by rw [List.eq_nil_of_length_eq_zero (HN.out.trans hn0)] at HCE ⊢; unfold popE; rw [HCE.out, if_neg (by simp)]; rfl)
    have y0 := cell_of_row _ _ 0 _ _ _ HY2.out
    have y1 := cell_of_row _ _ 1 _ _ _ HY2.out
    have fy0 := box_fr HY2.out 0
    have fy1 := box_fr HY2.out 1
    have z0 := cell_of_row _ _ 0 _ _ _ HU2.out
    have fz0 := box_fr HU2.out 0
    have z1 := cell_of_row _ _ 1 _ _ _ HU2.out
    have fz1 := box_fr HU2.out 1
    have z2 := cell_of_row _ _ 2 _ _ _ HU2.out
    have fz2 := box_fr HU2.out 2
    have z3 := cell_of_row _ _ 3 _ _ _ HU2.out
    have fz3 := box_fr HU2.out 3
    have z4 := cell_of_row _ _ 4 _ _ _ HU2.out
    have fz4 := box_fr HU2.out 4
    clear hn0
    go_wp2_with fail
    have hu3 : (set2 w2 (g + 1) (.slice none 0 0) (.int .i64 0)).heap[g + 2]? = some (.cells #[.int .i64 0, .int .i64 0, .int .i64 0, .int .i64 0, .slice none 0 0] 32) := (set2o _ _ (by omega)).trans HU2.out
    have hy3 : (set5 (set2 w2 (g + 1) (.slice none 0 0) (.int .i64 0)) (g + 2) (.int .i64 0) (.int .i64 0) (.int .i64 0) (.int .i64 0) (.slice none 0 0)).heap[g + 1]? = some (.cells #[.slice none 0 0, .int .i64 0] 24) := (set5o _ _ _ _ _ (by omega)).trans (set2h _ _ HY2.out)
    refine bodyPost_ret (results_vv_tmp rfl _ _ (g + 1) (g + 2) _ _ rfl (lv24 hy3) rfl (lv32 (set5h _ _ _ _ _ hu3)) _ rfl) rfl ?_
    exact ⟨.slice none 0 0, [], .slice none 0 0, by rw [HQ.out]; rfl, el_nil _, by rw [HQ.out]; rfl, by rw [HQ.out]; exact byt_nil _, set5b _ _ _ _ _ (set2b _ _ HB2.out (by rw [HG.out]; omega)) (by rw [HG.out]; omega)⟩
  have d0 : ((N : Int) == 0) = false := by rw [beq_eq_false_iff_ne]; omega
  have hN0 : (0 : Int) < (N : Int) := by omega
  have hN1 : 0 < N := by omega
  obtain ⟨b, off, rfl, hbl, hc⟩ := el_cells HV.out (by rw [HN.out]; omega)
  obtain ⟨x, r, hxr⟩ : ∃ x r, l = x :: r := by
    rcases l with _ | ⟨x, r⟩
    · have := HN.out; simp at this; omega
    · exact ⟨x, r, rfl⟩
  obtain ⟨p0, p1, p2, p3, p4⟩ := hc 0 x (by rw [hxr]; rfl)
  rw [Nat.zero_mul, Nat.add_zero] at p0 p1 p2 p3 p4
  have hxb := HV.out.1 x (by rw [hxr]; exact List.mem_cons_self ..)
  have hxl := HPB.out x (by rw [hxr]; exact List.mem_cons_self ..)
  have HMAP : Hid (l.map core = core x :: r.map core) := hid (by rw [hxr]; rfl)
  have HPT := hid (fun (X : World) (hX : Below w.heap.size w X) => without_any l (.slice (some ⟨b, off, none⟩) N c) next 0 X (HV.out.below hX) (by rw [HN.out]; exact hl) HPB.out)
  have hmid : (l.eraseIdx 0).map core = r.map core := by rw [hxr]; rfl
  rw [hmid] at HPT
  clear hmid hxr hc hn0
  obtain ⟨xt, xn, xk, xo, xd, xp⟩ := x
  dsimp only at p0 p1 p2 p3 p4 hxb hxl
  have HCE2 := hid (fun (X : World) (hX : Below w.heap.size w X) => refCopy_any xt xn xk xo xd xp X (hxb.1.below hX) hxb.2 (by omega))
  have hK : ∀ X, Below w2.heap.size w2 X → X.cell? ⟨g, 0, none⟩ = some (.slice (some ⟨b, off, none⟩) N c) ∧ X.cell? ⟨g, 1, none⟩ = some (.int .i64 next) ∧ X.cell? ⟨b, off, none⟩ = some (.int .i64 xt) ∧ X.cell? ⟨b, off + 1, none⟩ = some (.int .i64 xn) ∧ X.cell? ⟨b, off + 2, none⟩ = some (.int .i64 xk) ∧ X.cell? ⟨b, off + 3, none⟩ = some (.int .i64 xo) ∧ X.cell? ⟨b, off + 4, none⟩ = some xd := fun X hX =>
    have hw := HB2.out.trans (hX.mono HB2.out.size)
    ⟨(hX.cell (p := ⟨g, 0, none⟩) (box_lt HX2.out)).trans x0, (hX.cell (p := ⟨g, 1, none⟩) (box_lt HX2.out)).trans x1, (hw.cell (p := ⟨b, off, none⟩) hbl).trans p0, (hw.cell (p := ⟨b, off + 1, none⟩) hbl).trans p1, (hw.cell (p := ⟨b, off + 2, none⟩) hbl).trans p2, (hw.cell (p := ⟨b, off + 3, none⟩) hbl).trans p3, (hw.cell (p := ⟨b, off + 4, none⟩) hbl).trans p4⟩
  have HK := hid hK
  have HP8 : Hid (B8 xp) := hid hxb.1.1
  clear hK hxb p0 p1 p2 p3 p4
  go_wp2_with fail
  refine region_tail 7 (fun X => X.cell? ⟨g, 0, none⟩ = some (.slice (some ⟨b, off, none⟩) N c) ∧ X.cell? ⟨g, 1, none⟩ = some (.int .i64 next) ∧ X.cell? ⟨b, off, none⟩ = some (.int .i64 xt) ∧ X.cell? ⟨b, off + 1, none⟩ = some (.int .i64 xn) ∧ X.cell? ⟨b, off + 2, none⟩ = some (.int .i64 xk) ∧ X.cell? ⟨b, off + 3, none⟩ = some (.int .i64 xo) ∧ X.cell? ⟨b, off + 4, none⟩ = some xd) (by kernel_rfl) ?_
  obtain ⟨X0, hX0⟩ : ∃ X, w2.drew = X := ⟨_, rfl⟩
  have hB0 : Below w2.heap.size w2 X0 := by rw [← hX0]; exact (Below.refl w2.heap.size w2).drew
  have hHeld := HK.out X0 hB0
  rw [hX0]
  clear hX0 x0 x1
  refine' wpAnyT_take (i := 0) (oi := ?oirp0) (v := ?vrp0) ?hirp0 (by kernel_rfl) (by kernel_rfl) ?hqrp0 ?hyrp0 hHeld ?restrp0
  case hirp0 => (simp only [List.getElem?_toArray, List.getElem?_cons_zero]; rfl)
  case hqrp0 => exact fun _ _ _ h => h
  case hyrp0 => (refine Or.inl ⟨by rfl, ?_⟩; intro w' hSw; (try dsimp only at hSw); go_simp; try with_reducible rfl)
  (try simp only [Act.put, List.setIfInBounds_toArray, List.set_cons_zero, List.set_cons_succ])
  refine' wpAnyT_take (i := 2) (oi := ?oirp2) (v := ?vrp2) ?hirp2 (by kernel_rfl) (by kernel_rfl) ?hqrp2 ?hyrp2 hHeld ?restrp2
  case hirp2 => (simp only [List.getElem?_toArray, List.getElem?_cons_zero, List.getElem?_cons_succ]; rfl)
  case hqrp2 => exact fun _ _ _ h => h
  case hyrp2 => (refine Or.inl ⟨by rfl, ?_⟩; intro w' hSw; (try dsimp only at hSw); go_simp; try with_reducible rfl)
  (try simp only [Act.put, List.setIfInBounds_toArray, List.set_cons_zero, List.set_cons_succ])
  refine' wpAnyT_take (i := 3) (oi := ?oirp3) (v := ?vrp3) ?hirp3 (by kernel_rfl) (by kernel_rfl) ?hqrp3 ?hyrp3 hHeld ?restrp3
  case hirp3 => (simp only [List.getElem?_toArray, List.getElem?_cons_zero, List.getElem?_cons_succ]; rfl)
  case hqrp3 => exact fun _ _ _ h => h
  case hyrp3 => (refine Or.inl ⟨by rfl, ?_⟩; intro w' hSw; (try dsimp only at hSw); go_simp; try with_reducible rfl)
  (try simp only [Act.put, List.setIfInBounds_toArray, List.set_cons_zero, List.set_cons_succ])
  refine' wpAnyT_take (i := 4) (oi := ?oirp4) (v := ?vrp4) ?hirp4 (by kernel_rfl) (by kernel_rfl) ?hqrp4 ?hyrp4 hHeld ?restrp4
  case hirp4 => (simp only [List.getElem?_toArray, List.getElem?_cons_zero, List.getElem?_cons_succ]; rfl)
  case hqrp4 => exact fun _ _ _ h => h
  case hyrp4 => (refine Or.inl ⟨by rfl, ?_⟩; intro w' hSw; (try dsimp only at hSw); go_simp; try with_reducible rfl)
  (try simp only [Act.put, List.setIfInBounds_toArray, List.set_cons_zero, List.set_cons_succ])
  refine' wpAnyT_take (i := 5) (oi := ?oirp5) (v := ?vrp5) ?hirp5 (by kernel_rfl) (by kernel_rfl) ?hqrp5 ?hyrp5 hHeld ?restrp5
  case hirp5 => (simp only [List.getElem?_toArray, List.getElem?_cons_zero, List.getElem?_cons_succ]; rfl)
  case hqrp5 => exact fun _ _ _ h => h
  case hyrp5 => (refine Or.inl ⟨by rfl, ?_⟩; intro w' hSw; (try dsimp only at hSw); go_simp; try with_reducible rfl)
  (try simp only [Act.put, List.setIfInBounds_toArray, List.set_cons_zero, List.set_cons_succ])
  refine' wpAnyT_one (i := 1) (o := ?oirp1) (by kernel_rfl) ?hirp1 (fun K hK => ?strp1)
  case hirp1 => (simp only [List.getElem?_toArray, List.getElem?_cons_zero, List.getElem?_cons_succ]; rfl)
  go_simp
  go_at_call 38
  refine (HPT.out X0 (HB2.out.trans (hB0.mono HB2.out.size))).mono ?_
  rintro e wa ⟨qa, rfl, va, vs, rfl, hoa, hca, hpa, hba⟩
  obtain ⟨vA, vc, rfl⟩ := own_form32 hoa
  obtain ⟨n2, hn2⟩ : ∃ n2, vs.length = n2 := ⟨_, rfl⟩
  rw [hn2] at hoa ⊢
  have hbka := hB0.trans (hba.mono hB0.size)
  have hHeld2 := HK.out wa hbka
  go_simp
  refine hK.out _ _ (fun _ => hHeld2) ?_
  clear hK K
  (try simp only [Act.put, List.setIfInBounds_toArray, List.set_cons_zero, List.set_cons_succ])
  clear hHeld
  have hHeld := hHeld2
  clear hHeld2
  refine' wpAnyT_one (i := 6) (o := ?oirp6) (by kernel_rfl) ?hirp6 (fun K hK => ?strp6)
  case hirp6 => (simp only [List.getElem?_toArray, List.getElem?_cons_zero, List.getElem?_cons_succ]; rfl)
  go_simp
  go_at_call 36
  refine (HCE2.out wa (HB2.out.trans (hbka.mono HB2.out.size))).mono ?_
  rintro e wb ⟨eA, ec, rfl, hob, hbb⟩
  have hbkb := hbka.trans (hbb.mono hbka.size)
  have hHeld2 := HK.out wb hbkb
  go_simp
  refine hK.out _ _ (fun _ => hHeld2) ?_
  clear hK K
  (try simp only [Act.put, List.setIfInBounds_toArray, List.set_cons_zero, List.set_cons_succ])
  clear hHeld hHeld2
  have hyb := (hbkb.block _ (box_lt HY2.out)).trans HY2.out
  have hub := (hbkb.block _ (box_lt HU2.out)).trans HU2.out
  have y0 := cell_of_row _ _ 0 _ _ _ hyb
  have y1 := cell_of_row _ _ 1 _ _ _ hyb
  have fy0 := box_fr hyb 0
  have fy1 := box_fr hyb 1
  have z0 := cell_of_row _ _ 0 _ _ _ hub
  have z1 := cell_of_row _ _ 1 _ _ _ hub
  have z2 := cell_of_row _ _ 2 _ _ _ hub
  have z3 := cell_of_row _ _ 3 _ _ _ hub
  have z4 := cell_of_row _ _ 4 _ _ _ hub
  have fz0 := box_fr hub 0
  have fz1 := box_fr hub 1
  have fz2 := box_fr hub 2
  have fz3 := box_fr hub 3
  have fz4 := box_fr hub 4
  refine' wpAnyT_one (i := 7) (o := ?oirp7) (by kernel_rfl) ?hirp7 (fun K hK => ?strp7)
  case hirp7 => (simp only [List.getElem?_toArray, List.getElem?_cons_zero, List.getElem?_cons_succ]; rfl)
  go_simp
  refine hK.out _ _ (fun h => absurd h (by decide)) ?_
  clear hK K
  (try simp only [Act.put, List.setIfInBounds_toArray, List.set_cons_zero, List.set_cons_succ])
  refine' wpAnyT_one (i := 8) (o := ?oirp8) (by kernel_rfl) ?hirp8 (fun K hK => ?strp8)
  case hirp8 => (simp only [List.getElem?_toArray, List.getElem?_cons_zero, List.getElem?_cons_succ]; rfl)
  go_simp
  refine hK.out _ _ (fun h => absurd h (by decide)) ?_
  clear hK K
  (try simp only [Act.put, List.setIfInBounds_toArray, List.set_cons_zero, List.set_cons_succ])
  refine' wpAnyT_one (i := 9) (o := ?oirp9) (by kernel_rfl) ?hirp9 (fun K hK => ?strp9)
  case hirp9 => (simp only [List.getElem?_toArray, List.getElem?_cons_zero, List.getElem?_cons_succ]; rfl)
  go_simp
  refine hK.out _ _ (fun h => absurd h (by decide)) ?_
  clear hK K
  (try simp only [Act.put, List.setIfInBounds_toArray, List.set_cons_zero, List.set_cons_succ])
  refine wpAnyT_done (by kernel_rfl) ?_ _
  go_wp2_with fail
  have hX0 := hB0.size
  have hws : w.heap.size ≤ w2.heap.size := HB2.out.size
  have howa := own_base (B' := w.heap.size) (own_keep hoa (keep_below hbb)) (by omega)
  have howb := own_base (B' := w.heap.size) hob (by have := hbka.size; omega)
  have hna : ∀ k, (Value.slice vA n2 vc).ownBlock = some k → k ≠ g + 1 := own_ne howa hyb (by decide)
  have hna2 : ∀ k, (Value.slice vA n2 vc).ownBlock = some k → k ≠ g + 2 := fun k e => by have h1 := (hoa.lt k e).1; have h2 := hB0.size; omega
  obtain ⟨Y, hY⟩ : ∃ Y, set2 wb (g + 1) (.slice vA n2 vc) (.int .i64 next) = Y := ⟨_, rfl⟩
  have hu3 : Y.heap[g + 2]? = some (.cells #[.int .i64 0, .int .i64 0, .int .i64 0, .int .i64 0, .slice none 0 0] 32) := by rw [← hY]; exact (set2o _ _ (by omega)).trans hub
  have hy3 : (set5 Y (g + 2) (.int .i64 xt) (.int .i64 xn) (.int .i64 xk) (.int .i64 xo) (.slice eA xp.length ec)).heap[g + 1]? = some (.cells #[.slice vA n2 vc, .int .i64 next] 24) := (set5o _ _ _ _ _ (by omega)).trans (by rw [← hY]; exact set2h _ _ hyb)
  have hkeep : Keep 5 wb (set5 Y (g + 2) (.int .i64 xt) (.int .i64 xn) (.int .i64 xk) (.int .i64 xo) (.slice eA xp.length ec)) := fun k cs hk => (set5o _ _ _ _ _ (fun e => by rw [e, hub] at hk; cases hk)).trans (by rw [← hY]; exact (set2o _ _ (fun e => by rw [e, hyb] at hk; cases hk)).trans hk)
  refine bodyPost_ret (results_vv_tmp rfl _ _ (g + 1) (g + 2) _ _ rfl (lv24 (by have h := hy3; rw [← hY] at h; exact h)) rfl (lv32 (by have h := set5h (.int .i64 xt) (.int .i64 xn) (.int .i64 xk) (.int .i64 xo) (.slice eA xp.length ec) hu3; rw [← hY] at h; exact h)) _ rfl) rfl ?_
  have hfin : PopQ w (l.map core) next (.returned (.tuple #[.agg #[.slice vA n2 vc, .int .i64 next], .agg #[.int .i64 xt, .int .i64 xn, .int .i64 xk, .int .i64 xo, .slice eA xp.length ec], .int .i64 0])) (set5 Y (g + 2) (.int .i64 xt) (.int .i64 xn) (.int .i64 xk) (.int .i64 xo) (.slice eA xp.length ec)) := by
    refine .inr ⟨_, _, _, ⟨xt, xn, xk, xo, .slice eA xp.length ec, xp⟩, HMAP.out, rfl, ⟨_, vs, rfl, ?_, hca, fun x hx => ((hpa x hx).keep (keep_below hbb)).keep hkeep, ?_⟩, rfl, ?_⟩
    · rw [hn2]
      refine set5own ?_ hna2
      rw [← hY]
      exact set2r _ _ howa hna
    · refine set5b _ _ _ _ _ ?_ (by rw [HG.out]; omega)
      rw [← hY]
      exact set2b _ _ (HB2.out.trans (hbkb.mono HB2.out.size)) (by rw [HG.out]; omega)
    · exact Pay.keep (x := ⟨xt, xn, xk, xo, .slice eA xp.length ec, xp⟩) ⟨⟨_, howb⟩, HP8.out⟩ hkeep
  rw [← hY] at hfin
  exact pq_of HCE.out hfin
end Go.Proofs.Ytjpfogdfgcfkcaa
