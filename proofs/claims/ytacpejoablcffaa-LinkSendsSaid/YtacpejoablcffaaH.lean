/- Insert. -/
import Derived.Test.YtacpejoablcffaaG
import Derived.Shelf.Spec.SlicesInsertGrow
namespace Go.Proofs.Ytacpejoablcffaa
open Go.RowKit Go.Lib

theorem size69 (w : World) : (sizeOf 69).run Try.prog w = .ok 3 w := by kernel_rfl
theorem run_copy3 {W : World} {g : Nat} {A M C news : List Value} (hg : W.heap[g]? = some (.cells (A ++ M ++ C).toArray 69)) (off dLen dc sLen sc : Nat) (hoff : off = A.length) (hM : M.length = news.length) (k : Nat) (hk : Nat.min sLen dLen = k) (hl : news.length = k * 3) (sa : Addr)
    (hnews : ∀ j u, news[j]? = some u → W.cell? (sa.add j) = some u) (h1 : ∀ u ∈ news, u.oneCell' = true) (ty : TypeId) :
    (Builtin.copy_ #[24, 24] ty #[.slice (some ⟨g, off, none⟩) dLen dc, .slice (some sa) sLen sc]).run Try.prog W = .ok (goInt k) (W.setRow g (A ++ news ++ C).toArray) := by
  have hf := run_firstCells_some (P := Try.prog) W 3 k sa sLen sc news hl hnews
  have hst := run_storeCells_at (P := Try.prog) g off 69 news 0 (A ++ M ++ C).toArray W hg (by simp; omega) h1
  have e1 : (A ++ M ++ C).take off = A := by rw [hoff, List.append_assoc, List.take_left]
  have e2 : (A ++ M ++ C).drop (off + news.length) = C := by rw [hoff, ← hM, ← List.length_append, List.drop_left]
  simp only [Nat.add_zero] at hst
  rw [e1, e2] at hst
  simp [Builtin.copy_, run_underlying Try.underlying24, Builtin.lenOf, hk, hf, hst]
theorem grown_setRow {w : World} {g : Nat} {cur new : Array Value} {t : TypeId} {fr : Nat × Nat} (_hg : w.heap[g]? = some (.cells cur t fr)) : w.grownBy (w.setRow g new) (some g) :=
  ⟨rfl, rfl, rfl, by simp, fun i _ hi => setRow_other _ _ _ _ (fun e => hi (by rw [e]))⟩
theorem grown_setRowD {w : World} {g : Nat} {cur new : Array Value} {t : TypeId} {fr : Nat × Nat} (_hg : w.heap[g]? = some (.cells cur t fr)) : w.grownBy (w.drew.setRow g new) (some g) :=
  ⟨rfl, rfl, rfl, by simp, fun i _ hi => setRow_other w.drew _ _ _ (fun e => hi (by rw [e]))⟩
theorem grown_trans {a b c : World} {row : Option Nat} (h : a.grownBy b row) (k : b.grownBy c row) : a.grownBy c row :=
  ⟨k.os.trans h.os, k.tape.trans h.tape, k.output.trans h.output, Nat.le_trans h.size k.size, fun i hi hne => (k.block i (Nat.lt_of_lt_of_le hi h.size) hne).trans (h.block i hi hne)⟩
theorem from_some {g c k : Nat} (h : k < c) : fromN 3 (some ⟨g, 0, none⟩) c k = some ⟨g, k * 3, none⟩ := by
  unfold fromN
  rw [if_neg (by omega)]
  show some ((⟨g, 0, none⟩ : Addr).add (k * 3)) = _
  rw [add_at, Nat.zero_add]
def InsQ (w : World) (base : Nat) (v : Value) (n : Nat) (cs : List Value) (e : Ending) (w' : World) : Prop :=
  ∃ v', e = .returned v' ∧ w'.ownsRow base 69 3 v' (n + 1) cs ∧ w.grownBy w' v.ownBlock
set_option maxHeartbeats 4000000 in
set_option maxRecDepth 100000 in
theorem insEnd_any (base : Nat) (v : Value) (n : Nat) (olds cs : List Value) (vb : Nat) (w : World) (hown : w.ownsRow base 69 3 v n olds) (hl : n ≤ 100000) (hcs : cs.length = 3) (hc1 : ∀ u ∈ cs, u.oneCell' = true)
    (hx : ∀ j u, cs[j]? = some u → w.cell? ⟨vb, j, none⟩ = some u) (hbase : base ≤ w.heap.size) :
    Calls Try.prog 54 #[v, .int .i64 (n : Int), .slice (some ⟨vb, 0, none⟩) 1 1] w (InsQ w base v n (olds ++ cs)) := by
  obtain ⟨A, c, rfl⟩ := own_form69 hown
  have hr := run_from24 A n c n (Nat.le_refl _)
  obtain ⟨fA, hfA⟩ : ∃ fA, fromN 3 A c n = fA := ⟨_, rfl⟩
  rw [hfA] at hr
  have HO := hid hown
  have HX := hid hx
  clear hown hx hfA
  go_enter Try.func54, Try.ntmps54
  go_wp2_with (at_builtin; refine append_one rfl (.tmp 23) (.tmp 24) rfl base (.slice A n c) n _ rfl HO.out cs hcs hc1 ⟨vb, 0, none⟩ 1 rfl (fun j u hu => by rw [add_at, Nat.zero_add]; exact HX.out j u hu) (by omega) hbase ?_; intro v2 w2 ho2 hg2; have HO2 := hid ho2; have HG2 := hid hg2; clear ho2 hg2)
  go_ret
  exact ⟨_, rfl, HO2.out, HG2.out⟩
theorem overlaps_no {g vb off lb cb k c : Nat} {w : World} {cg cv : Array Value} {T : TypeId} (hg : w.heap[g]? = some (.cells cg 69)) (hv : w.heap[vb]? = some (.cells cv T)) (hne : vb ≠ g) (hs : cg.size ≠ 0) :
    (callFunc 56 #[.slice (some ⟨vb, 0, none⟩) k c, .slice (some ⟨g, off, none⟩) lb cb]).run Try.prog w = .ok (.value (.bool false)) w := by
  have hfr : ∀ i, w.frozen? ⟨vb, i, none⟩ = false := fun i => box_fr hv i
  rw [run_callFunc_extern Try.func56 (by kernel_rfl) (by kernel_rfl) (by kernel_rfl) (e := Extern.SlicesOverlaps.overlaps #[24, 24] #[4]) (by kernel_rfl),
    Lib.run_overlaps_apart w 24 4 69 Try.underlying24 3 size69 ⟨vb, 0, none⟩ ⟨g, off, none⟩ k c lb cb hne T 69 cv.size cg.size (by unfold World.shape?; rw [hv]) (by unfold World.shape?; rw [hg]) hs (hfr 0) (hfr _)]
  rfl
set_option maxHeartbeats 4000000 in
set_option maxRecDepth 100000 in
theorem insRoom_any (base g c n i : Nat) (p s ys cs : List Value) (vb : Nat) (T : TypeId) (w : World) (hg : w.heap[g]? = some (.cells (p ++ s ++ ys).toArray 69)) (hb : base ≤ g) (hi : i < n) (hl : n ≤ 100000) (hp : p.length = i * 3) (hs : s.length = (n - i) * 3) (hy : ys.length = (c - n) * 3) (hnc : n < c) (hcm : c ≤ maxLen)
    (hps : ∀ u ∈ p ++ s, u.oneCell' = true) (hcs : cs.length = 3) (hc1 : ∀ u ∈ cs, u.oneCell' = true) (hv : w.heap[vb]? = some (.cells cs.toArray T)) (hne : vb ≠ g) :
    Calls Try.prog 54 #[.slice (some ⟨g, 0, none⟩) n c, .int .i64 (i : Int), .slice (some ⟨vb, 0, none⟩) 1 1] w (InsQ w base (.slice (some ⟨g, 0, none⟩) n c) n (p ++ cs ++ s)) := by
  obtain ⟨r, hr⟩ : ∃ r, n - i = r := ⟨_, rfl⟩
  have hr0 : 0 < r := by omega
  rw [hr] at hs
  -- the cells that stand behind the first copy
  obtain ⟨m1, m2, hm, hm1⟩ : ∃ m1 m2, s ++ ys = m1 ++ m2 ∧ m1.length = 3 := ⟨(s ++ ys).take 3, (s ++ ys).drop 3, (List.take_append_drop 3 _).symm, by rw [List.length_take, List.length_append]; omega⟩
  obtain ⟨m3, m4, hm', hm3⟩ : ∃ m3 m4, m2 = m3 ++ m4 ∧ m3.length = s.length := ⟨m2.take s.length, m2.drop s.length, (List.take_append_drop _ _).symm, by
    have h := congrArg List.length hm
    rw [List.length_append, List.length_append] at h
    rw [List.length_take]; omega⟩
  have hm4 : m4.length = (c - n) * 3 - 3 := by
    have h := congrArg List.length hm
    rw [hm', List.length_append, List.length_append, List.length_append] at h
    omega
  have hg1 : w.heap[g]? = some (.cells ((p ++ m1) ++ m3 ++ m4).toArray 69) := by
    rw [hg, List.append_assoc p s ys, hm, hm']; simp [List.append_assoc]
  obtain ⟨W1, hW1⟩ : ∃ W1, w.drew.setRow g ((p ++ m1) ++ s ++ m4).toArray = W1 := ⟨_, rfl⟩
  have hgW1 : W1.heap[g]? = some (.cells (p ++ m1 ++ (s ++ m4)).toArray 69) := by rw [← hW1, setRow_heap w.drew g _ _ 69 (0, 0) hg1, List.append_assoc (p ++ m1)]
  have hvW1 : W1.heap[vb]? = some (.cells cs.toArray T) := by rw [← hW1, setRow_other _ _ _ _ hne]; exact hv
  obtain ⟨W2, hW2⟩ : ∃ W2, W1.setRow g (p ++ cs ++ (s ++ m4)).toArray = W2 := ⟨_, rfl⟩
  have hgW2 : W2.heap[g]? = some (.cells (p ++ cs ++ (s ++ m4)).toArray 69) := by rw [← hW2, setRow_heap W1 g _ _ 69 (0, 0) hgW1]
  have hgr : w.grownBy W2 (some g) := by
    have h1 : w.grownBy W1 (some g) := by rw [← hW1]; exact grown_setRowD hg1
    have h2 : W1.grownBy W2 (some g) := by rw [← hW2]; exact grown_setRow hgW1
    exact grown_trans h1 h2
  have hsl1 := fun W : World => run_from24 (some ⟨g, 0, none⟩) n c i (by omega) W
  have hsl2 := fun W : World => run_to24 (some ⟨g, 0, none⟩) n c (n + 1) (by omega) W
  have hsl3 := fun W : World => run_from24 (some ⟨g, 0, none⟩) (n + 1) c (i + 1) (by omega) W
  have hsl4 := fun W : World => run_from24 (some ⟨g, 0, none⟩) (n + 1) c i (by omega) W
  rw [from_some (show i < c by omega)] at hsl1 hsl4
  rw [from_some (show i + 1 < c by omega)] at hsl3
  obtain ⟨n1, hn1⟩ : ∃ n1, n + 1 = n1 := ⟨_, rfl⟩
  obtain ⟨i1, hi1⟩ : ∃ i1, i + 1 = i1 := ⟨_, rfl⟩
  have hr1 : n1 - i1 = r := by omega
  obtain ⟨r2, hr2⟩ : ∃ r2, n1 - i = r2 := ⟨_, rfl⟩
  obtain ⟨ci, hci⟩ : ∃ x, c - i = x := ⟨_, rfl⟩
  obtain ⟨ci1, hci1⟩ : ∃ x, c - i1 = x := ⟨_, rfl⟩
  rw [hn1] at hsl2 hsl3 hsl4
  rw [hi1] at hsl3
  rw [hr, hci] at hsl1
  rw [hr1, hci1] at hsl3
  rw [hr2, hci] at hsl4
  have hw1 : IntKind.i64.wrap ((n : Int) + 1) = (n1 : Int) := by rw [IntKind.wrap_i64]; omega
  have hw2 : IntKind.i64.wrap ((i : Int) + 1) = (i1 : Int) := by rw [IntKind.wrap_i64]; omega
  have dz : ((i : Int) == (n : Int)) = false := by rw [beq_eq_false_iff_ne]; omega
  have dc : decide ((c : Int) < (n1 : Int)) = false := decide_eq_false (by omega)
  have dcN : decide (c < n1) = false := decide_eq_false (by omega)
  have hov := fun (lb cb : Nat) => overlaps_no (off := i1 * 3) (lb := lb) (cb := cb) (k := 1) (c := 1) hg hv hne (by rw [List.size_toArray]; simp only [List.length_append]; omega)
  have HCP1 := hid (fun ty : TypeId => run_copy3 (W := w.drew) (g := g) (A := p ++ m1) (M := m3) (C := m4) (news := s) hg1 (i1 * 3) r ci1 r2 ci (by rw [List.length_append, hp, hm1]; omega) hm3 r (by simp only [Nat.min_def]; split <;> omega) hs ⟨g, i * 3, none⟩ (fun j u hj => by
    rw [add_at]
    show w.cell? _ = _
    rw [cell_of_row _ _ _ _ _ _ hg, List.getElem?_toArray, List.append_assoc, List.getElem?_append_right (show p.length ≤ i * 3 + j by omega)]
    rw [show i * 3 + j - p.length = j by omega, List.getElem?_append_left (List.getElem?_eq_some_iff.1 hj).1]
    exact hj) (fun u hu => hps u (List.mem_append.2 (.inr hu))) ty)
  have HCP2 := hid (fun ty : TypeId => run_copy3 (W := W1) (g := g) (A := p) (M := m1) (C := s ++ m4) (news := cs) hgW1 (i * 3) r2 ci 1 1 hp.symm (by rw [hm1, hcs]) 1 (by simp only [Nat.min_def]; split <;> omega) (by rw [hcs]) ⟨vb, 0, none⟩ (fun j u hj => by
    rw [add_at, Nat.zero_add, cell_of_row _ _ _ _ _ _ hvW1, List.getElem?_toArray]
    exact hj) hc1 ty)
  rw [hW1] at HCP1
  rw [hW2] at HCP2
  have HG := hid hgW2
  have HGR := hid hgr
  have HLEN : Hid ((p ++ cs ++ (s ++ m4)).length = c * 3) := hid (by simp only [List.length_append]; omega)
  have HN1 := hid hn1
  have HTK : Hid ((p ++ cs ++ (s ++ m4)).take (n1 * 3) = p ++ cs ++ s) := hid (by
    rw [← List.append_assoc, show n1 * 3 = (p ++ cs ++ s).length by simp only [List.length_append]; omega, List.take_left])
  have HL2 : Hid ((p ++ cs ++ s).length = n1 * 3) := hid (by simp only [List.length_append]; omega)
  have hn1c : n1 ≤ c := by omega
  have mixed : Try.prog.follows .mixedOrders = true := by kernel_rfl
  clear hg1 hgW1 hvW1 hW1 hW2 hm hm' hm1 hm3 hm4 hp hs hy hps hcs hc1 hv hgW2 hgr hg hr hr1 hr2 hci hci1 hi1 hn1
  go_enter Try.func54, Try.ntmps54
  go_wp2_with (simp only [hov])
  go_region_law_o (refine Go.Proofs.step_copy_runI rfl _ _ 24 24 rfl _ _ (by simp [Act.eval, Act.put]) (by simp [Act.eval, Act.put]) (HCP1.out _) ?_)
  go_wp2_with (refine Go.Proofs.wpList_copy_runI _ rfl (.tmp 80) (.tmp 81) 24 24 rfl _ _ rfl rfl (HCP2.out _) ?_)
  go_ret
  exact ⟨.slice (some ⟨g, 0, none⟩) n1 c, rfl, ⟨by rw [HN1.out]; exact HL2.out, .inr ⟨g, c, _, by rw [HN1.out], hb, HG.out, by rw [HN1.out]; exact hn1c, hcm, by simpa using HLEN.out, by rw [HN1.out]; simpa using HTK.out⟩⟩, HGR.out⟩
set_option maxHeartbeats 4000000 in
set_option maxRecDepth 100000 in
theorem insGrow_any (base g c n i : Nat) (p s ys cs : List Value) (vb : Nat) (T : TypeId) (w : World) (hg : w.heap[g]? = some (.cells (p ++ s ++ ys).toArray 69)) (hb : base ≤ w.heap.size) (hi : i < n) (hl : n ≤ 100000) (hp : p.length = i * 3) (hs : s.length = (n - i) * 3) (hnc : n ≤ c) (hcn : c < n + 1)
    (hps : ∀ u ∈ p ++ s, u.oneCell' = true) (hcs : cs.length = 3) (hc1 : ∀ u ∈ cs, u.oneCell' = true) (hv : w.heap[vb]? = some (.cells cs.toArray T)) :
    Calls Try.prog 54 #[.slice (some ⟨g, 0, none⟩) n c, .int .i64 (i : Int), .slice (some ⟨vb, 0, none⟩) 1 1] w (InsQ w base (.slice (some ⟨g, 0, none⟩) n c) n (p ++ cs ++ s)) := by
  obtain ⟨r, hr⟩ : ∃ r, n - i = r := ⟨_, rfl⟩
  have hr0 : 0 < r := by omega
  rw [hr] at hs
  obtain ⟨i0, hi0, hz0, hzs, hzb⟩ := info_parts info69
  have hold : (Builtin.firstCells i0.size i (.slice (some ⟨g, 0, none⟩) i c)).run Try.prog w.drew = .ok p.toArray w.drew := by
    rw [hzs]
    exact run_firstCells_some w.drew 3 i ⟨g, 0, none⟩ i c p hp (fun j u hj => by
      rw [add_at, Nat.zero_add]
      show w.cell? _ = _
      rw [cell_of_row _ _ _ _ _ _ hg, List.getElem?_toArray, List.append_assoc, List.getElem?_append_left (List.getElem?_eq_some_iff.1 hj).1]
      exact hj)
  obtain ⟨n1, hn1⟩ : ∃ n1, n + 1 = n1 := ⟨_, rfl⟩
  obtain ⟨i1, hi1⟩ : ∃ i1, i + 1 = i1 := ⟨_, rfl⟩
  obtain ⟨r2, hr2⟩ : ∃ r2, n1 - i = r2 := ⟨_, rfl⟩
  have hir : i + r2 = n1 := by omega
  have hap := fun ty : TypeId => Lib.run_append_grow_zeros w 24 3 ty 69 i0 _ .i64 .i64 Try.underlying24 Try.underlying3 hi0 hz0 (some ⟨g, 0, none⟩) i c p hold r2 (by omega) (by omega) (by omega) (by omega) (by rw [hzb]; omega) (by rw [hzb, hir]; exact growslice_fits (by omega) (by omega))
  rw [hir] at hap
  obtain ⟨G, hG⟩ : ∃ G, grownCap w n1 c 69 = G := ⟨_, rfl⟩
  have hGn : n1 ≤ G := by rw [← hG]; exact grownCap_ge w _ _ _
  have hGm : G ≤ maxLen := by rw [← hG]; exact grownCap_le_maxLen w n1 c 69 (by unfold maxLen; omega)
  rw [hG] at hap
  -- the new row, in three pieces behind p
  obtain ⟨Z, hZ⟩ : ∃ Z : List Value, (Builtin.zeroCells (Value.agg #[.int .i64 0, .int .i64 0, .slice none 0 0]).cells r2).toList ++ (Builtin.zeroCells (Value.agg #[.int .i64 0, .int .i64 0, .slice none 0 0]).cells (G - n1)).toList = Z := ⟨_, rfl⟩
  have hZl : Z.length = r2 * 3 + (G - n1) * 3 := by
    rw [← hZ, List.length_append, Array.length_toList, Array.length_toList, size_zeroCells, size_zeroCells]
    rfl
  obtain ⟨W1, hW1⟩ : ∃ W1, w.drew.alloc (.cells (p.toArray ++ Builtin.zeroCells (Value.agg #[.int .i64 0, .int .i64 0, .slice none 0 0]).cells r2 ++ Builtin.zeroCells (Value.agg #[.int .i64 0, .int .i64 0, .slice none 0 0]).cells (G - n1)) 69) = W1 := ⟨_, rfl⟩
  rw [hW1] at hap
  obtain ⟨h, hh⟩ : ∃ h, w.heap.size = h := ⟨_, rfl⟩
  have hgW1 : W1.heap[h]? = some (.cells (p ++ Z).toArray 69) := by
    rw [← hW1, ← hh]
    have := heap_alloc_new w.drew (.cells (p.toArray ++ Builtin.zeroCells (Value.agg #[.int .i64 0, .int .i64 0, .slice none 0 0]).cells r2 ++ Builtin.zeroCells (Value.agg #[.int .i64 0, .int .i64 0, .slice none 0 0]).cells (G - n1)) 69)
    refine Eq.trans this ?_
    congr 2
    rw [← hZ]
    simp [← Array.toList_inj]
  obtain ⟨m1, m2, hm, hm1⟩ : ∃ m1 m2, Z = m1 ++ m2 ∧ m1.length = 3 := ⟨Z.take 3, Z.drop 3, (List.take_append_drop 3 _).symm, by rw [List.length_take]; omega⟩
  obtain ⟨m3, m4, hm', hm3⟩ : ∃ m3 m4, m2 = m3 ++ m4 ∧ m3.length = s.length := ⟨m2.take s.length, m2.drop s.length, (List.take_append_drop _ _).symm, by
    have h := congrArg List.length hm
    rw [List.length_append] at h
    rw [List.length_take]; omega⟩
  have hm4 : m4.length = (G - n1) * 3 := by
    have h := congrArg List.length hm
    rw [hm', List.length_append, List.length_append] at h
    omega
  have hg1 : W1.heap[h]? = some (.cells (p ++ m1 ++ (m3 ++ m4)).toArray 69) := by rw [hgW1, hm, hm']; simp [List.append_assoc]
  have hgr1 : w.grownBy W1 none := by rw [← hW1]; exact ⟨rfl, rfl, rfl, by simp, fun i hi _ => heap_alloc_old w.drew _ _ hi⟩
  obtain ⟨W2, hW2⟩ : ∃ W2, W1.setRow h (p ++ cs ++ (m3 ++ m4)).toArray = W2 := ⟨_, rfl⟩
  have hgW2 : W2.heap[h]? = some (.cells ((p ++ cs) ++ m3 ++ m4).toArray 69) := by rw [← hW2, setRow_heap W1 h _ _ 69 (0, 0) hg1, List.append_assoc (p ++ cs)]
  obtain ⟨W3, hW3⟩ : ∃ W3, W2.drew.setRow h ((p ++ cs) ++ s ++ m4).toArray = W3 := ⟨_, rfl⟩
  have hgW3 : W3.heap[h]? = some (.cells ((p ++ cs) ++ s ++ m4).toArray 69) := by rw [← hW3, setRow_heap W2.drew h _ _ 69 (0, 0) hgW2]
  have hvl : vb < w.heap.size := box_lt hv
  have hgl : g < w.heap.size := box_lt hg
  have hvW1 : W1.heap[vb]? = some (.cells cs.toArray T) := (hgr1.block vb hvl (by simp)).trans hv
  have hgW2' : W2.heap[g]? = some (.cells (p ++ s ++ ys).toArray 69) := by rw [← hW2, setRow_other _ _ _ _ (show g ≠ h by omega)]; exact (hgr1.block g hgl (by simp)).trans hg
  have hgr : w.grownBy W3 none := ⟨by rw [← hW3, ← hW2]; exact hgr1.os, by rw [← hW3, ← hW2]; exact hgr1.tape, by rw [← hW3, ← hW2]; exact hgr1.output, by rw [← hW3, ← hW2]; simpa using hgr1.size, fun i hi hne => by
    rw [← hW3, setRow_other W2.drew _ _ _ (show i ≠ h by omega)]
    show W2.heap[i]? = _
    rw [← hW2, setRow_other _ _ _ _ (show i ≠ h by omega)]
    exact hgr1.block i hi hne⟩
  have hsl1 := fun W : World => run_from24 (some ⟨g, 0, none⟩) n c i (by omega) W
  have hsl2 := fun W : World => run_to24 (some ⟨g, 0, none⟩) n c i (by omega) W
  have hsl3 := fun W : World => run_from24 (some ⟨h, 0, none⟩) n1 G i (by omega) W
  have hsl4 := fun W : World => run_from24 (some ⟨h, 0, none⟩) n1 G i1 (by omega) W
  rw [from_some (show i < c by omega)] at hsl1
  rw [from_some (show i < G by omega)] at hsl3
  rw [from_some (show i1 < G by omega)] at hsl4
  have hr1 : n1 - i1 = r := by omega
  obtain ⟨ci, hci⟩ : ∃ x, c - i = x := ⟨_, rfl⟩
  obtain ⟨Gi, hGi⟩ : ∃ x, G - i = x := ⟨_, rfl⟩
  obtain ⟨Gi1, hGi1⟩ : ∃ x, G - i1 = x := ⟨_, rfl⟩
  rw [hr, hci] at hsl1
  rw [hr2, hGi] at hsl3
  rw [hr1, hGi1] at hsl4
  have hw1 : IntKind.i64.wrap ((n : Int) + 1) = (n1 : Int) := by rw [IntKind.wrap_i64]; omega
  have hw2 : IntKind.i64.wrap ((i : Int) + 1) = (i1 : Int) := by rw [IntKind.wrap_i64]; omega
  have hw3 : IntKind.i64.wrap ((n1 : Int) - (i : Int)) = (r2 : Int) := by rw [IntKind.wrap_i64]; omega
  have dz : ((i : Int) == (n : Int)) = false := by rw [beq_eq_false_iff_ne]; omega
  have dc : decide ((c : Int) < (n1 : Int)) = true := decide_eq_true (by omega)
  have dcN : decide (c < n1) = true := decide_eq_true (by omega)
  have HCP1 := hid (fun ty : TypeId => run_copy3 (W := W1) (g := h) (A := p) (M := m1) (C := m3 ++ m4) (news := cs) hg1 (i * 3) r2 Gi 1 1 hp.symm (by rw [hm1, hcs]) 1 (by simp only [Nat.min_def]; split <;> omega) (by rw [hcs]) ⟨vb, 0, none⟩ (fun j u hj => by
    rw [add_at, Nat.zero_add, cell_of_row _ _ _ _ _ _ hvW1, List.getElem?_toArray]
    exact hj) hc1 ty)
  have HCP2 := hid (fun ty : TypeId => run_copy3 (W := W2.drew) (g := h) (A := p ++ cs) (M := m3) (C := m4) (news := s) hgW2 (i1 * 3) r Gi1 r ci (by rw [List.length_append, hp, hcs]; omega) hm3 r (by simp only [Nat.min_def]; split <;> omega) hs ⟨g, i * 3, none⟩ (fun j u hj => by
    rw [add_at]
    show W2.cell? _ = _
    rw [cell_of_row _ _ _ _ _ _ hgW2', List.getElem?_toArray, List.append_assoc, List.getElem?_append_right (show p.length ≤ i * 3 + j by omega)]
    rw [show i * 3 + j - p.length = j by omega, List.getElem?_append_left (List.getElem?_eq_some_iff.1 hj).1]
    exact hj) (fun u hu => hps u (List.mem_append.2 (.inr hu))) ty)
  rw [hW2] at HCP1
  rw [hW3] at HCP2
  have HAP := hid hap
  have HG := hid hgW3
  have HGR := hid hgr
  have HH := hid hh
  have HLEN : Hid (((p ++ cs) ++ s ++ m4).length = G * 3) := hid (by simp only [List.length_append]; omega)
  have HN1 := hid hn1
  have HTK : Hid (((p ++ cs) ++ s ++ m4).take (n1 * 3) = p ++ cs ++ s) := hid (by
    rw [show n1 * 3 = (p ++ cs ++ s).length by simp only [List.length_append]; omega, List.take_left])
  have HL2 : Hid ((p ++ cs ++ s).length = n1 * 3) := hid (by simp only [List.length_append]; omega)
  have hbh : base ≤ h := by omega
  have mixed : Try.prog.follows .mixedOrders = true := by kernel_rfl
  rw [hh] at HAP
  clear hg1 hgW1 hvW1 hW1 hW2 hW3 hm hm' hm1 hm3 hm4 hp hs hps hcs hc1 hv hgW2 hgW2' hgW3 hgr hgr1 hg hr hr1 hr2 hci hGi hGi1 hi1 hn1 hap hh hold hi0 hz0 hzs hzb hG hZ hZl hir hvl hgl
  go_enter Try.func54, Try.ntmps54
  go_wp2_with (first
    | (at_builtin; refine Lib.wpList_append_run _ rfl (.tmp 34) (.tmp 39) 24 3 rfl _ _ rfl rfl _ _ (HAP.out _) ?_)
    | (refine Go.Proofs.wpList_copy_runI _ rfl (.tmp 43) (.tmp 44) 24 24 rfl _ _ rfl rfl (HCP1.out _) ?_))
  go_region_law_o (refine Go.Proofs.step_copy_runI rfl _ _ 24 24 rfl (.slice (some ⟨h, i1 * 3, none⟩) r Gi1) (.slice (some ⟨g, i * 3, none⟩) r ci) (by simp [Act.eval, Act.put]) (by simp [Act.eval, Act.put]) (HCP2.out 3) ?_)
  go_wp2
  go_ret
  exact ⟨.slice (some ⟨h, 0, none⟩) n1 G, rfl, ⟨by rw [HN1.out]; exact HL2.out, .inr ⟨h, G, _, by rw [HN1.out], hbh, HG.out, by rw [HN1.out]; exact hGn, hGm, by simpa using HLEN.out, by rw [HN1.out]; simpa using HTK.out⟩⟩, ⟨HGR.out.os, HGR.out.tape, HGR.out.output, HGR.out.size, fun i hi _ => HGR.out.block i hi (by simp)⟩⟩
theorem oneC (vs : List Fl) (h : ∀ x ∈ vs, x.d.oneCell' = true) : ∀ u ∈ (vs.map cFl).flatten, u.oneCell' = true := by
  intro u hu
  obtain ⟨t, ht, hut⟩ := List.mem_flatten.1 hu
  obtain ⟨x, hx, rfl⟩ := List.mem_map.1 ht
  unfold cFl at hut
  simp at hut
  rcases hut with rfl | rfl | rfl
  · rfl
  · rfl
  · exact h x hx
theorem pay_one {w : World} {x : Fl} (h : Pay w x) : x.d.oneCell' = true := by
  obtain ⟨A, c, e⟩ := byt_form h.byt.1
  rw [e]; rfl
theorem insert_any (base : Nat) (v : Value) (n i : Nat) (vs : List Fl) (cs : List Value) (vb : Nat) (T : TypeId) (w : World) (hown : w.ownsRow base 69 3 v n (vs.map cFl).flatten) (hn : vs.length = n) (hp : ∀ x ∈ vs, Pay w x) (hi : i ≤ n) (hl : n ≤ 100000) (hcs : cs.length = 3) (hc1 : ∀ u ∈ cs, u.oneCell' = true)
    (hv : w.heap[vb]? = some (.cells cs.toArray T)) (hne : v.ownBlock ≠ some vb) (hbase : base ≤ w.heap.size) :
    Calls Try.prog 54 #[v, .int .i64 (i : Int), .slice (some ⟨vb, 0, none⟩) 1 1] w (InsQ w base v n (((vs.take i).map cFl).flatten ++ cs ++ ((vs.drop i).map cFl).flatten)) := by
  have hcc : ∀ j u, cs[j]? = some u → w.cell? ⟨vb, j, none⟩ = some u := fun j u hj => by rw [cell_of_row _ _ _ _ _ _ hv, List.getElem?_toArray]; exact hj
  by_cases hin : i = n
  · subst hin
    have e1 : vs.take i = vs := List.take_of_length_le (by omega)
    have e2 : vs.drop i = [] := List.drop_of_length_le (by omega)
    rw [e1, e2, List.map_nil, List.flatten_nil, List.append_nil]
    exact insEnd_any base v i _ cs vb w hown hl hcs hc1 hcc hbase
  · have hsp : (vs.map cFl).flatten = ((vs.take i).map cFl).flatten ++ ((vs.drop i).map cFl).flatten := by
      rw [← List.flatten_append, ← List.map_append, List.take_append_drop]
    have hone := oneC vs (fun x hx => pay_one (hp x hx))
    rw [hsp] at hone
    have hpl : ((vs.take i).map cFl).flatten.length = i * 3 := by rw [flat_len, List.length_take]; omega
    have hsl : ((vs.drop i).map cFl).flatten.length = (n - i) * 3 := by rw [flat_len, List.length_drop]; omega
    obtain ⟨_, ⟨_, h0⟩ | ⟨g, cap, cur, rfl, hbg, hgc, hnc, hcm, hcs', htk⟩⟩ := hown
    · omega
    · have hcur : cur = (((vs.take i).map cFl).flatten ++ ((vs.drop i).map cFl).flatten ++ cur.toList.drop (n * 3)).toArray := by
        rw [← hsp, ← htk, List.take_append_drop, Array.toArray_toList]
      have hyl : (cur.toList.drop (n * 3)).length = (cap - n) * 3 := by rw [List.length_drop, Array.length_toList, hcs']; omega
      obtain ⟨ys, hys⟩ : ∃ ys, cur.toList.drop (n * 3) = ys := ⟨_, rfl⟩
      rw [hys] at hcur hyl
      subst hcur
      by_cases hroom : n < cap
      · exact insRoom_any base g cap n i _ _ ys cs vb T w hgc hbg (by omega) hl hpl hsl hyl hroom hcm hone hcs hc1 hv (fun e => hne (by rw [e]; rfl))
      · exact insGrow_any base g cap n i _ _ ys cs vb T w hgc hbase (by omega) hl hpl hsl hnc (by omega) hone hcs hc1 hv
end Go.Proofs.Ytacpejoablcffaa
