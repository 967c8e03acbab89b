/- Lists of records; Scan on both sides. -/
import Derived.Test.YtcmmkeadbedooaaWe
import Derived.Test.YtcmmkeadbedooaaX
import Derived.Test.YtcmmkeadbedooaaF
namespace Go.Proofs.Ytcmmkeadbedooaa
open Go.RowKit Go.Lib

theorem dB_ne0 {q n m : Nat} {b : List Nat} {er : Int} (h : dB q n m b = .error er) : er ≠ 0 := by
  unfold dB at h
  by_cases h1 : ge ((b.drop (3 + m)).take 4) ≠ sum0 (b.take (3 + m))
  · rw [if_pos h1] at h; injection h with h; omega
  · rw [if_neg h1] at h
    by_cases h2 : ge (b.take 1) = 0 ∨ some0 (b.drop (7 + m)) = true
    · rw [if_pos h2] at h; injection h with h; omega
    · rw [if_neg h2] at h; cases h
theorem dS_ne0 {s : Sect} {l : List Sect} {er : Int} (h : dS s l = .error er) : er ≠ 0 := by
  unfold dS at h
  by_cases h1 : num s = 0
  · rw [if_pos h1] at h; injection h with h; omega
  · rw [if_neg h1] at h
    by_cases h2 : 4096 < lenOf s
    · rw [if_pos h2] at h; injection h with h; omega
    · rw [if_neg h2] at h
      by_cases h3 : l.length < size (lenOf s) ∨ others (num s) (l.take (size (lenOf s))) = true
      · rw [if_pos h3] at h; injection h with h; omega
      · rw [if_neg h3] at h; exact dB_ne0 h
theorem dR_ne0 {l : List Sect} {er : Int} (h : dR l = .error er) : er ≠ 0 := by
  rcases l with _ | ⟨s, t⟩
  · injection h with h; omega
  · exact dS_ne0 (show dS s (s :: t) = _ from h)
theorem scan_err {l : List Sect} {q er : Int} (h : dR l = .error er) : scan l q = ([], 0) := by
  unfold scan
  split
  · rfl
  · exact scn_err h
theorem scan_ne {l : List Sect} {q : Int} {r : Rc} {n : Nat} (h : dR l = .ok (r, n)) (hq : ((r.2.1 : Nat) : Int) ≠ q) : scan l q = ([], 0) := by
  unfold scan
  split
  · rfl
  · exact scn_ne h (by omega)
theorem scan_low {l : List Sect} {q : Int} (h : q < 1) : scan l q = ([], 0) := by
  unfold scan
  rw [if_pos h]
theorem scan_ok {l : List Sect} {q : Int} {r : Rc} {n : Nat} (h : dR l = .ok (r, n)) (hq : ((r.2.1 : Nat) : Int) = q) : scan l q = (r :: (scan (l.drop n) (q + 1)).1, n + (scan (l.drop n) (q + 1)).2) := by
  have hi := dR_inv h
  have h0 : ¬ q < 1 := by omega
  have h1 : ¬ q + 1 < 1 := by omega
  unfold scan
  rw [if_neg h0, if_neg h1, scn_ok h (by omega), scn_fuel' hi.1 hi.2.1, show (q + 1).toNat = q.toNat + 1 by omega]
theorem dR_num {l : List Sect} {r : Rc} {n : Nat} (hs : Secs l) (h : dR l = .ok (r, n)) : r.2.1 < 4294967296 ∧ r.1 < 256 := by
  rcases l with _ | ⟨s, t⟩
  · cases h
  · obtain ⟨_, _, _, _, h5⟩ := dS_inv (show dS s (s :: t) = _ from h)
    obtain ⟨_, h7⟩ := dB_inv h5
    injection h7 with h7 _
    subst h7
    have hs' := hs s (List.mem_cons_self ..)
    refine ⟨num_lt hs'.1 hs'.2, ?_⟩
    have := ge_lt (b8_take (dts_b8 (secs_take hs (size (lenOf s)))) 1)
    have h1 : ((dts ((s :: t).take (size (lenOf s)))).take 1).length ≤ 1 := by rw [List.length_take]; omega
    have h2 : 256 ^ ((dts ((s :: t).take (size (lenOf s)))).take 1).length ≤ 256 ^ 1 := Nat.pow_le_pow_right (by decide) h1
    dsimp only
    omega

def fromS (A : Option Addr) (c k : Nat) : Option Addr := if c = k then A else A.map (fun x => x.add (k * 8))
theorem run_secs_from (A : Option Addr) (n c lo : Nat) (h1 : lo ≤ n) (W : World) : (Instr.slice 28 (.slice A n c) (some (.int .i64 (lo : Int))) none none).run Try.prog W = .ok (.slice (fromS A c lo) (n - lo) (c - lo)) W := by
  simp [Instr.slice, run_underlying Try.underlying28, Instr.sliceBounds, Sem.run_bind, run_sliceBound_if, fromS, h1]
theorem sec_from {w : World} {A : Option Addr} {n c : Nat} {l : List Sect} (h : Sec w (.slice A n c) l) (lo : Nat) (h1 : lo ≤ l.length) : Sec w (.slice (fromS A c lo) (n - lo) (c - lo)) (l.drop lo) := by
  refine ⟨fun s hs => h.1 s (List.mem_of_mem_drop hs), ?_⟩
  obtain ⟨_, A', c', e, hc1, hc2, b, off, hA, hc⟩ := h
  injection e with e1 e2 e3
  subst e1 e3
  rw [List.length_map] at hc1 hA e2
  refine ⟨fromS A c lo, c - lo, by rw [List.length_map, List.length_drop, e2], by rw [List.length_map, List.length_drop]; omega, by omega, b, off + lo * 8, fun hp => ?_, fun i r hi' j u hj => ?_⟩
  · rw [List.length_map, List.length_drop] at hp
    obtain ⟨hA1, hA2⟩ := hA (by omega)
    refine ⟨?_, hA2⟩
    unfold fromS
    rw [if_neg (by omega), hA1]
    simp [Addr.add]
  · rw [List.getElem?_map] at hi'
    obtain ⟨s, hs, rfl⟩ := Option.map_eq_some_iff.1 hi'
    rw [List.getElem?_drop] at hs
    have := hc (lo + i) (cSec s) (by rw [List.getElem?_map, hs]; rfl) j u hj
    rw [show off + lo * 8 + i * 8 + j = off + (lo + i) * 8 + j by rw [Nat.add_mul]; omega]
    exact this

theorem info27 : (Try.prog.info? 27).map (fun i => (i.zero, i.size, i.bytes)) = some (some (.agg #[.int .i64 0, .int .i64 0, .slice none 0 0]), 3, 40) := by kernel_rfl
theorem own_form27 {w : World} {base n : Nat} {v : Value} {xs : List Value} (h : w.ownsRow base 27 3 v n xs) : ∃ A cap, v = .slice A n cap := own_formE h
set_option maxRecDepth 100000 in
theorem append_rec {ops : Array Oper} {rest : List Oper} {o : Oper} {a : Act} {w : World} {Q : Exit → Act → World → Prop} (hgd : o.guard = none) (s x : Operand) (ho : o.op = .call { callee := .builtin .append, args := #[s, x], argTypes := #[42, 42] })
    (base : Nat) (v : Value) (n : Nat) (olds : List Value) (hs : a.eval s = v) (hown : w.ownsRow base 27 3 v n olds) (k q : Int) (dA : Option Addr) (dn dc : Nat) (ad : Addr) (c : Nat) (hx : a.eval x = .slice (some ad) 1 c)
    (hc : ∀ j u, ([.int .i64 k, .int .i64 q, .slice dA dn dc] : List Value)[j]? = some u → w.cell? (ad.add j) = some u) (b1 : n + 1 ≤ 1000000) (hbase : base ≤ w.heap.size)
    (h : ∀ v' w', w'.ownsRow base 27 3 v' (n + 1) (olds ++ [.int .i64 k, .int .i64 q, .slice dA dn dc]) → w.grownBy w' v.ownBlock → wpList Try.prog ops Q rest (a.put o.dst v') w') : wpList Try.prog ops Q (o :: rest) a w := by
  obtain ⟨i0, hi, hz0, hz1, hz2⟩ := info_parts info27
  exact wpList_append_own w hgd s x 42 ho base 27 i0 _ 3 40 Try.underlying42 hi hz0 hz1 hz2 rfl (by decide) v n olds hs hown ad 1 c _ hx rfl hc (by intro u hu; simp at hu; rcases hu with rfl | rfl | rfl <;> rfl) (by unfold maxLen; omega) (by omega) hbase (fun v' w' h1 h2 _ => h v' w' h1 h2)

abbrev Rcd := Int × Int × List Nat
def core (x : Rv) : Rcd := (x.k, x.q, x.p)
def coreR (r : Rc) : Rcd := ((r.1 : Nat), (r.2.1 : Nat), r.2.2)
/-- A payload of one's own. -/
def Pay (w : World) (x : Rv) : Prop := (∃ B, w.ownsRow B 5 1 x.d x.p.length (x.p.map byteV)) ∧ B8 x.p
theorem Pay.keep {w w' : World} {x : Rv} (h : Pay w x) (hk : Keep 5 w w') : Pay w' x := by
  obtain ⟨⟨B, h1⟩, h2⟩ := h
  exact ⟨⟨B, own_keep h1 hk⟩, h2⟩
theorem Pay.byt {w : World} {x : Rv} (h : Pay w x) : Byt w x.d x.p := by
  obtain ⟨⟨B, h1⟩, h2⟩ := h
  exact byt_of_own h1 h2
def ScnQ (w : World) (rs : List Rc × Nat) (e : Ending) (w' : World) : Prop :=
  ∃ (v : Value) (vs : List Rv), e = .returned (.tuple #[v, .int .i64 (rs.2 : Nat)]) ∧ w'.ownsRow w.heap.size 27 3 v vs.length (vs.map cRv).flatten ∧ vs.map core = rs.1.map coreR ∧ (∀ x ∈ vs, Pay w' x) ∧ Below w.heap.size w w'

set_option maxHeartbeats 4000000 in
set_option maxRecDepth 100000 in
theorem scan_any (l : List Sect) (v : Value) (q : Int) (w : World) (hv : Sec w v l) (hl : l.length ≤ 100000) (hq : R64 q) :
    Calls Try.prog 20 #[v, .int .i64 q] w (ScnQ w (scan l q)) := by
  obtain ⟨A, c, rfl⟩ := sec_form hv
  obtain ⟨n, hn⟩ : ∃ n, l.length = n := ⟨_, rfl⟩
  have HV := hid hv
  have HN := hid hn
  have HQ := hid hq
  rw [hn] at HV hl ⊢
  clear hv hn hq
  go_enter Try.func20, Try.ntmps20
  go_wp2_with fail
  go_loopw [6, 7] (fun rv u wr => ∃ (m k : Nat) (vs : List Rv) (rs : List Rc), k ≤ n ∧ m ≤ k ∧ u = .int .i64 (k : Int) ∧ Hid (q + m ≤ 9223372036854775807) ∧ Hid (vs.length = m) ∧ Hid (vs.map core = rs.map coreR) ∧ Hid (scan l q = (rs ++ (scan (l.drop k) (q + m)).1, k + (scan (l.drop k) (q + m)).2)) ∧ Hid (wr.ownsRow w.heap.size 27 3 rv m (vs.map cRv).flatten) ∧ Hid (∀ x ∈ vs, Pay wr x) ∧ Hid (Below w.heap.size w wr)) (fun _ u _ => n - (Lib.intOf u).toNat)
  case atStart => exact ⟨0, 0, [], [], Nat.zero_le _, Nat.le_refl _, rfl, hid (by have := HQ.out.2; omega), hid rfl, hid rfl, hid (by simp), hid (World.ownsRow_nil _ _ _ _), hid (fun x hx => by cases hx), hid (Below.refl _ _)⟩
  case round =>
    obtain ⟨m, k, vs, rs, hk, hmk, rfl, HQM, HM, HVS, HS, HO, HP, HB⟩ := hrel
    obtain ⟨lA, lc, rfl⟩ := own_form27 HO.out
    have hr := fun W : World => run_secs_from A n c k hk W
    have hfv := sec_from (HV.out.below HB.out) k (by rw [HN.out]; exact hk)
    have HD := hid (decode_any (l.drop k) _ wr hfv (by rw [List.length_drop, HN.out]; omega))
    obtain ⟨fA, hfA⟩ : ∃ fA, fromS A c k = fA := ⟨_, rfl⟩
    rw [hfA] at hr HD
    clear hfv hfA
    go_wp2_with fail
    refine HD.out.mono ?_
    rintro e w2 ⟨hb2, ⟨r, n', pv, hd, rfl, ho, h8⟩ | ⟨er, hd, rfl⟩⟩
    · obtain ⟨pA, pc, rfl⟩ := own_form ho
      obtain ⟨pk, pq, pp⟩ := r
      dsimp only at ho h8 ⊢
      obtain ⟨pn, hpn⟩ : ∃ pn, pp.length = pn := ⟨_, rfl⟩
      rw [hpn] at ho ⊢
      obtain ⟨W3, hW3⟩ : ∃ W3, w2.alloc (.cells #[.int .i64 (pk : Int), .int .i64 (pq : Int), .slice pA pn pc] 27) = W3 := ⟨_, rfl⟩
      have hb3 : Below w2.heap.size w2 W3 := by rw [← hW3]; exact al1 _ _
      have hx3 : W3.heap[w2.heap.size]? = some (.cells #[.int .i64 (pk : Int), .int .i64 (pq : Int), .slice pA pn pc] 27) := by rw [← hW3]; exact heap_alloc_new _ _
      have x0 : W3.cell? ⟨w2.heap.size, 0, none⟩ = some (.int .i64 (pk : Int)) := cell_of_row _ _ 0 _ _ _ hx3
      have x1 : W3.cell? ⟨w2.heap.size, 1, none⟩ = some (.int .i64 (pq : Int)) := cell_of_row _ _ 1 _ _ _ hx3
      have x2 : W3.cell? ⟨w2.heap.size, 2, none⟩ = some (.slice pA pn pc) := cell_of_row _ _ 2 _ _ _ hx3
      have hb13 : Below wr.heap.size wr W3 := hb2.trans (hb3.mono hb2.size)
      have HB3 := hid (HB.out.trans (hb13.mono HB.out.size))
      have HO3 := hid (own_keep HO.out (keep_below hb13))
      have HP3 := hid (fun x hx => (HP.out x hx).keep (keep_below hb13))
      have HY3 := hid (own_keep ho (keep_below hb3))
      have H8 := hid h8
      have HPN := hid hpn
      have hi := dR_inv hd
      have hnu := dR_num (fun s hs => HV.out.1 s (List.mem_of_mem_drop hs)) hd
      dsimp only at hi hnu
      rw [List.length_drop, HN.out] at hi
      have HDD := hid hd
      have hwm : IntKind.i64.wrap (q + (m : Int)) = q + (m : Int) := by
        have := HQ.out; have := HQM.out; unfold R64 at *
        rw [IntKind.wrap_i64]; omega
      by_cases hqq : (pq : Int) = q + m
      · have d2 : ((pq : Int) != q + (m : Int)) = false := by rw [hqq]; simp
        have HS2 := hid (scan_ok hd hqq)
        have hz3 := HB3.out.size
        have HSB := hid (show q + (m : Int) < 4294967296 by omega)
        clear hqq
        have hwk : IntKind.i64.wrap ((k : Int) + (n' : Int)) = ((k + n' : Nat) : Int) := by rw [IntKind.wrap_i64]; omega
        subst hW3
        clear hd hb2 hb3 hb13 ho h8 HD hx3 hpn
        go_wp2_with (at_builtin; go_loud (refine append_rec rfl (.tmp 32) (.tmp 34) rfl w.heap.size (.slice lA m lc) m _ rfl (own_keep HO3.out (keep_below (al1 _ _))) (pk : Int) (pq : Int) pA pn pc ⟨w2.heap.size + 1, 0, none⟩ 1 rfl (fun j u hu => by rw [add_at, cell_of_row _ _ _ _ _ _ (show ((w2.alloc (.cells #[.int .i64 (pk : Int), .int .i64 (pq : Int), .slice pA pn pc] 27)).alloc (.cells #[.int .i64 (pk : Int), .int .i64 (pq : Int), .slice pA pn pc] 27)).heap[w2.heap.size + 1]? = _ by simpa using heap_alloc_new (w2.alloc (.cells #[.int .i64 (pk : Int), .int .i64 (pq : Int), .slice pA pn pc] 27)) (.cells #[.int .i64 (pk : Int), .int .i64 (pq : Int), .slice pA pn pc] 27))]; simpa using hu) (by omega) (by simp at *; omega) ?_; intro v4 w4 hown4 hg4; obtain ⟨a4, c4, rfl⟩ := own_form27 hown4; have hkp := keep_grown (T := 5) (own_keep HO3.out (keep_below (al1 _ _))) (by decide) hg4; have HB4 := hid ((HB3.out.alloc hz3 _).grown hg4 (by simp at *; omega) (fun k e => (HO3.out.lt k e).1)); have HO4 := hid hown4; have HP4 := hid (fun x hx => ((HP3.out x hx).keep (keep_below (al1 _ _))).keep hkp); have HY4 := hid (own_keep (own_keep HY3.out (keep_below (al1 _ _))) hkp); clear hown4 hg4 hkp))
        go_roundw
        case rel => exact ⟨m + 1, k + n', vs ++ [⟨(pk : Int), (pq : Int), .slice pA pn pc, pp⟩], rs ++ [(pk, pq, pp)], by omega, by omega, by go_num, hid (by have := HSB.out; omega), hid (by rw [List.length_append, HM.out]; rfl), hid (by rw [List.map_append, List.map_append, HVS.out]; rfl), hid (by rw [HS.out, HS2.out, List.drop_drop, show q + (m : Int) + 1 = q + ((m + 1 : Nat) : Int) by omega]; simp [Nat.add_assoc]), hid (by rw [List.map_append, List.flatten_append]; simpa [cRv] using HO4.out), hid (fun x hx => (List.mem_append.1 hx).elim (HP4.out x) (fun hx => by rw [List.mem_singleton] at hx; subst hx; exact ⟨⟨_, by dsimp only; rw [HPN.out]; exact HY4.out⟩, H8.out⟩)), HB4⟩
        case measure => simp [Lib.intOf]; omega
      · have d2 : ((pq : Int) != q + (m : Int)) = true := by rw [bne_iff_ne]; exact hqq
        have HS2 := hid (scan_ne hd hqq)
        subst hW3
        clear hd hb2 hb3 hb13 ho h8 HD hx3 hpn
        go_wp2_with fail
        go_ret2
        have hs := HS.out
        rw [HS2.out] at hs
        rw [hs]
        exact ⟨_, vs, rfl, by rw [HM.out]; exact HO3.out, by simpa using HVS.out, HP3.out, HB3.out⟩
    · have hne := dR_ne0 hd
      have d1 : (er != 0) = true := by rw [bne_iff_ne]; exact hne
      obtain ⟨W3, hW3⟩ : ∃ W3, w2.alloc (.cells #[.int .i64 0, .int .i64 0, .slice none 0 0] 27) = W3 := ⟨_, rfl⟩
      have hb3 : Below w2.heap.size w2 W3 := by rw [← hW3]; exact al1 _ _
      have hb13 : Below wr.heap.size wr W3 := hb2.trans (hb3.mono hb2.size)
      have HB3 := hid (HB.out.trans (hb13.mono HB.out.size))
      have HO3 := hid (own_keep HO.out (keep_below hb13))
      have HP3 := hid (fun x hx => (HP.out x hx).keep (keep_below hb13))
      have HS2 := hid (scan_err (q := q + m) hd)
      subst hW3
      clear hd hb2 hb3 hb13 HD hne
      go_wp2_with fail
      go_ret2
      have hs := HS.out
      rw [HS2.out] at hs
      rw [hs]
      exact ⟨_, vs, rfl, by rw [HM.out]; exact HO3.out, by simpa using HVS.out, HP3.out, HB3.out⟩
end Go.Proofs.Ytcmmkeadbedooaa
