/- extent.sweep's iterator: what it yields, and what it owes to the rounds. -/
import Derived.Test.YtoefbgkeinhibaaXE
import Derived.Test.YtoefbgkeinhibaaXR
import Derived.Sort.QuietIn
import Derived.RegionIn
import Derived.Shelf.Abstract
import Derived.Shelf.AbstractIn
import Derived.Shelf.RegionOpen
import Derived.OwnWalkIn
import Derived.TacticsInMore
import Derived.LoopNIn
import Derived.LoopIn
namespace Go.Proofs.Ytoefbgkeinhibaa.Xt
open Go.RowKit Go.Shelf
attribute [local go_sem] Oper.semAt_some

/-- The function belongs, called with any two answers, gives b of them. -/
def Belongs (f : Nat) (b : Bool → Bool → Bool) : Prop := ∀ (p q : Bool) (W : World), Calls Try.prog f #[.bool p, .bool q] W fun e w' => e = .returned (.bool (b p q)) ∧ W = w'

theorem step6 {J : Nat → List (Int × Int) → World → Prop} {lo hi nl n0 k kk : Nat} {out : List (Int × Int)} {d : List Edge} {at_ st pk : Int} {wr w2 : World}
    (H2 : Hid (Abid lo J)) (HJ : Hid (J hi out wr)) (HS : Hid (∀ q, ((nl ≤ q ∧ q < n0) ∨ (lo ≤ q ∧ q < hi)) → q ≠ lo → wr.heap[q]? = w2.heap[q]?))
    (HD : Hid (wr.heap[lo]? = some (.cells #[.int .i64 (psum 0 k d), .int .i64 (psum 1 k d)] 128 (0, 0)))) (HE : Hid (d[k]? = some (at_, (kk : Int), st))) (HPK : Hid (pk = psum (kk : Int) k d)) (hkk : kk < 2) (hlo : lo < hi) (hn0 : n0 ≤ lo) (hsz : hi ≤ wr.heap.size) :
    ∃ w6, ((wr.setCell ⟨lo, kk, none⟩ (.int .i64 (pk + st))).alloc (.cells #[.int .i64 at_, .int .i64 (kk : Int), .int .i64 st] 132)).drew = w6 ∧ Hid (J hi out w6) ∧ Hid (∀ q, ((nl ≤ q ∧ q < n0) ∨ (lo ≤ q ∧ q < hi)) → q ≠ lo → w6.heap[q]? = w2.heap[q]?) ∧
      Hid (w6.heap[lo]? = some (.cells #[.int .i64 (psum 0 (k + 1) d), .int .i64 (psum 1 (k + 1) d)] 128 (0, 0))) ∧ w6.heap.size = wr.heap.size + 1 ∧ w6.cell? ⟨wr.heap.size, 0, none⟩ = some (.int .i64 at_) := by
  have hlt : lo < wr.heap.size := by omega
  refine ⟨_, rfl, ?_, ?_, ?_, ?_, ?_⟩
  · refine hid (H2.out hi out wr _ (some lo) HJ.out ⟨rfl, rfl, rfl, ?_, fun q hq hne => ?_⟩ (fun r e => by cases e; exact ⟨Nat.le_refl _, hlo⟩))
    · show wr.heap.size ≤ ((wr.setCell _ _).alloc _).heap.size
      simp
    · show ((wr.setCell _ _).alloc _).heap[q]? = _
      rw [Below.heap_alloc _ _ _ (by simpa using hq)]
      exact Below.heap_setCell _ _ _ _ (fun e => hne (by rw [e]))
  · refine hid (fun q hq hne => ?_)
    show ((wr.setCell _ _).alloc _).heap[q]? = _
    rw [Below.heap_alloc _ _ _ (by simp; omega), Below.heap_setCell _ _ _ _ hne]
    exact HS.out q hq hne
  · refine hid ?_
    show ((wr.setCell _ _).alloc _).heap[lo]? = _
    rw [Below.heap_alloc _ _ _ (by simpa using hlt)]
    simp only [World.setCell, Array.getElem?_modify, if_true, HD.out, Option.map_some]
    have hp := HPK.out
    subst hp
    have h0 := psum_succ (k := 0) HE.out
    have h1 := psum_succ (k := 1) HE.out
    rcases (show kk = 0 ∨ kk = 1 from by omega) with rfl | rfl
    · simp at h0 h1
      simp [h0, h1]
    · simp at h0 h1
      simp [h0, h1]
  · show ((wr.setCell _ _).alloc _).heap.size = _
    simp
  · have hz : (wr.setCell ⟨lo, kk, none⟩ (.int .i64 (pk + st))).heap.size = wr.heap.size := by simp
    have := cell_of_row _ _ 0 _ _ _ (heap_alloc_new (wr.setCell ⟨lo, kk, none⟩ (.int .i64 (pk + st))) (.cells #[.int .i64 at_, .int .i64 (kk : Int), .int .i64 st] 132))
    rw [hz] at this
    exact this

theorem two_of {x : Int} (h : x = 0 ∨ x = 1) : ∃ k : Nat, k < 2 ∧ x = (k : Int) := by
  rcases h with rfl | rfl
  · exact ⟨0, by omega, rfl⟩
  · exact ⟨1, by omega, rfl⟩

set_option maxHeartbeats 4000000 in
set_option maxRecDepth 100000 in
theorem sweep_gives (n b1 b2 b3 fb nl n0 : Nat) (a c : List (Int × Int)) (va vc : Value) (bf : Bool → Bool → Bool) (w : World) (hb0 : bf false false = false) (hn : 1 ≤ n)
    (hfb : Belongs fb bf) (efb : ∀ args w, (callFunc fb args).run Try.prog w = .ok (.enter fb args) w) (h1 : w.cell? ⟨b1, 0, none⟩ = some va) (h2 : w.cell? ⟨b2, 0, none⟩ = some vc) (h3 : w.cell? ⟨b3, 0, none⟩ = some (.func (.func fb) #[] #[]))
    (hb1 : b1 < n0) (hb2 : b2 < n0) (hb3 : b3 < n0) (hl3 : nl ≤ b3) (hn0 : n0 ≤ w.heap.size) (ha : Ext w va a) (hc : Ext w vc c) (la : a.length ≤ 10000) (lc : c.length ≤ 10000) :
    Gives Fence.wide n Try.prog 73 #[.pointer (some ⟨b1, 0, none⟩), .pointer (some ⟨b2, 0, none⟩), .pointer (some ⟨b3, 0, none⟩)] (fun e : Int × Int => #[extv e]) nl n0
      (fun xs => Canon 0 xs ∧ ∀ x, mem xs x = bf (mem a x) (mem c x)) (fun pre => Canon 0 pre) w := by
  intro l J Jx W hW hstart hJ hJx hround
  have g1 := (hW.cell (p := ⟨b1, 0, none⟩) (by simp; omega)).trans h1
  have g2 := (hW.cell (p := ⟨b2, 0, none⟩) (by simp; omega)).trans h2
  have g3 := (hW.cell (p := ⟨b3, 0, none⟩) (by simp; omega)).trans h3
  have ha' := ha.below hW
  have hc' := hc.below hW
  have hWs := hW.size
  have hB1 : b1 < W.heap.size := by omega
  have hB2 : b2 < W.heap.size := by omega
  have hB3 : b3 < W.heap.size := by omega
  have H1 := hid hstart
  have H2 := hid hJ
  have H3 := hid hJx
  have H4 := hid hround
  have HF := hid hfb
  obtain ⟨A, ca, hva⟩ : ∃ A ca, va = .slice A a.length ca := by obtain ⟨_, A, ca, h, _⟩ := ha; exact ⟨A, ca, h⟩
  obtain ⟨C, cc, hvc⟩ : ∃ C cc, vc = .slice C c.length cc := by obtain ⟨_, A, ca, h, _⟩ := hc; exact ⟨A, ca, h⟩
  subst hva hvc
  have hed := fun W' (hb : Below W.heap.size W W') => edges_loop a c _ _ W' (ha'.below hb) (hc'.below hb) la lc
  have HE := hid hed
  clear hstart hJ hJx hround hfb hed ha ha' hc hc' h1 h2 h3
  refine callsIn_of_wp Try.func73 rfl trivial ?_ rfl
  simp only [Try.ntmps73, List.size_toArray, List.length_cons, List.length_nil, Nat.reduceAdd, Nat.reduceSub, Array.replicate_succ, Array.replicate_zero, List.push_toArray, List.append_toArray, List.nil_append, List.cons_append]
  gi_wp2_with (refine ⟨trivial, ?_⟩; gi_at_call 74; refine (callsIn_wide.2 (HE.out _ ((Below.refl _ W).alloc (Nat.le_refl _) _))).mono ?_; rintro e w2 ⟨v, d, rfl, hperm, hsort, heds, hbel⟩; obtain ⟨D, cd, g, hv, hg, hcd⟩ := heds; subst hv)
  obtain ⟨hgood, hbnd⟩ := good_of_perm hperm hsort
  have hdl : d.length ≤ 40000 := by
    have h := hperm.length_eq
    have := edgesOf_length 0 a
    have := edgesOf_length 1 c
    rw [List.length_append] at h
    omega
  have hlo : W.heap.size < w2.heap.size := by have := hbel.size; simp at this; omega
  have hW2 : Below W.heap.size W w2 := below_more hbel (Nat.le_refl _)
  have hJ0 : J w2.heap.size [] w2 := H1.out _ _ hW2 (by omega) (Nat.le_refl _)
  have hD0 : w2.heap[W.heap.size]? = some (.cells #[.int .i64 0, .int .i64 0] 128 (0, 0)) := (hbel.block _ (by simp)).trans (heap_alloc_new W _)
  have hf3 := (hW2.cell (p := ⟨b3, 0, none⟩) hB3).trans g3
  have HG := hid hgood
  have HB := hid hbnd
  have HC := hid hcd
  have HP := hid hperm
  have HD0 := hid hD0
  have HF3 := hid hf3
  clear hgood hbnd hcd hperm hsort hD0 hbel g1 g2 g3 hf3 HE hW
  gi_wp2
  gi_loopw [6, 7, 17] (fun ins st i wr => ∃ (k : Nat) (bi : Bool) (s : Int) (out : List (Int × Int)), k ≤ d.length ∧ i = .int .i64 k ∧ ins = .bool bi ∧ st = .int .i64 s ∧ Hid (SInv bf d k bi s out) ∧ 0 ≤ s ∧ s ≤ 4096 ∧
      w2.heap.size ≤ wr.heap.size ∧ Hid (J w2.heap.size out wr) ∧ Hid (∀ q, ((nl ≤ q ∧ q < n0) ∨ (W.heap.size ≤ q ∧ q < w2.heap.size)) → q ≠ W.heap.size → wr.heap[q]? = w2.heap[q]?) ∧
      Hid (wr.heap[W.heap.size]? = some (.cells #[.int .i64 (psum 0 k d), .int .i64 (psum 1 k d)] 128 (0, 0)))) (fun _ _ i _ => d.length - (intOf i).toNat)
  case atStart => exact ⟨0, false, 0, [], Nat.zero_le _, rfl, rfl, rfl, hid (SInv.zero hb0 HG.out), by omega, by omega, Nat.le_refl _, hid hJ0, hid (fun _ _ _ => rfl), hid (by rw [psum_zero, psum_zero]; exact HD0.out)⟩
  case round =>
    obtain ⟨k, bi, s, out, hk, rfl, rfl, rfl, HI, hs0, hs1, hsz, HJ, HS, HD⟩ := hrel
    by_cases hlt : k < d.length
    · obtain ⟨hD1, hgl, hgw⟩ := hg (by omega)
      subst hD1
      obtain ⟨⟨at_, kx, st⟩, he⟩ : ∃ e, d[k]? = some e := ⟨d[k], List.getElem?_eq_getElem hlt⟩
      obtain ⟨ha0, ha1, hkx, hst⟩ := HB.out _ (List.mem_of_getElem? he)
      dsimp only at ha0 ha1 hkx hst
      obtain ⟨kk, hkk, rfl⟩ : ∃ kk : Nat, kk < 2 ∧ kx = (kk : Int) := two_of hkx
      clear hkx
      have hgne : g ≠ W.heap.size := by simp at hgl; omega
      have hgeq : wr.heap[g]? = w2.heap[g]? := HS.out g (.inr ⟨by simp at hgl; omega, hgw⟩) hgne
      obtain ⟨c0, c1, c2⟩ := HC.out k _ he
      have e0 := (World.cell?_of_block (a := ⟨g, k * 3, none⟩) hgeq).trans c0
      have e1 := (World.cell?_of_block (a := ⟨g, k * 3 + 1, none⟩) hgeq).trans c1
      have e2 := (World.cell?_of_block (a := ⟨g, k * 3 + 2, none⟩) hgeq).trans c2
      dsimp only at e0 e1 e2
      clear c0 c1 c2
      have hp0 := psum_bound (k := 0) (n := k) (fun e he => (HB.out e he).2.2.2) (by omega)
      have hp1 := psum_bound (k := 1) (n := k) (fun e he => (HB.out e he).2.2.2) (by omega)
      have HE := hid he
      obtain ⟨pk, hpk⟩ : ∃ pk, pk = psum (kk : Int) k d := ⟨_, rfl⟩
      have hpb := psum_bound (k := (kk : Int)) (n := k) (fun e he => (HB.out e he).2.2.2) (by omega)
      rw [← hpk] at hpb
      obtain ⟨hpb1, hpb2⟩ := hpb
      have hdc : wr.cell? ⟨W.heap.size, kk, none⟩ = some (.int .i64 pk) := by
        rw [cell_of_row _ _ _ _ _ _ HD.out, hpk]
        rcases (show kk = 0 ∨ kk = 1 from by omega) with rfl | rfl <;> rfl
      have hdf : wr.frozen? ⟨W.heap.size, kk, none⟩ = false := by
        unfold World.frozen?
        rw [HD.out]
        simp
      have hDlt : W.heap.size < wr.heap.size := by omega
      have HPK := hid hpk
      clear he hpk hp0 hp1 hgeq
      obtain ⟨w6, hw6, HJ6, HS6, HD6, hz6, hbx⟩ := step6 H2 HJ HS HD HE HPK hkk hlo (by omega) hsz
      have HW6 := hid hw6
      clear hw6
      gi_wp2
      gi_region
      rw [HW6.out]
      clear HW6 hdc hdf hpb1 hpb2 HPK HJ HS HD
      obtain ⟨q0, hq0⟩ : ∃ q, psum 0 (k + 1) d = q := ⟨_, rfl⟩
      obtain ⟨q1, hq1⟩ : ∃ q, psum 1 (k + 1) d = q := ⟨_, rfl⟩
      have hd0 : w6.cell? ⟨W.heap.size, 0, none⟩ = some (.int .i64 q0) := by rw [cell_of_row _ _ _ _ _ _ HD6.out, hq0]; rfl
      have hd1 : w6.cell? ⟨W.heap.size, 1, none⟩ = some (.int .i64 q1) := by rw [cell_of_row _ _ _ _ _ _ HD6.out, hq1]; rfl
      have hcb3 : w6.cell? ⟨b3, 0, none⟩ = some (.func (.func fb) #[] #[]) := (World.cell?_of_block (HS6.out b3 (.inl ⟨hl3, hb3⟩) (by omega))).trans HF3.out
      have HQ0 := hid hq0
      have HQ1 := hid hq1
      have hz6' : w2.heap.size ≤ w6.heap.size := by omega
      clear hq0 hq1 hz6 e0 e1 e2
      by_cases hnx : k + 1 < d.length
      · obtain ⟨⟨at2, kx2, st2⟩, he2⟩ : ∃ e, d[k + 1]? = some e := ⟨d[k + 1], List.getElem?_eq_getElem hnx⟩
        have f0 : w6.cell? ⟨g, (k + 1) * 3, none⟩ = some (.int .i64 at2) := (World.cell?_of_block (a := ⟨g, (k + 1) * 3, none⟩) (HS6.out g (.inr ⟨by simp at hgl; omega, hgw⟩) hgne)).trans (HC.out (k + 1) _ he2).1
        have HE2 := hid he2
        clear he2
        have hdec : decide ((k : Int) + 1 < (d.length : Int)) = true := by simp; omega
        by_cases hsame : at2 = at_
        · subst hsame
          gi_wp2
          gi_quiet (fail)
          gi_wp2
          go_roundw
          case rel => exact ⟨k + 1, bi, s, out, by omega, by go_num, rfl, rfl, hid (HI.out.same HE.out HE2.out rfl), hs0, hs1, hz6', hid (H2.out _ _ _ _ none HJ6.out ⟨rfl, rfl, rfl, Nat.le_refl _, fun _ _ _ => rfl⟩ (fun r e => by cases e)), HS6, HD6⟩
          case measure => simp [intOf]; omega
        · have hne2 : ((at2 : Int) == at_) = false := by simp [hsame]
          have HN : Hid (∀ g' : Edge, d[k + 1]? = some g' → at_ < g'.1) := hid (fun g' hg' => by
            have hh := HE2.out
            rw [hh] at hg'
            injection hg' with hg'
            subst hg'
            have := HG.out.sorted k (k + 1) _ _ (by omega) HE.out hh
            dsimp only at this ⊢
            omega)
          clear hsame
          gi_wp2
          gi_quiet (fail)
          rename_i nq
          obtain ⟨w7, hw7⟩ : ∃ w7, w6.drewN nq = w7 := ⟨_, rfl⟩
          have HJ7 : Hid (J w2.heap.size out w7) := by rw [← hw7]; exact hid (H2.out _ _ _ _ none HJ6.out ⟨rfl, rfl, rfl, Nat.le_refl _, fun _ _ _ => rfl⟩ (fun r e => by cases e))
          have HS7 : Hid (∀ q, ((nl ≤ q ∧ q < n0) ∨ (W.heap.size ≤ q ∧ q < w2.heap.size)) → q ≠ W.heap.size → w7.heap[q]? = w2.heap[q]?) := by rw [← hw7]; exact HS6
          have HD7 : Hid (w7.heap[W.heap.size]? = some (.cells #[.int .i64 (psum 0 (k + 1) d), .int .i64 (psum 1 (k + 1) d)] 128 (0, 0))) := by rw [← hw7]; exact HD6
          have hz7 : w2.heap.size ≤ w7.heap.size := by rw [← hw7]; exact hz6'
          have hd0' : w7.cell? ⟨W.heap.size, 0, none⟩ = some (.int .i64 q0) := by rw [← hw7]; exact hd0
          have hd1' : w7.cell? ⟨W.heap.size, 1, none⟩ = some (.int .i64 q1) := by rw [← hw7]; exact hd1
          have hcb3' : w7.cell? ⟨b3, 0, none⟩ = some (.func (.func fb) #[] #[]) := by rw [← hw7]; exact hcb3
          have hbx' : w7.cell? ⟨wr.heap.size, 0, none⟩ = some (.int .i64 at_) := by rw [← hw7]; exact hbx
          rw [hw7]
          clear hw7 HJ6 HS6 HD6 hd0 hd1 hcb3 hbx hz6'
          have hbq : bf (decide (0 < psum 0 (k + 1) d)) (decide (0 < psum 1 (k + 1) d)) = bf (decide (0 < q0)) (decide (0 < q1)) := by rw [HQ0.out, HQ1.out]
          have HBQ := hid hbq
          clear hbq
          cases bi with
          | false =>
            by_cases htt : bf (decide (0 < q0)) (decide (0 < q1)) = true
            · have HI' := HI.out.opens hb0 HG.out HE.out HN.out (HBQ.out.trans htt)
              gi_wp2_with (refine And.intro trivial ?_; gi_at_fn fb; refine (callsIn_wide.2 (HF.out _ _ _)).mono ?_; rintro e w' ⟨rfl, rfl⟩)
              refine And.intro (fun _ _ => trivial) ?_
              gi_wp2
              go_roundw
              case rel => exact ⟨k + 1, true, at_, out, by omega, by go_num, rfl, rfl, hid HI', ha0, ha1, hz7, HJ7, HS7, HD7⟩
              case measure => simp [intOf]; omega
            · have htf : bf (decide (0 < q0)) (decide (0 < q1)) = false := by simpa using htt
              have HI' := HI.out.stays hb0 HG.out HE.out HN.out (HBQ.out.trans htf)
              clear htt
              gi_wp2_with (refine And.intro trivial ?_; gi_at_fn fb; refine (callsIn_wide.2 (HF.out _ _ _)).mono ?_; rintro e w' ⟨rfl, rfl⟩)
              refine And.intro (fun _ _ => trivial) ?_
              gi_wp2
              go_roundw
              case rel => exact ⟨k + 1, false, s, out, by omega, by go_num, rfl, rfl, hid HI', hs0, hs1, hz7, HJ7, HS7, HD7⟩
              case measure => simp [intOf]; omega
          | true =>
            by_cases htt : bf (decide (0 < q0)) (decide (0 < q1)) = true
            · have HI' := HI.out.stays hb0 HG.out HE.out HN.out (HBQ.out.trans htt)
              gi_wp2_with (refine And.intro trivial ?_; gi_at_fn fb; refine (callsIn_wide.2 (HF.out _ _ _)).mono ?_; rintro e w' ⟨rfl, rfl⟩)
              refine And.intro (fun _ _ => trivial) ?_
              gi_wp2
              go_roundw
              case rel => exact ⟨k + 1, true, s, out, by omega, by go_num, rfl, rfl, hid HI', hs0, hs1, hz7, HJ7, HS7, HD7⟩
              case measure => simp [intOf]; omega
            · have htf : bf (decide (0 < q0)) (decide (0 < q1)) = false := by simpa using htt
              obtain ⟨HI', hi0, hi1, hi2⟩ := HI.out.closes HG.out HE.out HN.out (HBQ.out.trans htf)
              dsimp only at HI' hi1 hi2
              have HI2 := hid HI'
              clear htt HI'
              obtain ⟨fn, tmps, assign, body, hy, hR⟩ := H4.out w2.heap.size out (s, at_ - s) w7 (by omega) HJ7.out HI2.out.canon hz7
              have HR := hid hR
              dsimp only [extv] at hy
              clear hR
              gi_wp2_with (refine And.intro trivial ?_; gi_at_fn fb; refine (callsIn_wide.2 (HF.out _ _ _)).mono ?_; rintro e w' ⟨rfl, rfl⟩)
              refine HR.out.mono ?_
              rintro e W3 (⟨rfl, hJ3, hk3⟩ | ⟨rfl, hJx3⟩)
              · have hz3 := hk3.size
                gi_wp2
                go_roundw
                case rel => exact ⟨k + 1, false, s, out ++ [(s, at_ - s)], by omega, by go_num, rfl, rfl, HI2, hs0, hs1, by omega, hid hJ3, hid (fun q hq hne => (hk3.same q hq).trans (HS7.out q hq hne)), hid ((hk3.same W.heap.size (.inr ⟨Nat.le_refl _, hlo⟩)).trans HD7.out)⟩
                case measure => simp [intOf]; omega
              · gi_wp2
                refine bodyPost_ret (results_none rfl _ _ _) rfl ?_
                exact ⟨⟨_, rfl⟩, .inr ⟨w2.heap.size, out ++ [(s, at_ - s)], by omega, HI2.out.canon, hJx3⟩⟩
      · have hdec : decide ((k : Int) + 1 < (d.length : Int)) = false := by simp; omega
        have HN : Hid (∀ g' : Edge, d[k + 1]? = some g' → at_ < g'.1) := hid (fun g' hg' => absurd (List.getElem?_eq_some_iff.1 hg').1 hnx)
        gi_wp2
        gi_quiet (fail)
        rename_i nq
        obtain ⟨w7, hw7⟩ : ∃ w7, w6.drewN nq = w7 := ⟨_, rfl⟩
        have HJ7 : Hid (J w2.heap.size out w7) := by rw [← hw7]; exact hid (H2.out _ _ _ _ none HJ6.out ⟨rfl, rfl, rfl, Nat.le_refl _, fun _ _ _ => rfl⟩ (fun r e => by cases e))
        have HS7 : Hid (∀ q, ((nl ≤ q ∧ q < n0) ∨ (W.heap.size ≤ q ∧ q < w2.heap.size)) → q ≠ W.heap.size → w7.heap[q]? = w2.heap[q]?) := by rw [← hw7]; exact HS6
        have HD7 : Hid (w7.heap[W.heap.size]? = some (.cells #[.int .i64 (psum 0 (k + 1) d), .int .i64 (psum 1 (k + 1) d)] 128 (0, 0))) := by rw [← hw7]; exact HD6
        have hz7 : w2.heap.size ≤ w7.heap.size := by rw [← hw7]; exact hz6'
        have hd0' : w7.cell? ⟨W.heap.size, 0, none⟩ = some (.int .i64 q0) := by rw [← hw7]; exact hd0
        have hd1' : w7.cell? ⟨W.heap.size, 1, none⟩ = some (.int .i64 q1) := by rw [← hw7]; exact hd1
        have hcb3' : w7.cell? ⟨b3, 0, none⟩ = some (.func (.func fb) #[] #[]) := by rw [← hw7]; exact hcb3
        have hbx' : w7.cell? ⟨wr.heap.size, 0, none⟩ = some (.int .i64 at_) := by rw [← hw7]; exact hbx
        rw [hw7]
        clear hw7 HJ6 HS6 HD6 hd0 hd1 hcb3 hbx hz6'
        have hbq : bf (decide (0 < psum 0 (k + 1) d)) (decide (0 < psum 1 (k + 1) d)) = bf (decide (0 < q0)) (decide (0 < q1)) := by rw [HQ0.out, HQ1.out]
        have HBQ := hid hbq
        clear hbq
        cases bi with
        | false =>
          by_cases htt : bf (decide (0 < q0)) (decide (0 < q1)) = true
          · have HI' := HI.out.opens hb0 HG.out HE.out HN.out (HBQ.out.trans htt)
            gi_wp2_with (refine And.intro trivial ?_; gi_at_fn fb; refine (callsIn_wide.2 (HF.out _ _ _)).mono ?_; rintro e w' ⟨rfl, rfl⟩)
            refine And.intro (fun _ _ => trivial) ?_
            gi_wp2
            go_roundw
            case rel => exact ⟨k + 1, true, at_, out, by omega, by go_num, rfl, rfl, hid HI', ha0, ha1, hz7, HJ7, HS7, HD7⟩
            case measure => simp [intOf]; omega
          · have htf : bf (decide (0 < q0)) (decide (0 < q1)) = false := by simpa using htt
            have HI' := HI.out.stays hb0 HG.out HE.out HN.out (HBQ.out.trans htf)
            clear htt
            gi_wp2_with (refine And.intro trivial ?_; gi_at_fn fb; refine (callsIn_wide.2 (HF.out _ _ _)).mono ?_; rintro e w' ⟨rfl, rfl⟩)
            refine And.intro (fun _ _ => trivial) ?_
            gi_wp2
            go_roundw
            case rel => exact ⟨k + 1, false, s, out, by omega, by go_num, rfl, rfl, hid HI', hs0, hs1, hz7, HJ7, HS7, HD7⟩
            case measure => simp [intOf]; omega
        | true =>
          by_cases htt : bf (decide (0 < q0)) (decide (0 < q1)) = true
          · have HI' := HI.out.stays hb0 HG.out HE.out HN.out (HBQ.out.trans htt)
            gi_wp2_with (refine And.intro trivial ?_; gi_at_fn fb; refine (callsIn_wide.2 (HF.out _ _ _)).mono ?_; rintro e w' ⟨rfl, rfl⟩)
            refine And.intro (fun _ _ => trivial) ?_
            gi_wp2
            go_roundw
            case rel => exact ⟨k + 1, true, s, out, by omega, by go_num, rfl, rfl, hid HI', hs0, hs1, hz7, HJ7, HS7, HD7⟩
            case measure => simp [intOf]; omega
          · have htf : bf (decide (0 < q0)) (decide (0 < q1)) = false := by simpa using htt
            obtain ⟨HI', hi0, hi1, hi2⟩ := HI.out.closes HG.out HE.out HN.out (HBQ.out.trans htf)
            dsimp only at HI' hi1 hi2
            have HI2 := hid HI'
            clear htt HI'
            obtain ⟨fn, tmps, assign, body, hy, hR⟩ := H4.out w2.heap.size out (s, at_ - s) w7 (by omega) HJ7.out HI2.out.canon hz7
            have HR := hid hR
            dsimp only [extv] at hy
            clear hR
            gi_wp2_with (refine And.intro trivial ?_; gi_at_fn fb; refine (callsIn_wide.2 (HF.out _ _ _)).mono ?_; rintro e w' ⟨rfl, rfl⟩)
            refine HR.out.mono ?_
            rintro e W3 (⟨rfl, hJ3, hk3⟩ | ⟨rfl, hJx3⟩)
            · have hz3 := hk3.size
              gi_wp2
              go_roundw
              case rel => exact ⟨k + 1, false, s, out ++ [(s, at_ - s)], by omega, by go_num, rfl, rfl, HI2, hs0, hs1, by omega, hid hJ3, hid (fun q hq hne => (hk3.same q hq).trans (HS7.out q hq hne)), hid ((hk3.same W.heap.size (.inr ⟨Nat.le_refl _, hlo⟩)).trans HD7.out)⟩
              case measure => simp [intOf]; omega
            · gi_wp2
              refine bodyPost_ret (results_none rfl _ _ _) rfl ?_
              exact ⟨⟨_, rfl⟩, .inr ⟨w2.heap.size, out ++ [(s, at_ - s)], by omega, HI2.out.canon, hJx3⟩⟩
    · obtain rfl : k = d.length := by omega
      obtain ⟨_, hcan, hmem⟩ := HI.out.ends
      have hmem' : ∀ x, mem out x = bf (mem a x) (mem c x) := fun x => (hmem x).trans (want_mem HP.out x)
      clear hmem
      have HM := hid hmem'
      clear hmem'
      gi_wp2
      go_end0
      exact ⟨⟨_, rfl⟩, .inl ⟨w2.heap.size, out, by omega, ⟨hcan, HM.out⟩, HJ.out⟩⟩
end Go.Proofs.Ytoefbgkeinhibaa.Xt
