/-
  The statement's walk (layer 6): LinearImages, by what is asked of linear.
  The statement's walk (layer 6): LinearAnswers, by what is asked of linear.
  The statement's walk (layer 6): LinearTalks, by what is asked of linear.
  The statement's walk (layer 6): LinearWhole, by what is asked of linear.
  The statement's walk (layer 6): LinearFakes, by what is asked of linear.
  The statement's walk (layer 6): LinearExtracts, by what is asked of linear.
  The statement's walk (layer 6): LinearBoth, by what is asked of linear.
-/
import Derived.Test.YtmmicbdjafolpafLlin
namespace Go.Proofs.Ytmmicbdjafolpaf
open Go.RowKit

theorem same_self (k : Nat) (F : Nat → Int) : sameB k F k F = true := sameB_iff.2 ⟨rfl, fun _ _ => rfl⟩

end Go.Proofs.Ytmmicbdjafolpaf

namespace Go.Proofs.Ytmmicbdjafolpaf
open Go.RowKit

end Go.Proofs.Ytmmicbdjafolpaf

namespace Go.Proofs.Ytmmicbdjafolpaf
open Go.RowKit

def two6 (m k : Nat) : Nat → Nat | 0 => m | _ => k
def two6a (b c : Option Addr) : Nat → Option Addr | 0 => b | _ => c
theorem lens_two (w : World) (b : Option Addr) (n c : Nat) (b' : Option Addr) (n' c' : Nat) (t : TypeId) : LensIn (w.alloc (.cells #[.slice b n c, .slice b' n' c'] t)) (some ⟨w.heap.size, 0, none⟩) 2 (two6a b b') (two6 n n') (two6 c c') := by
  refine Or.inr ⟨_, _, rfl, by simp, fun j hj => ?_⟩
  match j, hj with
  | 0, _ => exact (World.cell?_alloc_mark w _ t (0, 0) 0).trans rfl
  | 1, _ => exact (World.cell?_alloc_mark w _ t (0, 0) 1).trans rfl

end Go.Proofs.Ytmmicbdjafolpaf

namespace Go.Proofs.Ytmmicbdjafolpaf
open Go.RowKit

theorem c_last {w W : World} (h : Old w W) (x y : Value) (t : TypeId) : Old w (W.alloc (.cells #[x, y] t)) ∧ (W.alloc (.cells #[x, y] t)).cell? ⟨W.heap.size, 0, none⟩ = some x ∧ (W.alloc (.cells #[x, y] t)).cell? ⟨W.heap.size, 1, none⟩ = some y :=
  ⟨h.alloc _, (World.cell?_alloc_mark W _ t (0, 0) 0).trans rfl, (World.cell?_alloc_mark W _ t (0, 0) 1).trans rfl⟩

/-- The claim that was made is one, of as many. -/
theorem IsClaim.made {P Q G : Int} (h : Righ P Q G) {nb : Nat} {L : Nat → Nat} {B : Nat → Nat → Int} {sz : Nat} (hc : IsClaim P Q nb (fun _ => 1) nb L B sz) (X : Nat → Int) : IsClaim P Q nb (fun j => imI P Q (B j) X sz) nb L B sz :=
  ⟨hc.t1, hc.t64, hc.nb, hc.n1, hc.n64, hc.len, fun j hj => h.im_in sz (hc.bin j hj), hc.bin⟩
theorem IsClaim.holds {P Q : Int} {nb : Nat} {T : Nat → Int} {L : Nat → Nat} {B : Nat → Nat → Int} {sz : Nat} (hc : IsClaim P Q nb T nb L B sz) {X : Nat → Int} (hT : ∀ j, j < nb → imI P Q (B j) X sz = T j) : holdsL P Q nb T nb L B sz X = true := by
  unfold holdsL
  rw [hc.size, Bool.and_eq_true_iff]
  exact ⟨fitsB_iff.2 ⟨by have := hc.n1; omega, rfl⟩, sameB_iff.2 ⟨rfl, hT⟩⟩
theorem IsClaim.acc {P Q G ch : Int} (h : Righ P Q G) {nb : Nat} {L : Nat → Nat} {B : Nat → Nat → Int} {sz : Nat} {X Y : Nat → Int} (hc : IsClaim P Q nb (fun j => imI P Q (B j) X sz) nb L B sz) (hX : ∀ k, k < sz → 0 ≤ X k) (hY : ∀ k, k < sz → 0 ≤ Y k) (he : 0 ≤ ch) :
    accB P Q nb (fun j => imI P Q (B j) X sz) nb L B nb (fun j => imI P Q (B j) Y sz) ch sz (fun k => ansI Q ch (X k) (Y k)) = true := by
  refine accB_iff.2 ⟨by rw [hc.size]; exact fitsB_iff.2 ⟨by have := hc.n1; omega, rfl⟩, rfl, fun j hj => ⟨h.im_in sz (hc.bin j hj), ?_⟩⟩
  rw [hc.size]
  exact h.im_ans sz (hc.bin j hj) hX hY he

end Go.Proofs.Ytmmicbdjafolpaf

namespace Go.Proofs.Ytmmicbdjafolpaf
open Go.RowKit

theorem add_zero_mod {Q y : Int} (h : okM Q = true) : addI y 0 Q = y % Q := by rw [addI_yes h, Int.add_zero]

set_option linter.unusedSimpArgs false in
set_option maxRecDepth 100000 in
set_option maxHeartbeats 8000000 in
theorem law_fakes (hLs : Lsize) (hLh : Lholds) (hLi : Limage) (hLa : Lanswer) (hLd : Ldraws) (hLf : Lfake) (P Q G H ch : Int) (a : Option Addr) (n cap : Nat) (N A : Nat → Int) (FA : Nat → Option Addr) (RL RC : Nat → Nat) (RF : Nat → Nat → Int) (bb : Option Addr) (nb cb : Nat) (BA : Nat → Option Addr) (L C : Nat → Nat) (B : Nat → Nat → Int) (b1 : Option Addr) (n1 c1 : Nat) (X : Nat → Int) (b2 : Option Addr) (n2 c2 : Nat) (Y : Nat → Int) (w : World) (h4 : Four P Q G H) (_hcap : n ≤ cap) (hin : RowsIn w a n N A FA RL RC RF) (hnb : nb ≤ 5864062014634) (hcb : nb ≤ cb) (hcm : cb ≤ 9223372036854775807) (hB : ListsIn w bb nb BA L C B) (hch : U64 ch) (hc1 : n1 ≤ c1) (hX : FacsIn w b1 n1 X) (hc2 : n2 ≤ c2) (hY : FacsIn w b2 n2 Y) :
    Calls Try.prog 4 #[gv P Q G H a n cap, .slice bb nb cb, .agg #[.int .u64 ch, .slice b1 n1 c1, .slice b2 n2 c2]] w fun e w' => e = .returned (.bool true) ∧ Old w w' := by
  have HZ := lain2 w (gc P Q G H a n cap) #[.int .u64 ch, .slice b1 n1 c1, .slice b2 n2 c2] 25 29
  have HF : Hid (∀ w', Lain w [(gc P Q G H a n cap, 25), (#[.int .u64 ch, .slice b1 n1 c1, .slice b2 n2 c2], 29)] w' → w'.cell? ⟨w.heap.size, 0, none⟩ = some (.int .u64 P) ∧ w'.cell? ⟨w.heap.size, 1, none⟩ = some (.int .u64 Q) ∧ w'.cell? ⟨w.heap.size, 2, none⟩ = some (.int .u64 G) ∧ w'.cell? ⟨w.heap.size, 3, none⟩ = some (.int .u64 H) ∧ w'.cell? ⟨w.heap.size, 4, none⟩ = some (.slice a n cap) ∧ w'.cell? ⟨w.heap.size + 1, 0, none⟩ = some (.int .u64 ch) ∧ w'.cell? ⟨w.heap.size + 1, 1, none⟩ = some (.slice b1 n1 c1) ∧ w'.cell? ⟨w.heap.size + 1, 2, none⟩ = some (.slice b2 n2 c2)) := fun _ h => ⟨h.cell 0 0 (by simp) rfl, h.cell 0 1 (by simp) rfl, h.cell 0 2 (by simp) rfl, h.cell 0 3 (by simp) rfl, h.cell 0 4 (by simp) rfl, h.cell 1 0 (by simp) rfl, h.cell 1 1 (by simp) rfl, h.cell 1 2 (by simp) rfl⟩
  have HA : Hid (∀ wx, Calls Try.prog 5 #[] wx fun e w' => e = .returned (.bool true) ∧ Old wx w') := fun wx => awake6_any hLs hLh wx
  have HU : Hid (∀ wx, Old w wx → Calls Try.prog 6 #[gv P Q G H a n cap] wx fun e w' => e = .returned (.bool (fewB RL n && rightI P Q G H N A RF RL n)) ∧ Old wx w') := fun wx ho => group5_any P Q G H a n cap N A FA RL RC RF wx h4 (hin.old ho)
  have HM : Hid (∀ wx, Old w wx → Calls Try.prog 7 #[gv P Q G H a n cap, .slice bb nb cb, .slice b1 n1 c1] wx (MadeC (fewC nb nb L 1 (fun _ => n1)) (fitsB (sizeN P Q nb (fun _ => 1) nb L B) n1) (fun j => imI P Q (B j) X (sizeN P Q nb (fun _ => 1) nb L B)) bb nb cb BA L C B wx)) := fun wx ho => claim6_any P Q G H a n cap bb nb cb BA L C B b1 n1 c1 X wx h4 hnb hcb hcm (hB.old ho) (hX.old ho)
  have ha := hin.a0
  clear hin
  go_enter Try.func4, Try.ntmps4
  go_upto_region 1 with fail
  generalize hW : (w.alloc (.cells (gc P Q G H a n cap) 25)).alloc (.cells #[.int .u64 ch, .slice b1 n1 c1, .slice b2 n2 c2] 29) = W at *
  clear hW
  have HW0 : Hid (Old w W) := HZ.old
  have HT : Hid (∀ w', Old W w' → w'.cell? ⟨w.heap.size, 0, none⟩ = some (.int .u64 P) ∧ w'.cell? ⟨w.heap.size, 1, none⟩ = some (.int .u64 Q) ∧ w'.cell? ⟨w.heap.size, 2, none⟩ = some (.int .u64 G) ∧ w'.cell? ⟨w.heap.size, 3, none⟩ = some (.int .u64 H) ∧ w'.cell? ⟨w.heap.size, 4, none⟩ = some (.slice a n cap) ∧ w'.cell? ⟨w.heap.size + 1, 0, none⟩ = some (.int .u64 ch) ∧ w'.cell? ⟨w.heap.size + 1, 1, none⟩ = some (.slice b1 n1 c1) ∧ w'.cell? ⟨w.heap.size + 1, 2, none⟩ = some (.slice b2 n2 c2)) := fun w' ho => HF.out _ (HZ.then ho)
  go_upto_region 3 with (go_at_call 5; refine (HA.out _).mono ?_; rintro e w1 ⟨rfl, h1⟩; obtain ⟨d0, d1, d2, d3, d4, t0, t1, t2⟩ := HT.out _ h1)
  cases hg : (fewB RL n && rightI P Q G H N A RF RL n)
  · rw [hg] at HU
    clear hg ha h4 hX hY hLs hLh hLi hLa hLd hLf hB
    go_wp2_with (go_at_call 6; refine (HU.out _ (HW0.out.trans h1)).mono ?_; rintro e w2 ⟨rfl, o2⟩)
    go_ret
    exact ⟨rfl, (HW0.out.trans h1).trans o2⟩
  have hg' := Bool.and_eq_true_iff.1 hg
  have hR := right_righ ha hg'.2
  rw [hg] at HU
  clear hg hg' ha
  go_upto_region 5 with (go_at_call 6; refine (HU.out _ (HW0.out.trans h1)).mono ?_; rintro e w2 ⟨rfl, o2⟩; have h2 : Old W w2 := h1.trans o2; obtain ⟨d0, d1, d2, d3, d4, t0, t1, t2⟩ := HT.out _ h2)
  go_upto_region 6 with (go_at_call 7; refine (HM.out _ (HW0.out.trans h2)).mono ?_; rintro e w3 ⟨bt, nt, ct, o, rfl, o3, hmk⟩)
  have h3 : Old W w3 := h2.trans o3
  have hcl0 := c_last (Old.refl w3) (.slice bt nt ct) (.slice bb nb cb) 34
  clear d0 d1 d2 d3 d4 t0 t1 t2
  generalize w3.alloc (.cells #[.slice bt nt ct, .slice bb nb cb] 34) = w4 at *
  generalize hbc : w3.heap.size = bc at *
  have h5 : Old W w4 := h3.trans hcl0.1
  obtain ⟨d0, d1, d2, d3, d4, t0, t1, t2⟩ := HT.out _ h5
  cases o with
  | false =>
    clear h4 hX hY hLs hLh hLi hLa hLd hLf hB hmk hR
    go_wp2_with fail
    go_ret
    exact ⟨rfl, HW0.out.trans h5⟩
  | true =>
    obtain ⟨hfw, hft, hnt, hcl⟩ := hmk rfl
    subst hnt
    by_cases hn : n1 = n2
    · subst hn
      have hfI := fewC_iff.1 hfw
      have hfew : FewI nt nt L := ⟨hfI.1, hfI.2.1, hfI.2.2.1⟩
      have m1 : n1 ≤ 80 := hfI.2.2.2 0 (by omega)
      have hIs := sizeN_claim (fitsB_iff.1 hft).1
      have hsz := (fitsB_iff.1 hft).2
      rw [← hsz] at hIs hcl
      have hI2 := hIs.made hR X
      have hC4 : ClaimIn w4 bt nt ct (fun j => imI P Q (B j) X n1) bb nt cb BA L C B := hcl.old hcl0.1
      have e1 : holdsL P Q nt (fun j => imI P Q (B j) X n1) nt L B n1 X = true := hI2.holds fun _ _ => rfl
      have e3 : fitsB (sizeN P Q nt (fun j => imI P Q (B j) X n1) nt L B) n1 = true := by rw [hI2.size]; exact fitsB_iff.2 ⟨by have := hI2.n1; omega, rfl⟩
      have H1 : Hid (∀ wx, Old w4 wx → Calls Try.prog 11 #[gv P Q G H a n cap, cv bt nt ct bb nt cb, .slice b2 n1 c2] wx (Gives wx true nt (fun j => imI P Q (B j) Y n1))) := fun wx ho => by
        have := hLi P Q G H a n cap bt nt ct (fun j => imI P Q (B j) X n1) bb nt cb BA L C B b2 n1 c2 Y wx h4 hR hfew m1 hc2 (hC4.old ho) (hY.old ((HW0.out.trans h5).trans ho))
        rwa [e3, hI2.size] at this
      have H2 : Hid (∀ wx, Old w4 wx → Calls Try.prog 8 #[gv P Q G H a n cap, .slice b1 n1 c1, .slice b2 n1 c2, .int .u64 ch] wx (Gives wx true n1 (fun k => ansI Q ch (X k) (Y k)))) := fun wx ho => by
        have := hLa P Q G H a n cap b1 n1 c1 X b2 n1 c2 Y ch wx h4 hR hch m1 m1 hc1 hc2 (hX.old ((HW0.out.trans h5).trans ho)) (hY.old ((HW0.out.trans h5).trans ho))
        rwa [decide_eq_true rfl] at this
      have H3 : Hid (∀ bz cz wx, Old w4 wx → n1 ≤ cz → FacsIn wx bz n1 (fun k => ansI Q ch (X k) (Y k)) → Calls Try.prog 12 #[gv P Q G H a n cap, cv bt nt ct bb nt cb, .int .u64 ch, .slice bz n1 cz] wx fun r w' => ∃ v, r = .returned (.tuple #[v, .bool true]) ∧ (∃ bf cf, v = .slice bf nt cf ∧ FacsIn w' bf nt (fun j => imI P Q (B j) Y n1)) ∧ Old wx w') := fun bz cz wx ho q1 f1 =>
        (hLf P Q G H a n cap bt nt ct (fun j => imI P Q (B j) X n1) bb nt cb BA L C B ch bz n1 cz (fun k => ansI Q ch (X k) (Y k)) wx h4 hR hfew hch m1 q1 (hC4.old ho) f1).mono fun r w' ⟨v, h, hN, hO⟩ => by
          rw [e3] at h hN
          simp only [if_true] at hN
          obtain ⟨bf, cf, rfl, _, _, hf⟩ := hN.facs2 (fun j _ => u64_mul _ _ _)
          refine ⟨_, h, ⟨bf, cf, rfl, ?_⟩, hO⟩
          rcases hf with h0 | ⟨b, off, hq, hb, hr⟩
          · exact Or.inl h0
          · refine Or.inr ⟨b, off, hq, hb, fun j hj => ?_⟩
            have := hr j hj
            rw [hI2.size] at this
            dsimp only at this
            rw [hR.fake_ans n1 (hI2.bin j hj) (fun k hk => (hX.u64 k hk).1) (fun k hk => (hY.u64 k hk).1) hch.1] at this
            exact this
      have H4 : Hid (∀ bz cz wx, Old w4 wx → n1 ≤ cz → FacsIn wx bz n1 (fun k => ansI Q ch (X k) (Y k)) → Calls Try.prog 13 #[gv P Q G H a n cap, .slice b1 n1 c1, .slice bz n1 cz, .int .u64 ch] wx (Gives wx true n1 (fun k => Y k % Q))) := fun bz cz wx ho q1 f1 => by
        have := hLd P Q G H a n cap b1 n1 c1 X bz n1 cz (fun k => ansI Q ch (X k) (Y k)) ch wx h4 hR hch m1 m1 hc1 q1 (hX.old ((HW0.out.trans h5).trans ho)) f1
        rw [decide_eq_true rfl, show (fun k => drwI Q ch (X k) (ansI Q ch (X k) (Y k))) = fun k => Y k % Q from funext fun k => drw_ans hR.okq] at this
        exact this
      have H5 : Hid (∀ i wx, i < n1 → Calls Try.prog 15 #[.int .u64 (Y i), .int .u64 0, .int .u64 Q] wx fun r w' => r = .returned (.int .u64 (Y i % Q)) ∧ Old wx w') := fun i wx hi => (radd_any (Y i) 0 Q wx (hY.u64 i hi).1 (hY.u64 i hi).2 (by omega) (by omega)).mono fun r w' ⟨h, k⟩ => ⟨by rw [h, add_zero_mod hR.okq], (Old.refl _).draws k⟩
      have F1 : Hid (∀ j, U64 ((fun j => imI P Q (B j) Y n1) j)) := fun j => u64_prod _ _ _
      have F2 : Hid (∀ j, U64 ((fun k => ansI Q ch (X k) (Y k)) j)) := fun j => by have := addI_bd (Y j) (mulI ch (X j) Q) Q; show U64 (addI _ _ _); unfold U64; omega
      have F3 : Hid (∀ j, U64 ((fun k => Y k % Q) j)) := fun j => by have := mod_bd (Y j) hR.okq; have := hR.q1; show U64 (Y j % Q); unfold U64; omega
      have hnt64 : nt ≤ 64 := hI2.t64
      have HC : Hid (∀ w', Old w4 w' → w'.cell? ⟨bc, 0, none⟩ = some (.slice bt nt ct) ∧ w'.cell? ⟨bc, 1, none⟩ = some (.slice bb nt cb)) := fun w' ho => ⟨ho.cellOf hcl0.2.1, ho.cellOf hcl0.2.2⟩
      have HT4 : Hid (∀ w', Old w4 w' → w'.cell? ⟨w.heap.size, 0, none⟩ = some (.int .u64 P) ∧ w'.cell? ⟨w.heap.size, 1, none⟩ = some (.int .u64 Q) ∧ w'.cell? ⟨w.heap.size, 2, none⟩ = some (.int .u64 G) ∧ w'.cell? ⟨w.heap.size, 3, none⟩ = some (.int .u64 H) ∧ w'.cell? ⟨w.heap.size, 4, none⟩ = some (.slice a n cap) ∧ w'.cell? ⟨w.heap.size + 1, 0, none⟩ = some (.int .u64 ch) ∧ w'.cell? ⟨w.heap.size + 1, 1, none⟩ = some (.slice b1 n1 c1) ∧ w'.cell? ⟨w.heap.size + 1, 2, none⟩ = some (.slice b2 n1 c2)) := fun w' ho => HT.out _ (h5.trans ho)
      have HOw : Hid (∀ w', Old w4 w' → Old w w') := fun w' ho => (HW0.out.trans h5).trans ho
      have HY : Hid (FacsIn w b2 n1 Y) := hY
      have hn0 : 0 < n1 := hI2.n1
      clear e1 e3 hC4 hI2 hIs hcl hsz hfw hft hfI hfew hmk h4 hR hLs hLh hLi hLa hLd hLf hX hY hB HM HU HA HZ HF HT hcl0 hnb hcm
      generalize (fun j => imI P Q (B j) Y n1) = A1 at *
      generalize (fun k => ansI Q ch (X k) (Y k)) = A2 at *
      obtain ⟨A3, hA3⟩ : ∃ A3 : Nat → Int, A3 = fun k => Y k % Q := ⟨_, rfl⟩
      have HV : Hid (∀ i, Y i % Q = A3 i) := fun i => by rw [hA3]
      rw [← hA3] at H4 F3
      clear hA3
      obtain ⟨z0, z1⟩ := HC.out _ (Old.refl _)
      go_upto_region 9 with (go_at_call 11; refine (H1.out _ (Old.refl _)).mono ?_; rintro e w6 ⟨x6, rfl, hN6, h6⟩)
      simp only [if_true] at hN6
      obtain ⟨b6, c6, rfl, q6, _, hf6⟩ := hN6.facs2 (fun j _ => F1.out j)
      clear d0 d1 d2 d3 d4 t0 t1 t2 z0 z1
      obtain ⟨d0, d1, d2, d3, d4, t0, t1, t2⟩ := HT4.out _ h6
      obtain ⟨z0, z1⟩ := HC.out _ h6
      go_upto_region 10 with (go_at_call 8; refine (H2.out _ h6).mono ?_; rintro e w7 ⟨x7, rfl, hN7, o7⟩)
      simp only [if_true] at hN7
      obtain ⟨b7, c7, rfl, q7, _, hf7⟩ := hN7.facs2 (fun j _ => F2.out j)
      have h7 : Old w4 w7 := h6.trans o7
      have H3' : Hid (Calls Try.prog 12 #[gv P Q G H a n cap, cv bt nt ct bb nt cb, .int .u64 ch, .slice b7 n1 c7] w7 fun r w' => ∃ v, r = .returned (.tuple #[v, .bool true]) ∧ (∃ bf cf, v = .slice bf nt cf ∧ FacsIn w' bf nt A1) ∧ Old w7 w') := H3.out b7 c7 w7 h7 q7 hf7
      clear d0 d1 d2 d3 d4 t0 t1 t2 z0 z1
      obtain ⟨d0, d1, d2, d3, d4, t0, t1, t2⟩ := HT4.out _ h7
      obtain ⟨z0, z1⟩ := HC.out _ h7
      go_upto_region 11 with (go_at_call 12; refine H3'.out.mono ?_; rintro e w8 ⟨x8, rfl, ⟨b8, c8, rfl, hf8⟩, o8⟩)
      have h8 : Old w4 w8 := h7.trans o8
      have H4' : Hid (Calls Try.prog 13 #[gv P Q G H a n cap, .slice b1 n1 c1, .slice b7 n1 c7, .int .u64 ch] w8 (Gives w8 true n1 A3)) := H4.out b7 c7 w8 h8 q7 (hf7.old o8)
      clear d0 d1 d2 d3 d4 t0 t1 t2 z0 z1
      obtain ⟨d0, d1, d2, d3, d4, t0, t1, t2⟩ := HT4.out _ h8
      go_upto_region 12 with (go_at_call 13; refine H4'.out.mono ?_; rintro e w9 ⟨x9, rfl, hN9, o9⟩)
      simp only [if_true] at hN9
      obtain ⟨b9, c9, rfl, q9, _, hf9⟩ := hN9.facs2 (fun j _ => F3.out j)
      have h9 : Old w4 w9 := h8.trans o9
      have HS : Hid (Calls Try.prog 14 #[.slice b6 nt c6, .slice b8 nt c8] w9 fun e w' => e = .returned (.bool true) ∧ Old w9 w') := (rsame_any b6 nt c6 A1 b8 nt c8 A1 w9 (by omega) (hf6.old ((o7.trans o8).trans o9)) (hf8.old o9)).mono fun e w' ⟨h, k⟩ => ⟨by rw [h, same_self], k⟩
      go_upto_region 14 with (go_at_call 14; refine HS.out.mono ?_; rintro e wA ⟨rfl, oA⟩)
      have hA : Old w4 wA := h9.trans oA
      rcases hf9.old oA with h0 | ⟨b9b, o9b, hq9, _, hr9⟩
      · omega
      subst hq9
      have HR9 : Hid (∀ i, i < n1 → ∀ w', Old wA w' → w'.cell? ⟨b9b, o9b + i, none⟩ = some (.int .u64 (A3 i))) := fun i hi w' ho => ho.cellOf (hr9 i hi).1
      have HAA : Hid (Old w4 wA) := hA
      clear d0 d1 d2 d3 d4 t0 t1 t2 hN6 hN7 hN9 hf6 hf7 hf8 hf9 hr9 o7 o8 o9 oA h6 h7 h8 h9 hA H1 H2 H3 H4 H3' H4' HS
      go_wp2_with fail
      go_loopw [95] (fun iv wx => ∃ i : Nat, iv = .int .i64 (i : Int) ∧ i ≤ n1 ∧ Hid (Old wA wx)) (fun iv _ => n1 - (intOf iv).toNat)
      case atStart => exact ⟨0, rfl, Nat.zero_le _, Old.refl _⟩
      case round =>
        obtain ⟨i, rfl, hi, HO⟩ := hrel
        by_cases hlt : i < n1
        · rcases HY.out with h0 | ⟨yb, yo, hqy, _, hry⟩
          · omega
          have HTi : Hid (∀ w', Old wA w' → w'.cell? ⟨w.heap.size, 0, none⟩ = some (.int .u64 P) ∧ w'.cell? ⟨w.heap.size, 1, none⟩ = some (.int .u64 Q) ∧ w'.cell? ⟨w.heap.size, 2, none⟩ = some (.int .u64 G) ∧ w'.cell? ⟨w.heap.size, 3, none⟩ = some (.int .u64 H) ∧ w'.cell? ⟨w.heap.size, 4, none⟩ = some (.slice a n cap) ∧ w'.cell? ⟨w.heap.size + 1, 0, none⟩ = some (.int .u64 ch) ∧ w'.cell? ⟨w.heap.size + 1, 1, none⟩ = some (.slice b1 n1 c1) ∧ w'.cell? ⟨w.heap.size + 1, 2, none⟩ = some (.slice (some ⟨yb, yo, none⟩) n1 c2) ∧ w'.cell? ⟨b9b, o9b + i, none⟩ = some (.int .u64 (A3 i)) ∧ w'.cell? ⟨yb, yo + i, none⟩ = some (.int .u64 (Y i))) := fun w' ho => by
            obtain ⟨d0, d1, d2, d3, d4, t0, t1, t2⟩ := HT4.out _ (HAA.out.trans ho)
            rw [hqy] at t2
            exact ⟨d0, d1, d2, d3, d4, t0, t1, t2, HR9.out i hlt _ ho, (HOw.out _ (HAA.out.trans ho)).cellOf (hry i hlt).1⟩
          clear hry
          subst hqy
          obtain ⟨d0, d1, d2, d3, d4, t0, t1, t2, ci, cy⟩ := HTi.out _ HO.out
          have H5' : Hid (∀ wx, Calls Try.prog 15 #[.int .u64 (Y i), .int .u64 0, .int .u64 Q] wx fun r w' => r = .returned (.int .u64 (A3 i)) ∧ Old wx w') := fun wx => by have := H5.out i wx hlt; rwa [HV.out i] at this
          go_upto_region 17 with fail
          go_region_held3 (fun w' => w'.cell? ⟨w.heap.size, 0, none⟩ = some (.int .u64 P) ∧ w'.cell? ⟨w.heap.size, 1, none⟩ = some (.int .u64 Q) ∧ w'.cell? ⟨w.heap.size, 2, none⟩ = some (.int .u64 G) ∧ w'.cell? ⟨w.heap.size, 3, none⟩ = some (.int .u64 H) ∧ w'.cell? ⟨w.heap.size, 4, none⟩ = some (.slice a n cap) ∧ w'.cell? ⟨w.heap.size + 1, 0, none⟩ = some (.int .u64 ch) ∧ w'.cell? ⟨w.heap.size + 1, 1, none⟩ = some (.slice b1 n1 c1) ∧ w'.cell? ⟨w.heap.size + 1, 2, none⟩ = some (.slice (some ⟨yb, yo, none⟩) n1 c2) ∧ w'.cell? ⟨b9b, o9b + i, none⟩ = some (.int .u64 (A3 i)) ∧ w'.cell? ⟨yb, yo + i, none⟩ = some (.int .u64 (Y i))) (first | exact HTi.out _ hB | exact HTi.out _ HO.out.drew) ((go_at_call 15; refine (H5'.out _).mono ?_; rintro e wB ⟨rfl, oB⟩; have hB : Old wA wB := HO.out.drew.trans oB))
          have HB2 : Hid (Old wA wB) := hB
          go_wp2_with fail
          go_roundw
          case rel => exact ⟨i + 1, idx_next i, by omega, HB2⟩
          case measure => simp [intOf]; omega
        · have he : n1 = i := by omega
          subst he
          go_wp2_with fail
          go_ret
          exact ⟨rfl, HOw.out _ (HAA.out.trans HO.out)⟩
    · have k2 : ¬ (n2 : Int) = (n1 : Int) := by omega
      have k4 : ((n2 : Int) != (n1 : Int)) = true := by simp; omega
      have k5 : ((n2 : Int) == (n1 : Int)) = false := by simp; omega
      clear h4 hX hY hLs hLh hLi hLa hLd hLf hB hmk hR hcl hfw hft
      go_wp2_with fail
      go_ret
      exact ⟨rfl, HW0.out.trans h5⟩

end Go.Proofs.Ytmmicbdjafolpaf

namespace Go.Proofs.Ytmmicbdjafolpaf
open Go.RowKit

/-- What is faked is accepted. -/
theorem IsClaim.faked {P Q G ch : Int} (h : Righ P Q G) {nt nb : Nat} {T : Nat → Int} {L : Nat → Nat} {B : Nat → Nat → Int} {sz : Nat} {X : Nat → Int} (hc : IsClaim P Q nt T nb L B sz) :
    accB P Q nt T nb L B nt (fun j => overI P (imI P Q (B j) X sz) (expI P Q (T j) ch)) ch sz X = true := by
  refine accB_iff.2 ⟨by rw [hc.size]; exact fitsB_iff.2 ⟨by have := hc.n1; omega, rfl⟩, rfl, fun j hj => ?_⟩
  have hi := h.im_in (W := X) sz (hc.bin j hj)
  have ht := h.exp_in (e := ch) (hc.tin j hj)
  rw [hc.size]
  exact ⟨h.over_in hi ht, (h.fake_acc hi ht).symm⟩
/-- Of two accepted talks with one beginning the claim holds for what is extracted. -/
theorem IsClaim.drawn {P Q G e f : Int} (h : Righ P Q G) {nt nb : Nat} {T K : Nat → Int} {L : Nat → Nat} {B : Nat → Nat → Int} {sz m : Nat} {X Y : Nat → Int} (hc : IsClaim P Q nt T nb L B sz) (hY : ∀ k, k < sz → 0 ≤ Y k) (he : 0 ≤ e) (hf : 0 ≤ f) (hne : e % Q ≠ f % Q)
    (a1 : accB P Q nt T nb L B nt K e sz X = true) (a2 : accB P Q nt T nb L B nt K f m Y = true) : m = sz ∧ holdsL P Q nt T nb L B sz (fun k => exI Q (invI (subI e f Q) Q) (X k) (Y k)) = true := by
  obtain ⟨_, _, r1⟩ := accB_iff.1 a1
  obtain ⟨f2, _, r2⟩ := accB_iff.1 a2
  have hm : m = sz := by have := (fitsB_iff.1 f2).2; rw [hc.size] at this; exact this
  subst hm
  refine ⟨rfl, ?_⟩
  unfold holdsL
  rw [hc.size, Bool.and_eq_true_iff]
  refine ⟨fitsB_iff.2 ⟨by have := hc.n1; omega, rfl⟩, sameB_iff.2 ⟨rfl, fun j hj => ?_⟩⟩
  have q1 := (r1 j hj).2
  have q2 := (r2 j hj).2
  rw [hc.size] at q1 q2
  exact h.extracts m (hc.bin j hj) hY he hf (hc.tin j hj) hne q1 q2

end Go.Proofs.Ytmmicbdjafolpaf

namespace Go.Proofs.Ytmmicbdjafolpaf
open Go.RowKit

set_option linter.unusedSimpArgs false in
set_option maxRecDepth 100000 in
set_option maxHeartbeats 8000000 in
theorem law_both (hLs : Lsize) (hLh : Lholds) (hLa : Lanswer) (hLe : Lextract) (P Q G H e0 e1 : Int) (a : Option Addr) (n cap : Nat) (N A : Nat → Int) (FA : Nat → Option Addr) (RL RC : Nat → Nat) (RF : Nat → Nat → Int) (bb : Option Addr) (nb cb : Nat) (BA : Nat → Option Addr) (L C : Nat → Nat) (B : Nat → Nat → Int) (b1 : Option Addr) (n1 c1 : Nat) (X : Nat → Int) (b2 : Option Addr) (n2 c2 : Nat) (Y : Nat → Int) (k1 : Option Addr) (m1 p1 : Nat) (k2 : Option Addr) (m2 p2 : Nat) (w : World) (h4 : Four P Q G H) (_hcap : n ≤ cap) (hin : RowsIn w a n N A FA RL RC RF) (hnb : nb ≤ 5864062014634) (hcb : nb ≤ cb) (hcm : cb ≤ 9223372036854775807) (hB : ListsIn w bb nb BA L C B) (he0 : U64 e0) (hc1 : n1 ≤ c1) (hX : FacsIn w b1 n1 X) (hc2 : n2 ≤ c2) (hY : FacsIn w b2 n2 Y) (he1 : U64 e1) :
    Calls Try.prog 3 #[gv P Q G H a n cap, .slice bb nb cb, .agg #[.int .u64 e0, .slice b1 n1 c1, .slice b2 n2 c2, .int .u64 e1, .slice k1 m1 p1, .slice k2 m2 p2]] w fun e w' => e = .returned (.bool true) ∧ Old w w' := by
  have HZ := lain2 w (gc P Q G H a n cap) #[.int .u64 e0, .slice b1 n1 c1, .slice b2 n2 c2, .int .u64 e1, .slice k1 m1 p1, .slice k2 m2 p2] 25 30
  have HF : Hid (∀ w', Lain w [(gc P Q G H a n cap, 25), (#[.int .u64 e0, .slice b1 n1 c1, .slice b2 n2 c2, .int .u64 e1, .slice k1 m1 p1, .slice k2 m2 p2], 30)] w' → w'.cell? ⟨w.heap.size, 0, none⟩ = some (.int .u64 P) ∧ w'.cell? ⟨w.heap.size, 1, none⟩ = some (.int .u64 Q) ∧ w'.cell? ⟨w.heap.size, 2, none⟩ = some (.int .u64 G) ∧ w'.cell? ⟨w.heap.size, 3, none⟩ = some (.int .u64 H) ∧ w'.cell? ⟨w.heap.size, 4, none⟩ = some (.slice a n cap) ∧ w'.cell? ⟨w.heap.size + 1, 0, none⟩ = some (.int .u64 e0) ∧ w'.cell? ⟨w.heap.size + 1, 1, none⟩ = some (.slice b1 n1 c1) ∧ w'.cell? ⟨w.heap.size + 1, 2, none⟩ = some (.slice b2 n2 c2) ∧ w'.cell? ⟨w.heap.size + 1, 3, none⟩ = some (.int .u64 e1) ∧ w'.cell? ⟨w.heap.size + 1, 4, none⟩ = some (.slice k1 m1 p1) ∧ w'.cell? ⟨w.heap.size + 1, 5, none⟩ = some (.slice k2 m2 p2)) := fun _ h => ⟨h.cell 0 0 (by simp) rfl, h.cell 0 1 (by simp) rfl, h.cell 0 2 (by simp) rfl, h.cell 0 3 (by simp) rfl, h.cell 0 4 (by simp) rfl, h.cell 1 0 (by simp) rfl, h.cell 1 1 (by simp) rfl, h.cell 1 2 (by simp) rfl, h.cell 1 3 (by simp) rfl, h.cell 1 4 (by simp) rfl, h.cell 1 5 (by simp) rfl⟩
  have HA : Hid (∀ wx, Calls Try.prog 5 #[] wx fun e w' => e = .returned (.bool true) ∧ Old wx w') := fun wx => awake6_any hLs hLh wx
  have HU : Hid (∀ wx, Old w wx → Calls Try.prog 6 #[gv P Q G H a n cap] wx fun e w' => e = .returned (.bool (fewB RL n && rightI P Q G H N A RF RL n)) ∧ Old wx w') := fun wx ho => group5_any P Q G H a n cap N A FA RL RC RF wx h4 (hin.old ho)
  have HM : Hid (∀ wx, Old w wx → Calls Try.prog 7 #[gv P Q G H a n cap, .slice bb nb cb, .slice b1 n1 c1] wx (MadeC (fewC nb nb L 1 (fun _ => n1)) (fitsB (sizeN P Q nb (fun _ => 1) nb L B) n1) (fun j => imI P Q (B j) X (sizeN P Q nb (fun _ => 1) nb L B)) bb nb cb BA L C B wx)) := fun wx ho => claim6_any P Q G H a n cap bb nb cb BA L C B b1 n1 c1 X wx h4 hnb hcb hcm (hB.old ho) (hX.old ho)
  have ha := hin.a0
  clear hin
  go_enter Try.func3, Try.ntmps3
  go_upto_region 1 with fail
  generalize hW : (w.alloc (.cells (gc P Q G H a n cap) 25)).alloc (.cells #[.int .u64 e0, .slice b1 n1 c1, .slice b2 n2 c2, .int .u64 e1, .slice k1 m1 p1, .slice k2 m2 p2] 30) = W at *
  clear hW
  have HW0 : Hid (Old w W) := HZ.old
  have HT : Hid (∀ w', Old W w' → w'.cell? ⟨w.heap.size, 0, none⟩ = some (.int .u64 P) ∧ w'.cell? ⟨w.heap.size, 1, none⟩ = some (.int .u64 Q) ∧ w'.cell? ⟨w.heap.size, 2, none⟩ = some (.int .u64 G) ∧ w'.cell? ⟨w.heap.size, 3, none⟩ = some (.int .u64 H) ∧ w'.cell? ⟨w.heap.size, 4, none⟩ = some (.slice a n cap) ∧ w'.cell? ⟨w.heap.size + 1, 0, none⟩ = some (.int .u64 e0) ∧ w'.cell? ⟨w.heap.size + 1, 1, none⟩ = some (.slice b1 n1 c1) ∧ w'.cell? ⟨w.heap.size + 1, 2, none⟩ = some (.slice b2 n2 c2) ∧ w'.cell? ⟨w.heap.size + 1, 3, none⟩ = some (.int .u64 e1) ∧ w'.cell? ⟨w.heap.size + 1, 4, none⟩ = some (.slice k1 m1 p1) ∧ w'.cell? ⟨w.heap.size + 1, 5, none⟩ = some (.slice k2 m2 p2)) := fun w' ho => HF.out _ (HZ.then ho)
  go_upto_region 3 with (go_at_call 5; refine (HA.out _).mono ?_; rintro e w1 ⟨rfl, h1⟩; obtain ⟨d0, d1, d2, d3, d4, s0, s1, s2, s3, s4, s5⟩ := HT.out _ h1)
  cases hg : (fewB RL n && rightI P Q G H N A RF RL n)
  · rw [hg] at HU
    clear hg ha h4 hX hY hLs hLh hLa hLe hB
    refine wp_region_held_drew (S := (fun w' => w'.cell? ⟨w.heap.size, 0, none⟩ = some (.int .u64 P) ∧ w'.cell? ⟨w.heap.size, 1, none⟩ = some (.int .u64 Q) ∧ w'.cell? ⟨w.heap.size, 2, none⟩ = some (.int .u64 G) ∧ w'.cell? ⟨w.heap.size, 3, none⟩ = some (.int .u64 H) ∧ w'.cell? ⟨w.heap.size, 4, none⟩ = some (.slice a n cap) ∧ w'.cell? ⟨w.heap.size + 1, 0, none⟩ = some (.int .u64 e0) ∧ w'.cell? ⟨w.heap.size + 1, 1, none⟩ = some (.slice b1 n1 c1) ∧ w'.cell? ⟨w.heap.size + 1, 2, none⟩ = some (.slice b2 n2 c2) ∧ w'.cell? ⟨w.heap.size + 1, 3, none⟩ = some (.int .u64 e1) ∧ w'.cell? ⟨w.heap.size + 1, 4, none⟩ = some (.slice k1 m1 p1) ∧ w'.cell? ⟨w.heap.size + 1, 5, none⟩ = some (.slice k2 m2 p2))) (by kernel_rfl) (HT.out _ h1.drew) (fun hHeld => ?_)
    refine wpAnyH_take (i := 0) (v := ?_) rfl (by kernel_rfl) (by kernel_rfl) (by kernel_rfl) (fun _ _ _ h => h) (Or.inl ⟨by rfl, ?_⟩) (by assumption) ?_
    rotate_left
    · intro wz hSw
      try dsimp only at hSw
      go_simp
      try rfl
    simp only [Act.put, List.getElem_toArray, List.getElem_cons_zero, List.getElem_cons_succ, List.setIfInBounds_toArray, List.set_cons_zero, List.set_cons_succ]
    refine wpAnyH_ready (rs := [1]) (by kernel_rfl) (by simp) ?_
    refine AllReadyH.cons rfl (fun K hK => ?_) AllReadyH.nil
    rw [if_pos (by rfl)]
    go_simp
    refine (HU.out _ (HW0.out.trans h1.drew)).mono ?_
    rintro e w2 ⟨rfl, o2⟩
    have h2 : Old W w2 := h1.drew.trans o2
    refine hK.out _ _ (HT.out _ h2) (fun hHeld => ?_)
    clear hK K
    refine wpAnyH_take (i := 2) (v := ?_) rfl (by kernel_rfl) (by kernel_rfl) (by kernel_rfl) (fun _ _ _ h => h) (Or.inl ⟨by rfl, ?_⟩) (by assumption) ?_
    rotate_left
    · intro wz hSw
      try dsimp only at hSw
      go_simp
      try rfl
    simp only [Act.put, List.getElem_toArray, List.getElem_cons_zero, List.getElem_cons_succ, List.setIfInBounds_toArray, List.set_cons_zero, List.set_cons_succ]
    refine wpAnyH_take (i := 3) (v := ?_) rfl (by kernel_rfl) (by kernel_rfl) (by kernel_rfl) (fun _ _ _ h => h) (Or.inl ⟨by rfl, ?_⟩) (by assumption) ?_
    rotate_left
    · intro wz hSw
      try dsimp only at hSw
      go_simp
      try rfl
    simp only [Act.put, List.getElem_toArray, List.getElem_cons_zero, List.getElem_cons_succ, List.setIfInBounds_toArray, List.set_cons_zero, List.set_cons_succ]
    refine wpAnyH_take (i := 4) rfl (by kernel_rfl) (by kernel_rfl) (by kernel_rfl) (fun _ _ _ h => h) (Or.inr ⟨by rfl, rfl⟩) (by assumption) ?_
    simp only [Act.put, List.getElem_toArray, List.getElem_cons_zero, List.getElem_cons_succ, List.setIfInBounds_toArray, List.set_cons_zero, List.set_cons_succ]
    refine wpAnyH_take (i := 5) rfl (by kernel_rfl) (by kernel_rfl) (by kernel_rfl) (fun _ _ _ h => h) (Or.inr ⟨by rfl, rfl⟩) (by assumption) ?_
    simp only [Act.put, List.getElem_toArray, List.getElem_cons_zero, List.getElem_cons_succ, List.setIfInBounds_toArray, List.set_cons_zero, List.set_cons_succ]
    refine wpAnyH_take (i := 6) rfl (by kernel_rfl) (by kernel_rfl) (by kernel_rfl) (fun _ _ _ h => h) (Or.inr ⟨by rfl, rfl⟩) (by assumption) ?_
    simp only [Act.put, List.getElem_toArray, List.getElem_cons_zero, List.getElem_cons_succ, List.setIfInBounds_toArray, List.set_cons_zero, List.set_cons_succ]
    refine wpAnyH_take (i := 7) rfl (by kernel_rfl) (by kernel_rfl) (by kernel_rfl) (fun _ _ _ h => h) (Or.inr ⟨by rfl, rfl⟩) (by assumption) ?_
    simp only [Act.put, List.getElem_toArray, List.getElem_cons_zero, List.getElem_cons_succ, List.setIfInBounds_toArray, List.set_cons_zero, List.set_cons_succ]
    refine wpAnyH_take (i := 8) rfl (by kernel_rfl) (by kernel_rfl) (by kernel_rfl) (fun _ _ _ h => h) (Or.inr ⟨by rfl, rfl⟩) (by assumption) ?_
    simp only [Act.put, List.getElem_toArray, List.getElem_cons_zero, List.getElem_cons_succ, List.setIfInBounds_toArray, List.set_cons_zero, List.set_cons_succ]
    refine wpAnyH_take (i := 9) rfl (by kernel_rfl) (by kernel_rfl) (by kernel_rfl) (fun _ _ _ h => h) (Or.inr ⟨by rfl, rfl⟩) (by assumption) ?_
    simp only [Act.put, List.getElem_toArray, List.getElem_cons_zero, List.getElem_cons_succ, List.setIfInBounds_toArray, List.set_cons_zero, List.set_cons_succ]
    refine wpAnyH_take (i := 10) rfl (by kernel_rfl) (by kernel_rfl) (by kernel_rfl) (fun _ _ _ h => h) (Or.inr ⟨by rfl, rfl⟩) (by assumption) ?_
    simp only [Act.put, List.getElem_toArray, List.getElem_cons_zero, List.getElem_cons_succ, List.setIfInBounds_toArray, List.set_cons_zero, List.set_cons_succ]
    refine wpAnyH_take (i := 11) rfl (by kernel_rfl) (by kernel_rfl) (by kernel_rfl) (fun _ _ _ h => h) (Or.inr ⟨by rfl, rfl⟩) (by assumption) ?_
    simp only [Act.put, List.getElem_toArray, List.getElem_cons_zero, List.getElem_cons_succ, List.setIfInBounds_toArray, List.set_cons_zero, List.set_cons_succ]
    refine wpAnyH_take (i := 12) rfl (by kernel_rfl) (by kernel_rfl) (by kernel_rfl) (fun _ _ _ h => h) (Or.inr ⟨by rfl, rfl⟩) (by assumption) ?_
    simp only [Act.put, List.getElem_toArray, List.getElem_cons_zero, List.getElem_cons_succ, List.setIfInBounds_toArray, List.set_cons_zero, List.set_cons_succ]
    refine wpAnyH_take (i := 13) rfl (by kernel_rfl) (by kernel_rfl) (by kernel_rfl) (fun _ _ _ h => h) (Or.inr ⟨by rfl, rfl⟩) (by assumption) ?_
    simp only [Act.put, List.getElem_toArray, List.getElem_cons_zero, List.getElem_cons_succ, List.setIfInBounds_toArray, List.set_cons_zero, List.set_cons_succ]
    refine wpAnyH_take (i := 14) rfl (by kernel_rfl) (by kernel_rfl) (by kernel_rfl) (fun _ _ _ h => h) (Or.inr ⟨by rfl, rfl⟩) (by assumption) ?_
    simp only [Act.put, List.getElem_toArray, List.getElem_cons_zero, List.getElem_cons_succ, List.setIfInBounds_toArray, List.set_cons_zero, List.set_cons_succ]
    refine wpAnyH_take (i := 15) rfl (by kernel_rfl) (by kernel_rfl) (by kernel_rfl) (fun _ _ _ h => h) (Or.inr ⟨by rfl, rfl⟩) (by assumption) ?_
    simp only [Act.put, List.getElem_toArray, List.getElem_cons_zero, List.getElem_cons_succ, List.setIfInBounds_toArray, List.set_cons_zero, List.set_cons_succ]
    refine wpAnyH_take (i := 16) rfl (by kernel_rfl) (by kernel_rfl) (by kernel_rfl) (fun _ _ _ h => h) (Or.inr ⟨by rfl, rfl⟩) (by assumption) ?_
    simp only [Act.put, List.getElem_toArray, List.getElem_cons_zero, List.getElem_cons_succ, List.setIfInBounds_toArray, List.set_cons_zero, List.set_cons_succ]
    refine wpAnyH_take (i := 17) (v := ?_) rfl (by kernel_rfl) (by kernel_rfl) (by kernel_rfl) (fun _ _ _ h => h) (Or.inl ⟨by rfl, ?_⟩) (by assumption) ?_
    rotate_left
    · intro wz hSw
      try dsimp only at hSw
      go_simp
      try rfl
    simp only [Act.put, List.getElem_toArray, List.getElem_cons_zero, List.getElem_cons_succ, List.setIfInBounds_toArray, List.set_cons_zero, List.set_cons_succ]
    refine wpAnyH_done (by kernel_rfl) ?_ _
    go_wp2_with fail
    go_ret
    exact ⟨rfl, HW0.out.trans h2⟩
  have hg' := Bool.and_eq_true_iff.1 hg
  have hR := right_righ ha hg'.2
  rw [hg] at HU
  clear hg hg' ha
  have hq5 := hR.q0
  have r0 : ¬ Q = 0 := by omega
  have r1 : (Q == 0) = false := by simp; omega
  have u0 : Int.tmod e0 Q = e0 % Q := Int.tmod_eq_emod_of_nonneg he0.1
  have u1 : Int.tmod e1 Q = e1 % Q := Int.tmod_eq_emod_of_nonneg he1.1
  go_region_held3 (fun w' => w'.cell? ⟨w.heap.size, 0, none⟩ = some (.int .u64 P) ∧ w'.cell? ⟨w.heap.size, 1, none⟩ = some (.int .u64 Q) ∧ w'.cell? ⟨w.heap.size, 2, none⟩ = some (.int .u64 G) ∧ w'.cell? ⟨w.heap.size, 3, none⟩ = some (.int .u64 H) ∧ w'.cell? ⟨w.heap.size, 4, none⟩ = some (.slice a n cap) ∧ w'.cell? ⟨w.heap.size + 1, 0, none⟩ = some (.int .u64 e0) ∧ w'.cell? ⟨w.heap.size + 1, 1, none⟩ = some (.slice b1 n1 c1) ∧ w'.cell? ⟨w.heap.size + 1, 2, none⟩ = some (.slice b2 n2 c2) ∧ w'.cell? ⟨w.heap.size + 1, 3, none⟩ = some (.int .u64 e1) ∧ w'.cell? ⟨w.heap.size + 1, 4, none⟩ = some (.slice k1 m1 p1) ∧ w'.cell? ⟨w.heap.size + 1, 5, none⟩ = some (.slice k2 m2 p2)) (first | exact HT.out _ h2 | exact HT.out _ h1.drew) ((go_at_call 6; refine (HU.out _ (HW0.out.trans h1.drew)).mono ?_; rintro e w2 ⟨rfl, o2⟩; have h2 : Old W w2 := h1.drew.trans o2))
  clear d0 d1 d2 d3 d4 s0 s1 s2 s3 s4 s5
  obtain ⟨d0, d1, d2, d3, d4, s0, s1, s2, s3, s4, s5⟩ := HT.out _ h2
  by_cases heq : e0 % Q = e1 % Q
  · have y1 : (e0 % Q == e1 % Q) = true := by simp [heq]
    clear h4 hX hY hLs hLh hLa hLe hB
    go_wp2_with fail
    go_ret
    exact ⟨rfl, HW0.out.trans h2⟩
  have y1 : (e0 % Q == e1 % Q) = false := by simp [heq]
  go_upto_region 6 with (go_at_call 7; refine (HM.out _ (HW0.out.trans h2)).mono ?_; rintro e w3 ⟨bt, nt, ct, o, rfl, o3, hmk⟩)
  have h3 : Old W w3 := h2.trans o3
  have hcl0 := c_last (Old.refl w3) (.slice bt nt ct) (.slice bb nb cb) 34
  clear d0 d1 d2 d3 d4 s0 s1 s2 s3 s4 s5
  generalize w3.alloc (.cells #[.slice bt nt ct, .slice bb nb cb] 34) = w4 at *
  generalize hbc : w3.heap.size = bc at *
  have h5 : Old W w4 := h3.trans hcl0.1
  obtain ⟨d0, d1, d2, d3, d4, s0, s1, s2, s3, s4, s5⟩ := HT.out _ h5
  cases o with
  | false =>
    clear h4 hX hY hLs hLh hLa hLe hB hmk hR
    go_wp2_with fail
    go_ret
    exact ⟨rfl, HW0.out.trans h5⟩
  | true =>
    obtain ⟨hfw, hft, hnt, hcl⟩ := hmk rfl
    subst hnt
    by_cases hn : n1 = n2
    · subst hn
      have hfI := fewC_iff.1 hfw
      have hfew : FewI nt nt L := ⟨hfI.1, hfI.2.1, hfI.2.2.1⟩
      have m80 : n1 ≤ 80 := hfI.2.2.2 0 (by omega)
      have hIs := sizeN_claim (fitsB_iff.1 hft).1
      have hsz := (fitsB_iff.1 hft).2
      rw [← hsz] at hIs hcl
      have hI2 := hIs.made hR X
      have hC4 : ClaimIn w4 bt nt ct (fun j => imI P Q (B j) X n1) bb nt cb BA L C B := hcl.old hcl0.1
      have e9 : holdsL P Q nt (fun j => imI P Q (B j) X n1) nt L B n1 (fun k => X k % Q) = true := hI2.holds fun j _ => im_mod n1 fun k _ => mod_self _ _
      have H1 : Hid (∀ wx, Old w4 wx → Calls Try.prog 8 #[gv P Q G H a n cap, .slice b1 n1 c1, .slice b2 n1 c2, .int .u64 e0] wx (Gives wx true n1 (fun k => ansI Q e0 (X k) (Y k)))) := fun wx ho => by
        have := hLa P Q G H a n cap b1 n1 c1 X b2 n1 c2 Y e0 wx h4 hR he0 m80 m80 hc1 hc2 (hX.old ((HW0.out.trans h5).trans ho)) (hY.old ((HW0.out.trans h5).trans ho))
        rwa [decide_eq_true rfl] at this
      have H2 : Hid (∀ wx, Old w4 wx → Calls Try.prog 8 #[gv P Q G H a n cap, .slice b1 n1 c1, .slice b2 n1 c2, .int .u64 e1] wx (Gives wx true n1 (fun k => ansI Q e1 (X k) (Y k)))) := fun wx ho => by
        have := hLa P Q G H a n cap b1 n1 c1 X b2 n1 c2 Y e1 wx h4 hR he1 m80 m80 hc1 hc2 (hX.old ((HW0.out.trans h5).trans ho)) (hY.old ((HW0.out.trans h5).trans ho))
        rwa [decide_eq_true rfl] at this
      have H3 : Hid (∀ bx cx bz cz wx, Old w4 wx → n1 ≤ cx → n1 ≤ cz → FacsIn wx bx n1 (fun k => ansI Q e0 (X k) (Y k)) → FacsIn wx bz n1 (fun k => ansI Q e1 (X k) (Y k)) → Calls Try.prog 9 #[gv P Q G H a n cap, .int .u64 e0, .slice bx n1 cx, .int .u64 e1, .slice bz n1 cz] wx (Gives wx true n1 (fun k => X k % Q))) := fun bx cx bz cz wx ho q1 q2 f1 f2 => by
        have := hLe P Q G H a n cap bx n1 cx _ bz n1 cz _ e0 e1 wx h4 hR he0 he1 m80 m80 q1 q2 f1 f2
        rw [(hR.inv_sub heq).1, decide_eq_true rfl, show (fun k => exI Q (invI (subI e0 e1 Q) Q) (ansI Q e0 (X k) (Y k)) (ansI Q e1 (X k) (Y k))) = fun k => X k % Q from funext fun k => hR.ex_ans heq] at this
        exact this
      have H4 : Hid (∀ bz cz wx, Old w4 wx → n1 ≤ cz → FacsIn wx bz n1 (fun k => X k % Q) → Calls Try.prog 10 #[gv P Q G H a n cap, cv bt nt ct bb nt cb, .slice bz n1 cz] wx fun e w' => e = .returned (.bool true) ∧ Old wx w') := fun bz cz wx ho q1 f1 => by
        have := hLh P Q G H a n cap bt nt ct (fun j => imI P Q (B j) X n1) bb nt cb BA L C B bz n1 cz (fun k => X k % Q) wx h4 hR hfew m80 q1 (hC4.old ho) f1
        rwa [e9] at this
      have F1 : Hid (∀ j, U64 ((fun k => ansI Q e0 (X k) (Y k)) j)) := fun j => by have := addI_bd (Y j) (mulI e0 (X j) Q) Q; show U64 (addI _ _ _); unfold U64; omega
      have F2 : Hid (∀ j, U64 ((fun k => ansI Q e1 (X k) (Y k)) j)) := fun j => by have := addI_bd (Y j) (mulI e1 (X j) Q) Q; show U64 (addI _ _ _); unfold U64; omega
      have F3 : Hid (∀ j, U64 (X j % Q)) := fun j => by have := mod_bd (X j) hR.okq; have := hR.q1; unfold U64; omega
      have HC : Hid (∀ w', Old w4 w' → w'.cell? ⟨bc, 0, none⟩ = some (.slice bt nt ct) ∧ w'.cell? ⟨bc, 1, none⟩ = some (.slice bb nt cb)) := fun w' ho => ⟨ho.cellOf hcl0.2.1, ho.cellOf hcl0.2.2⟩
      have HT4 : Hid (∀ w', Old w4 w' → w'.cell? ⟨w.heap.size, 0, none⟩ = some (.int .u64 P) ∧ w'.cell? ⟨w.heap.size, 1, none⟩ = some (.int .u64 Q) ∧ w'.cell? ⟨w.heap.size, 2, none⟩ = some (.int .u64 G) ∧ w'.cell? ⟨w.heap.size, 3, none⟩ = some (.int .u64 H) ∧ w'.cell? ⟨w.heap.size, 4, none⟩ = some (.slice a n cap) ∧ w'.cell? ⟨w.heap.size + 1, 0, none⟩ = some (.int .u64 e0) ∧ w'.cell? ⟨w.heap.size + 1, 1, none⟩ = some (.slice b1 n1 c1) ∧ w'.cell? ⟨w.heap.size + 1, 2, none⟩ = some (.slice b2 n1 c2) ∧ w'.cell? ⟨w.heap.size + 1, 3, none⟩ = some (.int .u64 e1) ∧ w'.cell? ⟨w.heap.size + 1, 4, none⟩ = some (.slice k1 m1 p1) ∧ w'.cell? ⟨w.heap.size + 1, 5, none⟩ = some (.slice k2 m2 p2)) := fun w' ho => HT.out _ (h5.trans ho)
      have HOw : Hid (∀ w', Old w4 w' → Old w w') := fun w' ho => (HW0.out.trans h5).trans ho
      have HX : Hid (FacsIn w b1 n1 X) := hX
      have hn0 : 0 < n1 := hI2.n1
      clear e9 hC4 hI2 hIs hcl hsz hfw hft hfI hfew hmk h4 hR hLs hLh hLa hLe hX hY hB HM HU HA HZ HF HT hcl0 hnb hcm
      generalize (fun k => ansI Q e0 (X k) (Y k)) = A1 at *
      generalize (fun k => ansI Q e1 (X k) (Y k)) = A2 at *
      obtain ⟨A3, hA3⟩ : ∃ A3 : Nat → Int, A3 = fun k => X k % Q := ⟨_, rfl⟩
      have HV : Hid (∀ i, A3 i = X i % Q) := fun i => by rw [hA3]
      rw [← hA3] at H3 H4
      have F3' : Hid (∀ j, U64 (A3 j)) := fun j => by rw [hA3]; exact F3.out j
      clear hA3 F3
      go_upto_region 9 with (go_at_call 8; refine (H1.out _ (Old.refl _)).mono ?_; rintro e w6 ⟨x6, rfl, hN6, h6⟩)
      simp only [if_true] at hN6
      obtain ⟨b6, c6, rfl, q6, _, hf6⟩ := hN6.facs2 (fun j _ => F1.out j)
      clear d0 d1 d2 d3 d4 s0 s1 s2 s3 s4 s5
      obtain ⟨d0, d1, d2, d3, d4, s0, s1, s2, s3, s4, s5⟩ := HT4.out _ h6
      go_upto_region 10 with (go_at_call 8; refine (H2.out _ h6).mono ?_; rintro e w7 ⟨x7, rfl, hN7, o7⟩)
      simp only [if_true] at hN7
      obtain ⟨b7, c7, rfl, q7, _, hf7⟩ := hN7.facs2 (fun j _ => F2.out j)
      have h7 : Old w4 w7 := h6.trans o7
      have H3' : Hid (Calls Try.prog 9 #[gv P Q G H a n cap, .int .u64 e0, .slice b6 n1 c6, .int .u64 e1, .slice b7 n1 c7] w7 (Gives w7 true n1 A3)) := H3.out b6 c6 b7 c7 w7 h7 q6 q7 (hf6.old o7) hf7
      clear d0 d1 d2 d3 d4 s0 s1 s2 s3 s4 s5
      obtain ⟨d0, d1, d2, d3, d4, s0, s1, s2, s3, s4, s5⟩ := HT4.out _ h7
      go_upto_region 11 with (go_at_call 9; refine H3'.out.mono ?_; rintro e w8 ⟨x8, rfl, hN8, o8⟩)
      simp only [if_true] at hN8
      obtain ⟨b8, c8, rfl, q8, _, hf8⟩ := hN8.facs2 (fun j _ => F3'.out j)
      have h8 : Old w4 w8 := h7.trans o8
      have HF8 : Hid (FacsIn w8 b8 n1 A3) := hf8
      have HO8 : Hid (Old w4 w8) := h8
      clear d0 d1 d2 d3 d4 s0 s1 s2 s3 s4 s5 hN6 hN7 hN8 hf6 hf7 hf8 o7 o8 h6 h7 h8 H1 H2 H3 H3'
      obtain ⟨d0, d1, d2, d3, d4, s0, s1, s2, s3, s4, s5⟩ := HT4.out _ HO8.out
      go_wp2_with fail
      clear d0 d1 d2 d3 d4 s0 s1 s2 s3 s4 s5
      go_loopw [112] (fun iv wx => ∃ i : Nat, iv = .int .i64 (i : Int) ∧ i ≤ n1 ∧ Hid (Old w8 wx)) (fun iv _ => n1 - (intOf iv).toNat)
      case atStart => exact ⟨0, rfl, Nat.zero_le _, Old.refl _⟩
      case round =>
        obtain ⟨i, rfl, hi, HO⟩ := hrel
        by_cases hlt : i < n1
        · rcases HF8.out.old HO.out with h0 | ⟨wb, wo, hq8, _, hr8⟩
          · omega
          rcases HX.out.old (HOw.out _ (HO8.out.trans HO.out)) with h0 | ⟨xb, xo, hqx, _, hrx⟩
          · omega
          obtain ⟨d0, d1, d2, d3, d4, s0, s1, s2, s3, s4, s5⟩ := HT4.out _ (HO8.out.trans HO.out)
          have ci := (hr8 i hlt).1
          have cx := (hrx i hlt).1
          have hx0 := (hrx i hlt).2
          rw [HV.out i] at ci
          clear hr8 hrx
          subst hq8 hqx
          have u2 : Int.tmod (X i) Q = X i % Q := Int.tmod_eq_emod_of_nonneg hx0.1
          have v0 := Int.emod_nonneg (X i) r0
          have v1 := Int.emod_lt_of_pos (X i) (show 0 < Q by omega)
          go_upto_region 16 with fail
          go_quiet (fail)
          go_wp2_with fail
          go_roundw
          case rel => exact ⟨i + 1, idx_next i, by omega, by first | exact HO.out | exact HO.out.drew | exact HO.out.drewN _⟩
          case measure => simp [intOf]; omega
        · have he : n1 = i := by omega
          subst he
          obtain ⟨d0, d1, d2, d3, d4, s0, s1, s2, s3, s4, s5⟩ := HT4.out _ (HO8.out.trans HO.out)
          obtain ⟨z0, z1⟩ := HC.out _ (HO8.out.trans HO.out)
          have H4' : Hid (Calls Try.prog 10 #[gv P Q G H a n cap, cv bt nt ct bb nt cb, .slice b8 n1 c8] wr fun e w' => e = .returned (.bool true) ∧ Old wr w') := H4.out b8 c8 wr (HO8.out.trans HO.out) q8 (HF8.out.old HO.out)
          go_wp2_with (go_at_call 10; refine H4'.out.mono ?_; rintro e w9 ⟨rfl, o9⟩)
          go_ret
          exact ⟨rfl, HOw.out _ ((HO8.out.trans HO.out).trans o9)⟩
    · have j2 : ¬ (n2 : Int) = (n1 : Int) := by omega
      have j4 : ((n2 : Int) != (n1 : Int)) = true := by simp; omega
      have j5 : ((n2 : Int) == (n1 : Int)) = false := by simp; omega
      clear h4 hX hY hLs hLh hLa hLe hB hmk hR hcl hfw hft
      go_wp2_with fail
      go_ret
      exact ⟨rfl, HW0.out.trans h5⟩

end Go.Proofs.Ytmmicbdjafolpaf
