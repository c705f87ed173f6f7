/-
  What the proof needs, part 21.
-/
import Derived.Test.YtlnmjbbpenhdbaaGreatKp20
import Derived.Deep.Strs
import Derived.OpenShut
namespace Go.Proofs.YtlnmjbbpenhdbaaGreat
open Tryz
open List renaming set_cons_zero → zs0, set_cons_succ → zs1, drop_succ_cons → zd1, drop_zero → zd0, drop_nil → zdn
open Tryz renaming underlying25 → U25, underlying29 → U29, underlying31 → U31, underlying41 → U41, underlying50 → U50, underlying57 → U57
set_option linter.unusedSimpArgs false
set_option linter.unusedVariables false
set_option maxRecDepth 100000
set_option maxHeartbeats 32000000
section
open Go Go.RowKit
theorem own_ne8 {w : World} {base b n : Nat} {v : Value} {F : NI} {cs : Array Value} {ty : TypeId} (ht : ty ≠ 22) (h : Nums w base v n F) (hb : w.heap[b]? = some (.cells cs ty (0, 0))) : v.ownBlock ≠ some b := by
 rcases h.2 with ⟨rfl, _⟩ | ⟨g, cap, cur, rfl, _, hg, _⟩
 ·simp [Value.ownBlock]
 ·intro he
  have : g = b := by simpa [Value.ownBlock] using he
  subst this
  rw [hb] at hg
  cases hg
  exact ht rfl
theorem rpro_any (P Q G H : Int) (a : OA) (m cap : Nat) (label : List Int) (y : Int) (bi : OA) (ci : Nat) (C : NN) (bo : OA) (co : Nat) (O : NI) (bρ : OA) (cρ : Nat) (Rh : NN) (bR : OA) (cR : Nat) (R : NI) (bS : OA) (cS : Nat) (S : NI) (bT : OA) (cT : Nat) (T : NI) (bD : OA) (nD cD : Nat) (D : NI) (n : Nat) (Xc Yc Zc : Int) (A B Pp : NI) (M : NN) (E K Zf : NI) (w : World) (h1n : 0 < n) (hn : n <= 8) (h4 : Four P Q G H) (hr : Righ P Q G) (hy : U64 y) (hlb : Bts label) (hll : label.length <= 1000) (hcT : n <= cT /\ cT <= 9223372036854775807) (hcD : nD <= cD)
  (hC : BoxsIn w bi n C) (hO : IntsIn w bo n O) (hρ : RhoIn w bρ n Rh) (hR : FacsIn w bR n R) (hS : FacsIn w bS n S) (hT : FacsIn w bT n T) (hD : FacsIn w bD nD D) (hmx : mixB P Q y n C n O n = true) (hdr : drwB n n n n nD = true) (hor : ordR n O = true)
  (hM : M = mixC P Q G y C O Rh) (hXc : Xc = chX label Q (knwS P Q G H y n C n M) n A) (hYc : Yc = chYZ 121 label Q (knwS P Q G H y n C n M) n A B) (hZc : Zc = chYZ 122 label Q (knwS P Q G H y n C n M) n A B)
  (hA : A = fun i => comI P Q G H (O i + 1) (R i)) (hB : B = fun i => comI P Q G H (powI Xc (O i + 1) Q) (S i)) (hP : Pp = thiI P Q G H Xc Yc Zc A B O T)
  (hE : E = exF Q Xc Yc Zc n (fun i => (O i).toNat) R S T Rh) (hK : K = fun j => imI P Q ((bas8 n Pp G H y (fun j w => M j (2 * w)) (fun j w => M j (2 * w + 1))) j) D (sizeN P Q (4 * n + 6) (tgtT P Q G Xc Yc Zc n A B Pp (fun j w => C j (2 * w)) (fun j w => C j (2 * w + 1))) (4 * n + 6) (fun _ => 7 * n + 3) (bas8 n Pp G H y (fun j w => M j (2 * w)) (fun j w => M j (2 * w + 1))))) (hZ : Zf = fun k => ansI Q (chI label P Q G H (4 * n + 6) (tgtT P Q G Xc Yc Zc n A B Pp (fun j w => C j (2 * w)) (fun j w => C j (2 * w + 1))) (4 * n + 6) (fun _ => 7 * n + 3) (bas8 n Pp G H y (fun j w => M j (2 * w)) (fun j w => M j (2 * w + 1))) (4 * n + 6) K) (E k) (D k))
  (hck : clmB P Q G y n C n M n A n B n Pp Yc Zc = true) (hpv : provB (sizeN P Q (4 * n + 6) (tgtT P Q G Xc Yc Zc n A B Pp (fun j w => C j (2 * w)) (fun j w => C j (2 * w + 1))) (4 * n + 6) (fun _ => 7 * n + 3) (bas8 n Pp G H y (fun j w => M j (2 * w)) (fun j w => M j (2 * w + 1)))) (7 * n + 3) nD = true) :
  Calls prog 32 #[gv P Q G H a m cap, .string (strOfNums label), .int .u64 y, .slice bi n ci, .slice bo n co, dv bρ n cρ bR n cR bS n cS bT n cT bD nD cD] w (GivS w true n M A B Pp (4 * n + 6) K (7 * n + 3) Zf) := by
 have uX : U64 Xc := by rw [hXc]; exact zas _ _ _ _
 have uY : U64 Yc := by rw [hYc]; exact zas _ _ _ _
 have uZ : U64 Zc := by rw [hZc]; exact zas _ _ _ _
 have HMx : Hid (∀ wx, Old w wx -> Calls prog 16 #[gv P Q G H a m cap, .int .u64 y, .slice bi n ci, .slice bo n co, .slice bρ n cρ] wx fun e w' => Old wx w' /\ ∃ b c, e = .returned (.tuple #[.slice b n c, .bool true]) /\ BoxF w' b n M) := fun wx ho => (rmix8_any P Q G H a m cap y bi n ci C bo n co O bρ n cρ Rh wx h4 hr hy (by omega) (by omega) (by omega) (hC.old ho) (hO.old ho) (hρ.old ho)).mono fun e w' h => by
  rw [hmx, <- hM] at h
  exact h
 have HFi : Hid (∀ wx, Old w wx -> Calls prog 21 #[gv P Q G H a m cap, .slice bo n co, .slice bR n cR] wx fun e w' => Old wx w' /\ ∃ b c, e = .returned (.slice b n c) /\ Nums w' wx.heap.size (.slice b n c) n A) := fun wx ho => (rfirst8_any P Q G H a m cap bo n co O bR cR R wx h4 hor (hO.old ho) (hR.old ho)).mono fun e w' ⟨k, v, he, hN⟩ => by
  obtain ⟨b, c, rfl, q1, q2, hf⟩ := hN.facs2 (fun i _ => zaQ _ _ _ _ _ _)
  rw [hA]
  exact ⟨k, b, c, he, hN⟩
 have HSe : Hid (∀ wx, Old w wx -> Calls prog 23 #[gv P Q G H a m cap, .slice bo n co, .int .u64 Xc, .slice bS n cS] wx fun e w' => Old wx w' /\ ∃ b c, e = .returned (.slice b n c) /\ Nums w' wx.heap.size (.slice b n c) n B) := fun wx ho => (rsecond8_any P Q G H a m cap bo n co O Xc bS cS S wx h4 uX hor (hO.old ho) (hS.old ho)).mono fun e w' ⟨k, v, he, hN⟩ => by
  obtain ⟨b, c, rfl, q1, q2, hf⟩ := hN.facs2 (fun i _ => zaQ _ _ _ _ _ _)
  rw [hB]
  exact ⟨k, b, c, he, hN⟩
 have HTh : Hid (∀ wx ba ca bb cb bp np cp, Old w wx -> FacsIn wx ba n A -> FacsIn wx bb n B -> Calls prog 25 #[gv P Q G H a m cap, .slice bo n co, tk ba n ca Xc bb n cb Yc Zc bp np cp, dv bρ n cρ bR n cR bS n cS bT n cT bD nD cD] wx fun e w' => Old wx w' /\ ∃ b c, e = .returned (.slice b n c) /\ Nums w' wx.heap.size (.slice b n c) n Pp) := fun wx ba ca bb cb bp np cp ho ha hb => (rthird8_any P Q G H a m cap bo n co O ba ca A Xc bb cb B Yc Zc bp np cp bρ n cρ bR n cR bS n cS bT cT T bD nD cD wx h4 uX uY uZ hor (hO.old ho) ha hb (hT.old ho)).mono fun e w' ⟨k, v, he, hN⟩ => by
  obtain ⟨b, c, rfl, q1, q2, hf⟩ := hN.facs2 (fun i _ => zb5 _ _ _ _ _ _ _ _ _ _ _ i)
  rw [hP]
  exact ⟨k, b, c, he, hN⟩
 have HAu : Hid (∀ i, U64 (A i)) := fun i => by rw [hA]; exact zaQ _ _ _ _ _ _
 have HBu : Hid (∀ i, U64 (B i)) := fun i => by rw [hB]; exact zaQ _ _ _ _ _ _
 have HPu : Hid (∀ i, U64 (Pp i)) := fun i => by rw [hP]; exact zb5 _ _ _ _ _ _ _ _ _ _ _ i
 have hMu : ∀ j k, j < n -> k < 6 -> U64 (M j k) := fun j k hj hk => by rw [hM]; exact zdZ _ _ _ _ _ _ _ j k
 have hck2 := hck
 unfold clmB at hck2
 rw [Bool.and_eq_true_iff, Bool.and_eq_true_iff, decide_eq_true_eq] at hck2
 have HCl : Hid (∀ wx bm cm ba ca bb cb bp cp, Old w wx -> BoxsIn wx bm n M -> FacsIn wx ba n A -> FacsIn wx bb n B -> FacsIn wx bp n Pp -> Calls prog 29 #[gv P Q G H a m cap, .int .u64 y, .slice bi n ci, .slice bm n cm, tk ba n ca Xc bb n cb Yc Zc bp n cp] wx (GivD wx true (4 * n + 6) (tgtT P Q G Xc Yc Zc n A B Pp (fun j w => C j (2 * w)) (fun j w => C j (2 * w + 1))) (fun _ => 7 * n + 3) (bas8 n Pp G H y (fun j w => M j (2 * w)) (fun j w => M j (2 * w + 1))))) := fun wx bm cm ba ca bb cb bp cp ho hb ha hbb hp => rclm8_yes P Q G H a m cap y bi ci C bm cm M ba ca A Xc bb cb B Yc Zc bp cp Pp n wx h1n hn h4 hy uX uY uZ (hC.old ho) hb ha hbb hp hck2.2.1 hck2.2.2
 have HTu : Hid (∀ j, U64 ((tgtT P Q G Xc Yc Zc n A B Pp (fun j w => C j (2 * w)) (fun j w => C j (2 * w + 1))) j)) := u64_tgt (fun i _ => HAu.out i) (fun i _ => HBu.out i) (fun i _ => HPu.out i)
 have HRu : Hid (∀ j, j < 4 * n + 6 -> ∀ k, U64 ((bas8 n Pp G H y (fun j w => M j (2 * w)) (fun j w => M j (2 * w + 1))) j k)) := u64_bas ⟨h4.g0, h4.g1⟩ ⟨h4.h0, h4.h1⟩ hy (fun i _ => HPu.out i) (fun i k hi hk => hMu i k hi hk)
 clear hck2
 have HEx : Hid (∀ wx ba ca bb cb bp np cp, Old w wx -> Calls prog 27 #[gv P Q G H a m cap, .slice bo n co, tk ba n ca Xc bb n cb Yc Zc bp np cp, dv bρ n cρ bR n cR bS n cS bT n cT bD nD cD] wx fun e w' => Old wx w' /\ ∃ v, e = .returned v /\ Nums w' wx.heap.size v (7 * n + 3) E) := fun wx ba ca bb cb bp np cp ho => (rexp8_yes P Q G H a m cap bo co O ba n ca Xc bb n cb Yc Zc bp np cp bρ cρ Rh bR cR R bS cS S bT cT T bD nD cD n wx (by have := hr.q1'; omega) ⟨h4.q0, h4.q1⟩ uX uY uZ hor (hO.old ho) (hρ.old ho) (hR.old ho) (hS.old ho) (hT.old ho)).mono fun e w' hg => by
  rw [hE]
  exact hg.list (by omega)
 have HEu : Hid (∀ i, i < 7 * n + 3 -> U64 (E i)) := fun i _ => by rw [hE]; exact u64_exF8 hr.q1' h4.q1 i
 have HPv : Hid (∀ wx bt ct b2 c2 BA Cc be ce, Old w wx -> ClaimIn wx bt (4 * n + 6) ct (tgtT P Q G Xc Yc Zc n A B Pp (fun j w => C j (2 * w)) (fun j w => C j (2 * w + 1))) b2 (4 * n + 6) c2 BA (fun _ => 7 * n + 3) Cc (bas8 n Pp G H y (fun j w => M j (2 * w)) (fun j w => M j (2 * w + 1))) -> FacsIn wx be (7 * n + 3) E -> 7 * n + 3 <= ce -> Calls prog 92 #[gv P Q G H a m cap, .string (strOfNums label), cv bt (4 * n + 6) ct b2 (4 * n + 6) c2, .slice be (7 * n + 3) ce, .slice bD nD cD] wx (GivesP wx true (4 * n + 6) K (7 * n + 3) Zf)) := fun wx bt ct b2 c2 BA Cc be ce ho hc he hce => by
  have h := rprove_any label P Q G H a m cap bt (4 * n + 6) ct (tgtT P Q G Xc Yc Zc n A B Pp (fun j w => C j (2 * w)) (fun j w => C j (2 * w + 1))) b2 (4 * n + 6) c2 BA (fun _ => 7 * n + 3) Cc (bas8 n Pp G H y (fun j w => M j (2 * w)) (fun j w => M j (2 * w + 1))) be (7 * n + 3) ce E bD nD cD D K hK wx h4 hlb hll (by omega) (by omega) (fun j _ => by show 7 * n + 3 <= 80; omega) (by omega) hc he (hD.old ho)
  rw [hpv, <- hZ] at h
  exact h
 obtain ⟨Tg, hTg⟩ : ∃ Tg, Tg = (tgtT P Q G Xc Yc Zc n A B Pp (fun j w => C j (2 * w)) (fun j w => C j (2 * w + 1))) := ⟨_, rfl⟩
 obtain ⟨Bg, hBg⟩ : ∃ Bg, Bg = (bas8 n Pp G H y (fun j w => M j (2 * w)) (fun j w => M j (2 * w + 1))) := ⟨_, rfl⟩
 rw [<- hTg, <- hBg] at HCl HPv
 rw [<- hTg] at HTu
 rw [<- hBg] at HRu
 clear hTg hBg hMu hck hpv hK hZ hE
 have HCh : Hid (∀ wx ba ca bb nb cb bm cm, nb <= 80 -> Old w wx -> BoxsIn wx bm n M -> FacsIn wx ba n A -> FacsIn wx bb nb B -> Calls prog 91 #[gv P Q G H a m cap, .string (strOfNums label), .int .u64 y, .slice bi n ci, .slice bm n cm, .agg #[.slice ba n ca, .slice bb nb cb, .slice none 0 0, .slice none 0 0, .slice none 0 0]] wx (Ret wx (.tuple #[.int .u64 Xc, .int .u64 (zaj label (namS 121 (morS (comS P Q G H y n C n M n A) nb B)) 6 Q), .int .u64 (zaj label (namS 122 (morS (comS P Q G H y n C n M n A) nb B)) 6 Q)]))) := fun wx ba ca bb nb cb bm cm h80 ho hb ha hbb => by
  rw [hXc, <- chx8_eq]
  exact rchal8_any P Q G H a m cap label y bi n ci C bm n cm M ba n ca A bb nb cb B none 0 0 none 0 0 none 0 0 wx h4 hlb hll hy (by omega) (by omega) (by omega) (by omega) (hC.old ho) hb ha hbb
 have HCh1 : Hid (∀ wx ba ca bm cm, Old w wx -> BoxsIn wx bm n M -> FacsIn wx ba n A -> Calls prog 91 #[gv P Q G H a m cap, .string (strOfNums label), .int .u64 y, .slice bi n ci, .slice bm n cm, .agg #[.slice ba n ca, .slice none 0 0, .slice none 0 0, .slice none 0 0, .slice none 0 0]] wx fun e w' => ∃ y1 z1, e = .returned (.tuple #[.int .u64 Xc, .int .u64 y1, .int .u64 z1]) /\ Old wx w') := fun wx ba ca bm cm ho hb ha => (HCh.out wx ba ca none 0 0 bm cm (by omega) ho hb ha (Or.inl rfl)).mono fun e w' h => ⟨_, _, h⟩
 have HCh2 : Hid (∀ wx ba ca bb cb bm cm, Old w wx -> BoxsIn wx bm n M -> FacsIn wx ba n A -> FacsIn wx bb n B -> Calls prog 91 #[gv P Q G H a m cap, .string (strOfNums label), .int .u64 y, .slice bi n ci, .slice bm n cm, .agg #[.slice ba n ca, .slice bb n cb, .slice none 0 0, .slice none 0 0, .slice none 0 0]] wx (Ret wx (.tuple #[.int .u64 Xc, .int .u64 Yc, .int .u64 Zc]))) := fun wx ba ca bb cb bm cm ho hb ha hbb => by
  have h := HCh.out wx ba ca bb n cb bm cm (by omega) ho hb ha hbb
  rw [chyz8_eq, chyz8_eq, <- hYc, <- hZc] at h
  exact h
 have HnD := hid ((zb4.1 hdr).2.2.2)
 clear HCh hYc hZc hXc hM hA hB hP hmx hdr hor hC hO hρ hR hS hT hD uX uY uZ h4 hr hy hlb hll hcT hcD
 have HZ := lain3 w (gc P Q G H a m cap) (dvc bρ n cρ bR n cR bS n cS bT n cT bD nD cD) #[.slice none 0 0, .slice none 0 0, .slice none 0 0, .slice none 0 0, .slice none 0 0] 25 31 57
 have HG0 := fun w' ho => (HZ.then (W' := w') ho).row 0 (by simp)
 have HD0 := fun w' ho => (HZ.then (W' := w') ho).row 1 (by simp)
 have HS0 := fun w' ho => (HZ.then (W' := w') ho).row 2 (by simp)
 have HW0 := hid HZ.old
 clear HZ
 go_enter func32, ntmps32
 go_upto_region 1 with fail
 generalize ((w.alloc (.cells (gc P Q G H a m cap) 25)).alloc (.cells (dvc bρ n cρ bR n cR bS n cS bT n cT bD nD cD) 31)).alloc (.cells #[.slice none 0 0, .slice none 0 0, .slice none 0 0, .slice none 0 0, .slice none 0 0] 57) = W1 at *
 have HG := hid HG0
 have HDd := hid HD0
 have HSh := hid HS0
 clear HG0 HD0 HS0
 obtain ⟨gb, hgb⟩ : ∃ gb, gb = w.heap.size := ⟨_, rfl⟩
 rw [<- hgb] at HG HDd HSh
 rw [<- hgb]
 have HGs : Hid (w.heap.size <= gb + 1 + 1) := by unfold Hid; omega
 clear hgb
 have HGc : Hid (∀ wx, Old W1 wx -> G5 wx (gb) P Q G H (.slice a m cap)) := fun wx ho => g5 (HG.out _ ho)
 have HDc : Hid (∀ wx, Old W1 wx -> wx.cell? ⟨gb + 1, 0, none⟩ = some (.slice bρ n cρ) /\ wx.cell? ⟨gb + 1, 1, none⟩ = some (.slice bR n cR) /\ wx.cell? ⟨gb + 1, 2, none⟩ = some (.slice bS n cS) /\ wx.cell? ⟨gb + 1, 3, none⟩ = some (.slice bT n cT) /\ wx.cell? ⟨gb + 1, 4, none⟩ = some (.slice bD nD cD)) := fun wx ho => g5 (HDd.out _ ho)
 obtain ⟨g0, g1, g2, g3, g4⟩ := HGc.out _ (Old.refl _)
 obtain ⟨d0, d1, d2, d3, d4⟩ := HDc.out _ (Old.refl _)
 go_upto_region 2 with (go_at_call 16; refine (HMx.out _ HW0.out).mono ?_; rintro e w2 ⟨o2, bm, cm, rfl, hbm⟩)
 clear g0 g1 g2 g3 g4 d0 d1 d2 d3 d4 HMx
 have HO2 := hid o2
 have HB2 := hid hbm
 clear o2 hbm
 obtain ⟨d0, d1, d2, d3, d4⟩ := HDc.out _ HO2.out
 have e1 : IntKind.i64.wrap (7 * (n : Int)) = 7 * (n : Int) := by rw [IntKind.wrap_i64]; omega
 have e2 : IntKind.i64.wrap (7 * (n : Int) + 3) = 7 * (n : Int) + 3 := by rw [IntKind.wrap_i64]; omega
 have e3 : (nD : Int) = 7 * (n : Int) + 3 := by have := HnD.out; omega
 go_upto_region 5 with fail
 clear d0 d1 d2 d3 d4 e1 e2 e3
 obtain ⟨g0, g1, g2, g3, g4⟩ := HGc.out _ HO2.out
 obtain ⟨d0, d1, d2, d3, d4⟩ := HDc.out _ HO2.out
 go_upto_region 6 with (go_at_call 21; refine (HFi.out _ (HW0.out.trans HO2.out)).mono ?_; rintro e w3 ⟨o3, ba, ca, rfl, hfa⟩)
 clear g0 g1 g2 g3 g4 d0 d1 d2 d3 d4 HFi
 have HO3 := hid (HO2.out.trans o3)
 have HB3 := hid (HB2.out.old o3)
 have HNa3 := hid (hfa.mono (HW0.out.trans HO2.out).size)
 have HO34 : Hid (Old w3 (w3.alloc (.cells #[.slice ba n ca, .slice none 0 0, .slice none 0 0, .slice none 0 0, .slice none 0 0] 57))) := (Old.refl _).alloc _
 have HR4 : Hid ((w3.alloc (.cells #[.slice ba n ca, .slice none 0 0, .slice none 0 0, .slice none 0 0, .slice none 0 0] 57)).heap[w3.heap.size]? = some (.cells #[.slice ba n ca, .slice none 0 0, .slice none 0 0, .slice none 0 0, .slice none 0 0] 57 (0, 0))) := heap_alloc_last _ _
 clear o3 hfa HB2 HO2
 generalize w3.alloc (.cells #[.slice ba n ca, .slice none 0 0, .slice none 0 0, .slice none 0 0, .slice none 0 0] 57) = w4 at *
 obtain ⟨sb, hsb⟩ : ∃ sb, sb = w3.heap.size := ⟨_, rfl⟩
 rw [<- hsb] at HR4
 rw [<- hsb]
 have Hsb : Hid (w3.heap.size <= sb) := by unfold Hid; omega
 clear hsb
 have HO4 := hid (HO3.out.trans HO34.out)
 obtain ⟨g0, g1, g2, g3, g4⟩ := HGc.out _ HO4.out
 obtain ⟨s0, s1, s2, s3, s4⟩ := g5 HR4.out
 have HFa4 := hid (zat (HNa3.out.old HO34.out) HAu.out)
 go_upto_region 7 with (go_at_call 91; refine (HCh1.out _ ba ca bm cm (HW0.out.trans HO4.out) (HB3.out.old HO34.out).boxs HFa4.out).mono ?_; rintro e w5 ⟨y1, z1, rfl, o5⟩)
 clear g0 g1 g2 g3 g4 s0 s1 s2 s3 s4 HFa4 HCh1
 have HO35 := hid (HO34.out.trans o5)
 have HR5 : Hid (w5.heap[sb]? = some (.cells #[.slice ba n ca, .slice none 0 0, .slice none 0 0, .slice none 0 0, .slice none 0 0] 57 (0, 0))) := (o5.block _ (zag HR4.out)).trans HR4.out
 have Hsb5 := hid (zag HR5.out)
 have H5s := hid (((HW0.out.trans HO3.out).trans HO35.out).size)
 clear o5 HR4 HO34 HO4
 obtain ⟨g0, g1, g2, g3, g4⟩ := HGc.out _ (HO3.out.trans HO35.out)
 obtain ⟨d0, d1, d2, d3, d4⟩ := HDc.out _ (HO3.out.trans HO35.out)
 go_upto_region 8 with (go_at_call 23; refine (HSe.out _ ((HW0.out.trans HO3.out).trans HO35.out)).mono ?_; rintro e w6 ⟨o6, bb, cb, rfl, hfb⟩; have hr6 := (o6.block _ Hsb5.out).trans HR5.out; have q1 : w6.cell? ⟨sb, 1, none⟩ = some (.slice none 0 0) := Y1 hr6; have f1 : w6.frozen? ⟨sb, 1, none⟩ = false := zac hr6 1)
 clear g0 g1 g2 g3 g4 d0 d1 d2 d3 d4 q1 f1 HSe
 have HR7 : Hid ((w6.setCell ⟨sb, 1, none⟩ (.slice bb n cb)).heap[sb]? = some (.cells #[.slice ba n ca, .slice bb n cb, .slice none 0 0, .slice none 0 0, .slice none 0 0] 57 (0, 0))) := by
  have := zaq hr6 1 (.slice bb n cb)
  unfold Hid; simpa using this
 have HO37 : Hid (Old w3 (w6.setCell ⟨sb, 1, none⟩ (.slice bb n cb))) := (HO35.out.trans o6).setCell (p := ⟨sb, 1, none⟩) Hsb.out _
 have HNb7 : Hid (Nums (w6.setCell ⟨sb, 1, none⟩ (.slice bb n cb)) w5.heap.size (.slice bb n cb) n B) := ownsRow_setCell_below hfb (a := ⟨sb, 1, none⟩) Hsb5.out _
 clear hr6 o6 hfb HR5 HO35
 generalize w6.setCell ⟨sb, 1, none⟩ (.slice bb n cb) = w7 at *
 obtain ⟨g0, g1, g2, g3, g4⟩ := HGc.out _ (HO3.out.trans HO37.out)
 obtain ⟨s0, s1, s2, s3, s4⟩ := g5 HR7.out
 have HFa7 := hid (zat (HNa3.out.old HO37.out) HAu.out)
 have HFb7 := hid (zat HNb7.out HBu.out)
 go_upto_region 9 with (go_at_call 91; refine (HCh2.out _ ba ca bb cb bm cm ((HW0.out.trans HO3.out).trans HO37.out) (HB3.out.old HO37.out).boxs HFa7.out HFb7.out).mono ?_; rintro e w8 ⟨rfl, o8⟩)
 clear g0 g1 g2 g3 g4 s0 s1 s2 s3 s4 HFa7 HFb7 HCh2
 have HR8 : Hid (w8.heap[sb]? = some (.cells #[.slice ba n ca, .slice bb n cb, .slice none 0 0, .slice none 0 0, .slice none 0 0] 57 (0, 0))) := (o8.block _ (zag HR7.out)).trans HR7.out
 have s0 : w8.cell? ⟨sb, 0, none⟩ = some (.slice ba n ca) := Y0 HR8.out
 have s1 : w8.cell? ⟨sb, 1, none⟩ = some (.slice bb n cb) := Y1 HR8.out
 go_upto_region 10 with fail
 clear s0 s1
 have HO89 : Hid (Old w8 (w8.alloc (.cells (tkc ba n ca Xc bb n cb Yc Zc none 0 0) 41))) := (Old.refl _).alloc _
 have HO39 := hid ((HO37.out.trans o8).trans HO89.out)
 have HNb9 := hid (HNb7.out.old (o8.trans HO89.out))
 have HR9 : Hid ((w8.alloc (.cells (tkc ba n ca Xc bb n cb Yc Zc none 0 0) 41)).heap[sb]? = some (.cells #[.slice ba n ca, .slice bb n cb, .slice none 0 0, .slice none 0 0, .slice none 0 0] 57 (0, 0))) := (HO89.out.block _ (zag HR8.out)).trans HR8.out
 have HQ9 : Hid ((w8.alloc (.cells (tkc ba n ca Xc bb n cb Yc Zc none 0 0) 41)).heap[w8.heap.size]? = some (.cells (tkc ba n ca Xc bb n cb Yc Zc none 0 0) 41 (0, 0))) := heap_alloc_last _ _
 have Htb3 := hid ((HO37.out.trans o8).size)
 have Hst := hid (Nat.ne_of_lt (zag HR8.out))
 clear o8 HR7 HR8 HNb7 HO37 HO89
 generalize w8.alloc (.cells (tkc ba n ca Xc bb n cb Yc Zc none 0 0) 41) = w9 at *
 generalize w8.heap.size = tb at *
 have Htb9 := hid (zag HQ9.out)
 have Hsb9 := hid (zag HR9.out)
 have H9s := hid (((HW0.out.trans HO3.out).trans HO39.out).size)
 obtain ⟨g0, g1, g2, g3, g4⟩ := HGc.out _ (HO3.out.trans HO39.out)
 obtain ⟨d0, d1, d2, d3, d4⟩ := HDc.out _ (HO3.out.trans HO39.out)
 obtain ⟨t0, t1, t2, t3, t4, t5⟩ := g6 HQ9.out
 have HFa9 := hid (zat (HNa3.out.old HO39.out) HAu.out)
 have HFb9 := hid (zat HNb9.out HBu.out)
 go_upto_region 11 with (go_at_call 25; refine (HTh.out _ _ _ _ _ _ _ _ ((HW0.out.trans HO3.out).trans HO39.out) HFa9.out HFb9.out).mono ?_; rintro e wa ⟨oa, bp, cp, rfl, hfp⟩; have hra := (oa.block _ Hsb9.out).trans HR9.out; have q1 : wa.cell? ⟨sb, 2, none⟩ = some (.slice none 0 0) := Y2 hra; have f1 : wa.frozen? ⟨sb, 2, none⟩ = false := zac hra 2)
 clear g0 g1 g2 g3 g4 d0 d1 d2 d3 d4 t0 t1 t2 t3 t4 t5 q1 f1 HFa9 HFb9 HTh
 have HRb : Hid ((wa.setCell ⟨sb, 2, none⟩ (.slice bp n cp)).heap[sb]? = some (.cells #[.slice ba n ca, .slice bb n cb, .slice bp n cp, .slice none 0 0, .slice none 0 0] 57 (0, 0))) := by
  have := zaq hra 2 (.slice bp n cp)
  unfold Hid; simpa using this
 have HQb : Hid ((wa.setCell ⟨sb, 2, none⟩ (.slice bp n cp)).heap[tb]? = some (.cells (tkc ba n ca Xc bb n cb Yc Zc none 0 0) 41 (0, 0))) := by
  have h := (oa.block _ Htb9.out).trans HQ9.out
  exact (Below.heap_setCell _ ⟨sb, 2, none⟩ _ _ (Ne.symm Hst.out)).trans h
 have HO3b : Hid (Old w3 (wa.setCell ⟨sb, 2, none⟩ (.slice bp n cp))) := (HO39.out.trans oa).setCell (p := ⟨sb, 2, none⟩) Hsb.out _
 have HNbb : Hid (Nums (wa.setCell ⟨sb, 2, none⟩ (.slice bp n cp)) w5.heap.size (.slice bb n cb) n B) := ownsRow_setCell_below (HNb9.out.old oa) (a := ⟨sb, 2, none⟩) Hsb5.out _
 have HNpb : Hid (Nums (wa.setCell ⟨sb, 2, none⟩ (.slice bp n cp)) w9.heap.size (.slice bp n cp) n Pp) := ownsRow_setCell_below hfp (a := ⟨sb, 2, none⟩) Hsb9.out _
 clear hra oa hfp HR9 HQ9 HO39 HNb9
 generalize wa.setCell ⟨sb, 2, none⟩ (.slice bp n cp) = wb at *
 have s2 : wb.cell? ⟨sb, 2, none⟩ = some (.slice bp n cp) := Y2 HRb.out
 have q1 : wb.cell? ⟨tb, 5, none⟩ = some (.slice none 0 0) := Y5 HQb.out
 have f1 : wb.frozen? ⟨tb, 5, none⟩ = false := zac HQb.out 5
 have HRc : Hid ((wb.setCell ⟨tb, 5, none⟩ (.slice bp n cp)).heap[sb]? = some (.cells #[.slice ba n ca, .slice bb n cb, .slice bp n cp, .slice none 0 0, .slice none 0 0] 57 (0, 0))) := (Below.heap_setCell _ ⟨tb, 5, none⟩ _ _ Hst.out).trans HRb.out
 have HQc : Hid ((wb.setCell ⟨tb, 5, none⟩ (.slice bp n cp)).heap[tb]? = some (.cells (tkc ba n ca Xc bb n cb Yc Zc bp n cp) 41 (0, 0))) := by
  have := zaq HQb.out 5 (.slice bp n cp)
  unfold Hid; simpa using this
 have HO3c : Hid (Old w3 (wb.setCell ⟨tb, 5, none⟩ (.slice bp n cp))) := HO3b.out.setCell (p := ⟨tb, 5, none⟩) Htb3.out _
 have HNbc : Hid (Nums (wb.setCell ⟨tb, 5, none⟩ (.slice bp n cp)) w5.heap.size (.slice bb n cb) n B) := own_oth8 HNbb.out (p := ⟨tb, 5, none⟩) (own_ne8 (by decide) HNbb.out HQb.out) _
 have HNpc : Hid (Nums (wb.setCell ⟨tb, 5, none⟩ (.slice bp n cp)) w9.heap.size (.slice bp n cp) n Pp) := ownsRow_setCell_below HNpb.out (a := ⟨tb, 5, none⟩) Htb9.out _
 clear HRb HQb HO3b HNbb HNpb
 go_upto_region 12 with fail
 clear s2 q1 f1
 generalize wb.setCell ⟨tb, 5, none⟩ (.slice bp n cp) = wc at *
 have HOc := hid (HO3.out.trans HO3c.out)
 obtain ⟨g0, g1, g2, g3, g4⟩ := HGc.out _ HOc.out
 obtain ⟨t0, t1, t2, t3, t4, t5⟩ := g6 HQc.out
 have HFac := hid (zat (HNa3.out.old HO3c.out) HAu.out)
 have HFbc := hid (zat HNbc.out HBu.out)
 have HFpc := hid (zat HNpc.out HPu.out)
 go_upto_region 13 with (go_at_call 29; refine (HCl.out _ _ cm _ _ _ _ _ _ (HW0.out.trans HOc.out) (HB3.out.old HO3c.out).boxs HFac.out HFbc.out HFpc.out).mono ?_; intro e we hd; obtain ⟨bt, ct, b2, c2, BA, Cc, rfl, oe, hcl⟩ := GivD.made hd (fun j _ => HTu.out j) (fun j hj i _ => HRu.out j hj i))
 clear t0 t1 t2 t3 t4 t5 g0 g1 g2 g3 g4 hd HFac HFbc HFpc HTu HRu HCl HGc HDc
 have HOe : Old we (we.alloc (.cells #[.slice bt (4 * n + 6) ct, .slice b2 (4 * n + 6) c2] 50)) := (Old.refl _).alloc _
 have HOcf := hid (oe.trans HOe)
 have HCf := hid (hcl.old HOe)
 have HRf : Hid ((we.alloc (.cells #[.slice bt (4 * n + 6) ct, .slice b2 (4 * n + 6) c2] 50)).heap[we.heap.size]? = some (.cells #[.slice bt (4 * n + 6) ct, .slice b2 (4 * n + 6) c2] 50 (0, 0))) := heap_alloc_last _ _
 clear HOe hcl oe
 generalize we.alloc (.cells #[.slice bt (4 * n + 6) ct, .slice b2 (4 * n + 6) c2] 50) = wf at *
 generalize we.heap.size = lb8 at *
 have HGf := hid fun wx (ho : Old wf wx) => HG.out wx ((HOc.out.trans HOcf.out).trans ho)
 have HDf := hid fun wx (ho : Old wf wx) => HDd.out wx ((HOc.out.trans HOcf.out).trans ho)
 have HTf := hid fun wx (ho : Old wf wx) => ((HOcf.out.trans ho).block _ (zag HQc.out)).trans HQc.out
 have HCr := hid fun wx (ho : Old wf wx) => (ho.block _ (zag HRf.out)).trans HRf.out
 refine za0 (Rl := OldT 55) 17 [.k (gv P Q G H a m cap), .k (.string (strOfNums label)), .k (cv bt (4 * n + 6) ct b2 (4 * n + 6) c2), .k (gv P Q G H a m cap), .k (.slice bo n co), .k (tk ba n ca Xc bb n cb Yc Zc bp n cp), .k (dv bρ n cρ bR n cR bS n cS bT n cT bD nD cD), numE (by decide) wf.heap.size (7 * n + 3) E, .k (.pointer (some ⟨gb + 1, 4, none⟩)), .k (.slice bD nD cD), prP wf.heap.size (4 * n + 6) K (7 * n + 3) Zf (fun a => .tuple #[a, .bool true]), prP wf.heap.size (4 * n + 6) K (7 * n + 3) Zf (fun a => .tuple #[a, .bool true]), prP wf.heap.size (4 * n + 6) K (7 * n + 3) Zf id, .k (.bool true), varE 55 2 wf.heap.size, putE 55 14 12 wf.heap.size, .k (.bool true)] (Old wf) (by kernel_rfl) (by kernel_rfl) rfl (by kernel_rfl) ((Old.refl _).drew) ?st ?_
 case st =>
  refine .c (stsy U25 HGf.out) <| .c stpy <| .c (stsy U50 HCr.out) <| .c (stsy U25 HGf.out) <| .c stpy <| .c (stsy U41 HTf.out) <| .c (stsy U31 HDf.out) <| .c (stCy (args := fun t => #[gv P Q G H a m cap, .slice bo n co, tk ba n ca Xc bb n cb Yc Zc bp n cp, dv bρ n cρ bR n cR bS n cS bT n cT bD nD cD]) old_R func27 fun t wx hR hd => ?_) <| .c stpy <| .c (stfy 4 U29 HDf.out) <| .c (stCy (args := fun t => #[gv P Q G H a m cap, .string (strOfNums label), cv bt (4 * n + 6) ct b2 (4 * n + 6) c2, t 7, .slice bD nD cD]) old_R func92 fun t wx hR hd => ?_) <| .c (stxy fun t wx hR hd => ⟨t 10, by kernel_rfl, hd 10 (by kernel_rfl)⟩) <| .c (stxy fun t wx hR hd => ?_) <| .c (stzy fun t wx hR hd => ?_) <| .c (stmy (ob := fun _ => .cells #[.slice none 0 0, .slice none 0 0] 55) (v := fun s => .pointer (some ⟨s, 0, none⟩)) old_R fun t wx hR hd => ⟨_, rfl, hR.size, _, heap_alloc_last _ _, rfl⟩) <| .c (stPy (n := 2) (fun _ _ => True) (fun w g cells h hg => h.setRow hg cells) fun t wx hR hd => ?_) <| .c stpy .n
  ·exact (HEx.out wx ba ca bb cb bp n cp (HW0.out.trans ((HOc.out.trans HOcf.out).trans hR))).mono fun r w' ⟨o, v, e, hN⟩ => ⟨_, e, o, hN.mono hR.size⟩
  ·have hN : Nums wx wf.heap.size (t 7) (7 * n + 3) E := hd 7 (by kernel_rfl)
   obtain ⟨be, ce, e7, q1, q2, hf⟩ := hN.facs2 (fun i hi => HEu.out i hi)
   rw [e7]
   refine (HPv.out wx bt ct b2 c2 BA Cc be ce (HW0.out.trans ((HOc.out.trans HOcf.out).trans hR)) (HCf.out.old hR) hf q1).mono ?_
   rintro e wg ⟨og, v, u, rfl, N1, N2⟩
   simp only [if_true] at N1 N2
   obtain ⟨bk, ck, rfl⟩ := zau N1
   obtain ⟨bz, cz, rfl⟩ := zau N2
   exact ⟨_, rfl, og, bk, ck, bz, cz, rfl, N1.mono hR.size, N2.mono hR.size⟩
  ·obtain ⟨bk, ck, bz, cz, e, N1, N2⟩ : ∃ bk ck bz cz, t 11 = .tuple #[.agg #[.slice bk (4 * n + 6) ck, .slice bz (7 * n + 3) cz], .bool true] /\ Nums wx wf.heap.size (.slice bk (4 * n + 6) ck) (4 * n + 6) K /\ Nums wx wf.heap.size (.slice bz (7 * n + 3) cz) (7 * n + 3) Zf := hd 11 (by kernel_rfl)
   exact ⟨_, zaR (Eq.trans (b := t 11) (by kernel_rfl) e) rfl, bk, ck, bz, cz, rfl, N1, N2⟩
  ·obtain ⟨bk, ck, bz, cz, e, N1, N2⟩ : ∃ bk ck bz cz, t 11 = .tuple #[.agg #[.slice bk (4 * n + 6) ck, .slice bz (7 * n + 3) cz], .bool true] /\ Nums wx wf.heap.size (.slice bk (4 * n + 6) ck) (4 * n + 6) K /\ Nums wx wf.heap.size (.slice bz (7 * n + 3) cz) (7 * n + 3) Zf := hd 11 (by kernel_rfl)
   exact zaR (Eq.trans (b := t 11) (by kernel_rfl) e) rfl
  ·obtain ⟨bk, ck, bz, cz, e12, _⟩ : ∃ bk ck bz cz, t 12 = .agg #[.slice bk (4 * n + 6) ck, .slice bz (7 * n + 3) cz] /\ Nums wx wf.heap.size (.slice bk (4 * n + 6) ck) (4 * n + 6) K /\ Nums wx wf.heap.size (.slice bz (7 * n + 3) cz) (7 * n + 3) Zf := hd 12 (by kernel_rfl)
   obtain ⟨b, e14, hb, cs, hcs, hs⟩ : ∃ b, t 14 = .pointer (some ⟨b, 0, none⟩) /\ wf.heap.size <= b /\ ∃ cs, wx.heap[b]? = some (.cells cs 55 (0, 0)) /\ cs.size = 2 := hd 14 (by kernel_rfl)
   exact ⟨b, _, cs, e14, e12, hb, hcs, hs, rfl, by simp [Value.oneCell']⟩
 intro t wx hR hk
 simp only [fill2, Ent2.val, numE, prP, varE, putE, zs0, zs1, zd1, zd0, zdn]
 have HOw := hid hR
 obtain ⟨pb, csp, e15, hpb, hRp⟩ : ∃ b cs, [t 14, t 12] = [.pointer (some ⟨b, 0, none⟩), .agg cs] /\ wf.heap.size <= b /\ wx.heap[b]? = some (.cells cs 55 (0, 0)) := hk 15 (by omega)
 obtain ⟨bk, ck, bz, cz, e12, N1, N2⟩ : ∃ bk ck bz cz, t 12 = .agg #[.slice bk (4 * n + 6) ck, .slice bz (7 * n + 3) cz] /\ Nums wx wf.heap.size (.slice bk (4 * n + 6) ck) (4 * n + 6) K /\ Nums wx wf.heap.size (.slice bz (7 * n + 3) cz) (7 * n + 3) Zf := hk 12 (by omega)
 rw [e12] at e15
 have e14 : t 14 = .pointer (some ⟨pb, 0, none⟩) := by injection e15
 have ecs : csp = #[.slice bk (4 * n + 6) ck, .slice bz (7 * n + 3) cz] := by
  injection e15 with _ e15
  injection e15 with e15 _
  injection e15 with e15
  exact e15.symm
 subst ecs
 rw [e14]
 clear e14 e15 e12 hk
 have HOh := hid (HOcf.out.trans hR)
 have hrs := (HOh.out.block _ (zag HRc.out)).trans HRc.out
 have Hsf := hid (Nat.lt_of_lt_of_le (zag HRc.out) HOcf.out.size)
 have Hwf := hid (((HW0.out.trans HOc.out).trans HOcf.out).size)
 have p0 : wx.cell? ⟨pb, 0, none⟩ = some (.slice bk (4 * n + 6) ck) := Y0 hRp
 have p1 : wx.cell? ⟨pb, 1, none⟩ = some (.slice bz (7 * n + 3) cz) := Y1 hRp
 have q3 : wx.cell? ⟨sb, 3, none⟩ = some (.slice none 0 0) := Y3 hrs
 have q4 : wx.cell? ⟨sb, 4, none⟩ = some (.slice none 0 0) := Y4 hrs
 have f3 : wx.frozen? ⟨sb, 3, none⟩ = false := zac hrs 3
 have f4 : wx.frozen? ⟨sb, 4, none⟩ = false := zac hrs 4
 obtain ⟨VK, hVK⟩ : ∃ VK, VK = Value.slice bk (4 * n + 6) ck := ⟨_, rfl⟩
 obtain ⟨VZ, hVZ⟩ : ∃ VZ, VZ = Value.slice bz (7 * n + 3) cz := ⟨_, rfl⟩
 have HRy : Hid (((wx.setCell ⟨sb, 3, none⟩ (.slice bk (4 * n + 6) ck)).setCell ⟨sb, 4, none⟩ (.slice bz (7 * n + 3) cz)).heap[sb]? = some (.cells #[.slice ba n ca, .slice bb n cb, .slice bp n cp, .slice bk (4 * n + 6) ck, .slice bz (7 * n + 3) cz] 57 (0, 0))) := by
  have := zaq (zaq hrs 3 (.slice bk (4 * n + 6) ck)) 4 (.slice bz (7 * n + 3) cz)
  unfold Hid; simpa using this
 have HO3y : Hid (Old w3 ((wx.setCell ⟨sb, 3, none⟩ (.slice bk (4 * n + 6) ck)).setCell ⟨sb, 4, none⟩ (.slice bz (7 * n + 3) cz))) := ((HO3c.out.trans HOh.out).setCell (p := ⟨sb, 3, none⟩) Hsb.out _).setCell (p := ⟨sb, 4, none⟩) Hsb.out _
 have HNby : Hid (Nums ((wx.setCell ⟨sb, 3, none⟩ (.slice bk (4 * n + 6) ck)).setCell ⟨sb, 4, none⟩ (.slice bz (7 * n + 3) cz)) w5.heap.size (.slice bb n cb) n B) := ownsRow_setCell_below (ownsRow_setCell_below (HNbc.out.old HOh.out) (a := ⟨sb, 3, none⟩) Hsb5.out _) (a := ⟨sb, 4, none⟩) Hsb5.out _
 have HNpy : Hid (Nums ((wx.setCell ⟨sb, 3, none⟩ (.slice bk (4 * n + 6) ck)).setCell ⟨sb, 4, none⟩ (.slice bz (7 * n + 3) cz)) w9.heap.size (.slice bp n cp) n Pp) := ownsRow_setCell_below (ownsRow_setCell_below (HNpc.out.old HOh.out) (a := ⟨sb, 3, none⟩) Hsb9.out _) (a := ⟨sb, 4, none⟩) Hsb9.out _
 have HNky : Hid (Nums ((wx.setCell ⟨sb, 3, none⟩ (.slice bk (4 * n + 6) ck)).setCell ⟨sb, 4, none⟩ (.slice bz (7 * n + 3) cz)) wf.heap.size (.slice bk (4 * n + 6) ck) (4 * n + 6) K) := ownsRow_setCell_below (ownsRow_setCell_below N1 (a := ⟨sb, 3, none⟩) Hsf.out _) (a := ⟨sb, 4, none⟩) Hsf.out _
 have HNzy : Hid (Nums ((wx.setCell ⟨sb, 3, none⟩ (.slice bk (4 * n + 6) ck)).setCell ⟨sb, 4, none⟩ (.slice bz (7 * n + 3) cz)) wf.heap.size (.slice bz (7 * n + 3) cz) (7 * n + 3) Zf) := ownsRow_setCell_below (ownsRow_setCell_below N2 (a := ⟨sb, 3, none⟩) Hsf.out _) (a := ⟨sb, 4, none⟩) Hsf.out _
 clear hVK hVZ N1 N2 hRp hpb hR hrs HGf HDf HCr HEx HCf HRf HPv HOw HTf HEu HRc HQc HNbc HNpc HOh HOcf HO3c
 clear VK VZ
 go_upto_region 15 with fail
 clear p0 p1 q3 q4 f3 f4
 generalize (wx.setCell ⟨sb, 3, none⟩ (.slice bk (4 * n + 6) ck)).setCell ⟨sb, 4, none⟩ (.slice bz (7 * n + 3) cz) = wy at *
 have HG0w := hid HGs.out
 have Hne : Hid (gb + 1 + 1 ≠ sb) := by
  have h1 := zag (HSh.out w3 HO3.out)
  have h2 := Hsb.out
  unfold Hid
  omega
 have HSk := hid fun wz (ho : (Old w wz /\ OldT 57 wy wz /\ wz.heap[sb]? = some (.cells #[.slice ba n ca, .slice bb n cb, .slice bp n cp, .slice bk (4 * n + 6) ck, .slice bz (7 * n + 3) cz] 57 (0, 0)))) => ho.2.1.kind ⟨_, HSh.out _ (HO3.out.trans HO3y.out), rfl⟩
 have HRR : Hid (∀ wz, (Old w wz /\ OldT 57 wy wz /\ wz.heap[sb]? = some (.cells #[.slice ba n ca, .slice bb n cb, .slice bp n cp, .slice bk (4 * n + 6) ck, .slice bz (7 * n + 3) cz] 57 (0, 0))) -> ∀ c : Array Value, c.size = 5 -> Old w (wz.setRow (gb + 1 + 1) c) /\ OldT 57 wy (wz.setRow (gb + 1 + 1) c) /\ (wz.setRow (gb + 1 + 1) c).heap[sb]? = some (.cells #[.slice ba n ca, .slice bb n cb, .slice bp n cp, .slice bk (4 * n + 6) ck, .slice bz (7 * n + 3) cz] 57 (0, 0))) := fun wz ho c hc => ⟨ho.1.setRow HG0w.out _, (by
  obtain ⟨cs, hcs, hs⟩ := HSk.out _ ho
  exact ho.2.1.trans (.setRow hcs (hc.trans hs.symm))), (by
  have hne := Hne.out
  simp only [World.setRow]
  rw [Array.getElem?_modify, if_neg hne]
  exact ho.2.2)⟩
 have HW00 := hid ((HW0.out.trans HO3.out).trans HO3y.out)
 refine za0 (Rl := OldT 57) 5 [.k (.slice bm n cm), .k (.agg #[.slice ba n ca, .slice bb n cb, .slice bp n cp, .slice bk (4 * n + 6) ck, .slice bz (7 * n + 3) cz]), .k (.slice bm n cm), rowE 57 (gb + 1 + 1) #[.slice ba n ca, .slice bb n cb, .slice bp n cp, .slice bk (4 * n + 6) ck, .slice bz (7 * n + 3) cz], .k (.bool true)] (fun wz => Old w wz /\ OldT 57 wy wz /\ wz.heap[sb]? = some (.cells #[.slice ba n ca, .slice bb n cb, .slice bp n cp, .slice bk (4 * n + 6) ck, .slice bz (7 * n + 3) cz] 57 (0, 0))) (by kernel_rfl) (by kernel_rfl) rfl (by kernel_rfl) (⟨HW00.out.drew, OldT.of (Old.refl _).drew, HRy.out⟩) ?st ?_
 case st =>
  refine .c stpy <| .c (stsy U57 (fun wz ho => ho.2.2)) <| .c stpy <| .c (stQy (n := 5) (fun wz ho => HRR.out wz ho _ rfl) (fun wz ho => HSk.out wz ho)) <| .c stpy .n
 intro t wx_1 hR hk
 simp only [fill2, Ent2.val, rowE, zs0, zs1, zd1, zd0, zdn]
 have HRz := hid (hk 3 (by omega))
 have hOx : OldT 57 wy wx_1 := hR.2.1
 have HG : Hid (GivS w true n M A B Pp (4 * n + 6) K (7 * n + 3) Zf (.returned (.tuple #[.slice bm n cm, .agg #[.slice ba n ca, .slice bb n cb, .slice bp n cp, .slice bk (4 * n + 6) ck, .slice bz (7 * n + 3) cz], .bool true])) wx_1) :=
  ⟨hR.1, _, _, _, _, _, _, _, rfl, (HB3.out.old HO3y.out).oldT (by decide) hOx, (HNa3.out.old HO3y.out).oldT (by decide) hOx, (HNby.out.oldT (by decide) hOx).mono H5s.out, (HNpy.out.oldT (by decide) hOx).mono H9s.out, (HNky.out.oldT (by decide) hOx).mono Hwf.out, (HNzy.out.oldT (by decide) hOx).mono Hwf.out⟩
 clear hR hk hOx
 go_wp2_with fail
 exact bodyPost_ret (zaV (b := gb + 1 + 1) rfl rfl rfl rfl (run_loadVar_row _ _ _ _ _ (0, 0) _ HRz.out U57 rfl zaT)) rfl HG.out
theorem rpro_no (P Q G H : Int) (a : OA) (m cap : Nat) (label : List Int) (y : Int) (bi : OA) (l ci : Nat) (C : NN) (bo : OA) (no co : Nat) (O : NI) (bρ : OA) (nρ cρ : Nat) (Rh : NN) (bR : OA) (nR cR : Nat) (bS : OA) (nS cS : Nat) (bT : OA) (nT cT : Nat) (bD : OA) (nD cD : Nat) (M : NN) (A B Pp : NI) (nt : Nat) (K : NI) (nz : Nat) (Zf : NI) (w : World) (h4 : Four P Q G H) (hr : Righ P Q G) (hy : U64 y) (ml : l <= 80) (mo : no <= 80) (mρ : nρ <= 80) (hC : BoxsIn w bi l C) (hO : IntsIn w bo no O) (hρ : RhoIn w bρ nρ Rh) (hok : (mixB P Q y l C no O nρ && drwB l nR nS nT nD) = false) :
  Calls prog 32 #[gv P Q G H a m cap, .string (strOfNums label), .int .u64 y, .slice bi l ci, .slice bo no co, dv bρ nρ cρ bR nR cR bS nS cS bT nT cT bD nD cD] w (GivS w (mixB P Q y l C no O nρ && drwB l nR nS nT nD) l M A B Pp nt K nz Zf) := by
 have HMx : Hid (∀ wx, Old w wx -> Calls prog 16 #[gv P Q G H a m cap, .int .u64 y, .slice bi l ci, .slice bo no co, .slice bρ nρ cρ] wx fun e w' => Old wx w' /\ ∃ b n c, e = .returned (.tuple #[.slice b n c, .bool (mixB P Q y l C no O nρ)])) := fun wx ho => (rmix8_any P Q G H a m cap y bi l ci C bo no co O bρ nρ cρ Rh wx h4 hr hy (by omega) (by omega) (by omega) (hC.old ho) (hO.old ho) (hρ.old ho)).mono fun e w' h => by
  obtain ⟨k, b, c, he, _⟩ := h
  exact ⟨k, _, _, _, he⟩
 have HNo := hid hok
 have hl8 : mixB P Q y l C no O nρ = true -> l <= 8 := fun h => by
  unfold mixB at h
  simp only [Bool.and_eq_true_iff, decide_eq_true_eq] at h
  exact (zaM.1 h.2.2.2.1).1.2
 have hdb : mixB P Q y l C no O nρ = true -> ¬ (nR = l /\ nS = l /\ nT = l /\ nD = 7 * l + 3) := fun h hc => by
  rw [h, Bool.true_and, zb4.2 hc] at hok
  cases hok
 clear hC hO hρ h4 hr hy hok ml mo mρ
 generalize mixB P Q y l C no O nρ = mb at *
 have HZ := lain3 w (gc P Q G H a m cap) (dvc bρ nρ cρ bR nR cR bS nS cS bT nT cT bD nD cD) #[.slice none 0 0, .slice none 0 0, .slice none 0 0, .slice none 0 0, .slice none 0 0] 25 31 57
 have HG0 := fun w' ho => (HZ.then (W' := w') ho).row 0 (by simp)
 have HD0 := fun w' ho => (HZ.then (W' := w') ho).row 1 (by simp)
 have HS0 := fun w' ho => (HZ.then (W' := w') ho).row 2 (by simp)
 have HW0 := hid HZ.old
 clear HZ
 go_enter func32, ntmps32
 go_upto_region 1 with fail
 generalize ((w.alloc (.cells (gc P Q G H a m cap) 25)).alloc (.cells (dvc bρ nρ cρ bR nR cR bS nS cS bT nT cT bD nD cD) 31)).alloc (.cells #[.slice none 0 0, .slice none 0 0, .slice none 0 0, .slice none 0 0, .slice none 0 0] 57) = W1 at *
 have HG := hid HG0
 have HDd := hid HD0
 have HSh := hid HS0
 clear HG0 HD0 HS0
 obtain ⟨gb, hgb⟩ : ∃ gb, gb = w.heap.size := ⟨_, rfl⟩
 rw [<- hgb] at HG HDd HSh
 rw [<- hgb]
 have HGs : Hid (w.heap.size <= gb + 1 + 1) := by unfold Hid; omega
 clear hgb
 have HGc : Hid (∀ wx, Old W1 wx -> G5 wx (gb) P Q G H (.slice a m cap)) := fun wx ho => g5 (HG.out _ ho)
 have HDc : Hid (∀ wx, Old W1 wx -> wx.cell? ⟨gb + 1, 0, none⟩ = some (.slice bρ nρ cρ) /\ wx.cell? ⟨gb + 1, 1, none⟩ = some (.slice bR nR cR) /\ wx.cell? ⟨gb + 1, 2, none⟩ = some (.slice bS nS cS) /\ wx.cell? ⟨gb + 1, 3, none⟩ = some (.slice bT nT cT) /\ wx.cell? ⟨gb + 1, 4, none⟩ = some (.slice bD nD cD)) := fun wx ho => g5 (HDd.out _ ho)
 have HSc : Hid (∀ wx, Old W1 wx -> (wx.cell? ⟨gb + 1 + 1, 0, none⟩ = some (.slice none 0 0) /\ wx.cell? ⟨gb + 1 + 1, 1, none⟩ = some (.slice none 0 0) /\ wx.cell? ⟨gb + 1 + 1, 2, none⟩ = some (.slice none 0 0) /\ wx.cell? ⟨gb + 1 + 1, 3, none⟩ = some (.slice none 0 0) /\ wx.cell? ⟨gb + 1 + 1, 4, none⟩ = some (.slice none 0 0)) /\ ∀ j, wx.frozen? ⟨gb + 1 + 1, j, none⟩ = false) := fun wx ho => ⟨g5 (HSh.out _ ho), fun j => zac (HSh.out _ ho) j⟩
 obtain ⟨g0, g1, g2, g3, g4⟩ := HGc.out _ (Old.refl _)
 obtain ⟨d0, d1, d2, d3, d4⟩ := HDc.out _ (Old.refl _)
 go_upto_region 2 with (go_at_call 16; refine (HMx.out _ HW0.out).mono ?_; rintro e w2 ⟨o2, bm, nm, cm, rfl⟩)
 clear g0 g1 g2 g3 g4 d0 d1 d2 d3 d4 HMx
 have HO2 := hid o2
 clear o2
 obtain ⟨d0, d1, d2, d3, d4⟩ := HDc.out _ HO2.out
 cases mb with
 | false =>
  clear hl8 hdb
  go_upto_region 4 with fail
  clear d0 d1 d2 d3 d4
  obtain ⟨⟨s0, s1, s2, s3, s4⟩, hf⟩ := HSc.out _ HO2.out
  have f0 := hf 0
  have f1 := hf 1
  have f2 := hf 2
  have f3 := hf 3
  have f4 := hf 4
  clear hf
  go_wp2_with fail
  exact bodyPost_ret (zaV (b := gb + 1 + 1) rfl rfl rfl rfl (zbu (HSh.out _ HO2.out) U57 zaT)) rfl (zcV HNo.out ((HW0.out.trans HO2.out).five HGs.out _ _ _ _ _))
 | true =>
  have h8 := hl8 rfl
  have hd := hdb rfl
  clear hl8 hdb
  have e1 : IntKind.i64.wrap (7 * (l : Int)) = 7 * (l : Int) := by rw [IntKind.wrap_i64]; omega
  have e2 : IntKind.i64.wrap (7 * (l : Int) + 3) = 7 * (l : Int) + 3 := by rw [IntKind.wrap_i64]; omega
  by_cases c0 : nR = l
  rotate_left
  ·have k0 : ¬ (nR : Int) = (l : Int) := by omega
   clear hd
   go_upto_region 4 with fail
   clear d0 d1 d2 d3 d4
   obtain ⟨⟨s0, s1, s2, s3, s4⟩, hf⟩ := HSc.out _ HO2.out
   have f0 := hf 0
   have f1 := hf 1
   have f2 := hf 2
   have f3 := hf 3
   have f4 := hf 4
   clear hf
   go_wp2_with fail
   exact bodyPost_ret (zaV (b := gb + 1 + 1) rfl rfl rfl rfl (zbu (HSh.out _ HO2.out) U57 zaT)) rfl (zcV HNo.out ((HW0.out.trans HO2.out).five HGs.out _ _ _ _ _))
  have k0 : (nR : Int) = (l : Int) := by omega
  by_cases c1 : nS = l
  rotate_left
  ·have k1 : ¬ (nS : Int) = (l : Int) := by omega
   clear hd
   go_upto_region 4 with fail
   clear d0 d1 d2 d3 d4
   obtain ⟨⟨s0, s1, s2, s3, s4⟩, hf⟩ := HSc.out _ HO2.out
   have f0 := hf 0
   have f1 := hf 1
   have f2 := hf 2
   have f3 := hf 3
   have f4 := hf 4
   clear hf
   go_wp2_with fail
   exact bodyPost_ret (zaV (b := gb + 1 + 1) rfl rfl rfl rfl (zbu (HSh.out _ HO2.out) U57 zaT)) rfl (zcV HNo.out ((HW0.out.trans HO2.out).five HGs.out _ _ _ _ _))
  have k1 : (nS : Int) = (l : Int) := by omega
  by_cases c2 : nT = l
  rotate_left
  ·have k2 : ¬ (nT : Int) = (l : Int) := by omega
   clear hd
   go_upto_region 4 with fail
   clear d0 d1 d2 d3 d4
   obtain ⟨⟨s0, s1, s2, s3, s4⟩, hf⟩ := HSc.out _ HO2.out
   have f0 := hf 0
   have f1 := hf 1
   have f2 := hf 2
   have f3 := hf 3
   have f4 := hf 4
   clear hf
   go_wp2_with fail
   exact bodyPost_ret (zaV (b := gb + 1 + 1) rfl rfl rfl rfl (zbu (HSh.out _ HO2.out) U57 zaT)) rfl (zcV HNo.out ((HW0.out.trans HO2.out).five HGs.out _ _ _ _ _))
  have k2 : (nT : Int) = (l : Int) := by omega
  have k3 : ¬ (nD : Int) = 7 * (l : Int) + 3 := by
   have : ¬ nD = 7 * l + 3 := fun h => hd ⟨c0, c1, c2, h⟩
   omega
  clear hd c0 c1 c2
  go_upto_region 4 with fail
  clear d0 d1 d2 d3 d4
  obtain ⟨⟨s0, s1, s2, s3, s4⟩, hf⟩ := HSc.out _ HO2.out
  have f0 := hf 0
  have f1 := hf 1
  have f2 := hf 2
  have f3 := hf 3
  have f4 := hf 4
  clear hf
  go_wp2_with fail
  exact bodyPost_ret (zaV (b := gb + 1 + 1) rfl rfl rfl rfl (zbu (HSh.out _ HO2.out) U57 zaT)) rfl (zcV HNo.out ((HW0.out.trans HO2.out).five HGs.out _ _ _ _ _))
theorem zeo (P Q G H : Int) (a : OA) (m cap : Nat) (label : List Int) (y : Int) (bi : OA) (l ci : Nat) (C : NN) (bo : OA) (no co : Nat) (O : NI) (bρ : OA) (nρ cρ : Nat) (Rh : NN) (bR : OA) (nR cR : Nat) (R : NI) (bS : OA) (nS cS : Nat) (S : NI) (bT : OA) (nT cT : Nat) (T : NI) (bD : OA) (nD cD : Nat) (D : NI) (w : World) (h4 : Four P Q G H) (hr : Righ P Q G) (hin : inI P Q H = true) (hy : U64 y) (hlb : Bts label) (hll : label.length <= 1000) (ml : l <= 80) (mo : no <= 80) (mρ : nρ <= 80) (hcT : nT <= cT /\ cT <= 9223372036854775807) (hcD : nD <= cD)
  (hC : BoxsIn w bi l C) (hO : IntsIn w bo no O) (hρ : RhoIn w bρ nρ Rh) (hR : FacsIn w bR nR R) (hS : FacsIn w bS nS S) (hT : FacsIn w bT nT T) (hD : FacsIn w bD nD D) :
  Calls prog 32 #[gv P Q G H a m cap, .string (strOfNums label), .int .u64 y, .slice bi l ci, .slice bo no co, dv bρ nρ cρ bR nR cR bS nS cS bT nT cT bD nD cD] w (GivS w (mixB P Q y l C no O nρ && drwB l nR nS nT nD) l (mixC P Q G y C O Rh) (aF P Q G H O R) (mxB P Q G H label y l C O Rh R S) (mxP P Q G H label y l C O Rh R S T) (4 * l + 6) (mxK P Q G H label y l C O Rh R S T D) (7 * l + 3) (mxZ P Q G H label y l C O Rh R S T D)) := by
 cases hok : (mixB P Q y l C no O nρ && drwB l nR nS nT nD) with
 | false =>
  rw [<- hok]
  exact rpro_no P Q G H a m cap label y bi l ci C bo no co O bρ nρ cρ Rh bR nR cR bS nS cS bT nT cT bD nD cD _ _ _ _ _ _ _ _ w h4 hr hy ml mo mρ hC hO hρ hok
 | true =>
  obtain ⟨hm, hd⟩ := Bool.and_eq_true_iff.1 hok
  obtain ⟨e1, e2, e3, e4⟩ := zb4.1 hd
  have hm' := hm
  unfold mixB at hm'
  simp only [Bool.and_eq_true_iff, decide_eq_true_eq] at hm'
  obtain ⟨e5, e6, h3, h5, h6⟩ := hm'
  have hor := (zdO.1 hm).2.2.1
  subst e1 e2 e3 e5 e6
  have M := mix8_of hr hin hm hρ hR hS hT
  have uY : U64 (mxC 121 P Q G H label y nρ C O Rh R S) := by unfold mxC chYZ; exact zas _ _ _ _
  have uZ : U64 (mxC 122 P Q G H label y nρ C O Rh R S) := by unfold mxC chYZ; exact zas _ _ _ _
  have hsz := (M.claim (mxX P Q G H label y nρ C O Rh R) uY.1 uZ.1).size
  exact rpro_any P Q G H a m cap label y bi ci C bo co O bρ cρ Rh bR cR R bS cS S bT cT T bD nD cD D nρ (mxX P Q G H label y nρ C O Rh R) (mxC 121 P Q G H label y nρ C O Rh R S) (mxC 122 P Q G H label y nρ C O Rh R S) (aF P Q G H O R) (mxB P Q G H label y nρ C O Rh R S) (mxP P Q G H label y nρ C O Rh R S T) (mixC P Q G y C O Rh) (mxE P Q G H label y nρ C O Rh R S T) (mxK P Q G H label y nρ C O Rh R S T D) (mxZ P Q G H label y nρ C O Rh R S T D) w M.n1 M.n8 h4 hr hy hlb hll hcT hcD hC hO hρ hR hS hT hD hm hd hor rfl rfl rfl rfl rfl rfl rfl rfl (congrArg (fun z => fun j => imI P Q (mxS P Q G H label y nρ C O Rh R S T j) D z) hsz.symm) rfl (M.clm _ uY.1 uZ.1) (M.prov _ uY.1 uZ.1 e4)
end
section
open Go.RowKit
theorem zbR {n : Nat} {X : NI} : sameB n X n X = true := by unfold sameB; simp
theorem zd9 (ba1 : OA) (na ca1 : Nat) (ba2 : OA) (ca2 : Nat) (Xa : NI) (bb1 : OA) (nb cb1 : Nat) (bb2 : OA) (cb2 : Nat) (Xb : NI) (bp1 : OA) (np cp1 : Nat) (bp2 : OA) (cp2 : Nat) (Xp : NI) (bk1 : OA) (nk ck1 : Nat) (bk2 : OA) (ck2 : Nat) (Xk : NI) (bz1 : OA) (nz cz1 : Nat) (bz2 : OA) (cz2 : Nat) (Xz : NI) (w : World) (ma : na <= 9223372036854775807) (mb : nb <= 9223372036854775807) (mp : np <= 9223372036854775807) (mk : nk <= 9223372036854775807) (mz : nz <= 9223372036854775807) (ha1 : FacsIn w ba1 na Xa) (ha2 : FacsIn w ba2 na Xa) (hb1 : FacsIn w bb1 nb Xb) (hb2 : FacsIn w bb2 nb Xb) (hp1 : FacsIn w bp1 np Xp) (hp2 : FacsIn w bp2 np Xp) (hk1 : FacsIn w bk1 nk Xk) (hk2 : FacsIn w bk2 nk Xk) (hz1 : FacsIn w bz1 nz Xz) (hz2 : FacsIn w bz2 nz Xz) :
  Calls prog 33 #[.agg #[.slice ba1 na ca1, .slice bb1 nb cb1, .slice bp1 np cp1, .slice bk1 nk ck1, .slice bz1 nz cz1], .agg #[.slice ba2 na ca2, .slice bb2 nb cb2, .slice bp2 np cp2, .slice bk2 nk ck2, .slice bz2 nz cz2]] w (Ret w (.bool true)) := by
 have HSa : Hid (∀ wx, Old w wx -> Calls prog 19 #[.slice ba1 na ca1, .slice ba2 na ca2] wx (Ret wx (.bool true))) := fun wx ho => by
  have h := zcd ba1 na ca1 Xa ba2 na ca2 Xa wx ma (ha1.old ho) (ha2.old ho)
  rw [zbR] at h
  exact h
 have HSb : Hid (∀ wx, Old w wx -> Calls prog 19 #[.slice bb1 nb cb1, .slice bb2 nb cb2] wx (Ret wx (.bool true))) := fun wx ho => by
  have h := zcd bb1 nb cb1 Xb bb2 nb cb2 Xb wx mb (hb1.old ho) (hb2.old ho)
  rw [zbR] at h
  exact h
 have HSp : Hid (∀ wx, Old w wx -> Calls prog 19 #[.slice bp1 np cp1, .slice bp2 np cp2] wx (Ret wx (.bool true))) := fun wx ho => by
  have h := zcd bp1 np cp1 Xp bp2 np cp2 Xp wx mp (hp1.old ho) (hp2.old ho)
  rw [zbR] at h
  exact h
 have HSz : Hid (∀ wx, Old w wx -> Calls prog 93 #[cv bk1 nk ck1 bz1 nz cz1, cv bk2 nk ck2 bz2 nz cz2] wx (Ret wx (.bool true))) := fun wx ho => by
  have h := rsame7_any bk1 nk ck1 Xk bz1 nz cz1 Xz bk2 nk ck2 Xk bz2 nz cz2 Xz wx mk mz (hk1.old ho) (hz1.old ho) (hk2.old ho) (hz2.old ho)
  rw [zbR, zbR] at h
  exact h
 clear ha1 ha2 hb1 hb2 hp1 hp2 hk1 hk2 hz1 hz2
 have HZ := lain2 w #[.slice ba1 na ca1, .slice bb1 nb cb1, .slice bp1 np cp1, .slice bk1 nk ck1, .slice bz1 nz cz1] #[.slice ba2 na ca2, .slice bb2 nb cb2, .slice bp2 np cp2, .slice bk2 nk ck2, .slice bz2 nz cz2] 57 57
 have HG0 := fun w' ho => (HZ.then (W' := w') ho).row 0 (by simp)
 have HT0 := fun w' ho => (HZ.then (W' := w') ho).row 1 (by simp)
 have HW0 : Hid (Old w ((w.alloc (.cells #[.slice ba1 na ca1, .slice bb1 nb cb1, .slice bp1 np cp1, .slice bk1 nk ck1, .slice bz1 nz cz1] 57)).alloc (.cells #[.slice ba2 na ca2, .slice bb2 nb cb2, .slice bp2 np cp2, .slice bk2 nk ck2, .slice bz2 nz cz2] 57))) := HZ.old
 clear HZ
 go_enter func33, ntmps33
 go_upto_region 1 with fail
 generalize ((w.alloc (.cells #[.slice ba1 na ca1, .slice bb1 nb cb1, .slice bp1 np cp1, .slice bk1 nk ck1, .slice bz1 nz cz1] 57)).alloc (.cells #[.slice ba2 na ca2, .slice bb2 nb cb2, .slice bp2 np cp2, .slice bk2 nk ck2, .slice bz2 nz cz2] 57)) = W at *
 have HG : ∀ wx, Old W wx -> wx.heap[w.heap.size]? = some (.cells #[.slice ba1 na ca1, .slice bb1 nb cb1, .slice bp1 np cp1, .slice bk1 nk ck1, .slice bz1 nz cz1] 57 (0, 0)) := HG0
 have HT : ∀ wx, Old W wx -> wx.heap[w.heap.size + 1]? = some (.cells #[.slice ba2 na ca2, .slice bb2 nb cb2, .slice bp2 np cp2, .slice bk2 nk ck2, .slice bz2 nz cz2] 57 (0, 0)) := HT0
 clear HG0 HT0
 generalize w.heap.size = gb at *
 have HC : Hid (∀ wx, Old W wx -> wx.cell? ⟨gb, 0, none⟩ = some (.slice ba1 na ca1) /\ wx.cell? ⟨gb + 1, 0, none⟩ = some (.slice ba2 na ca2) /\ wx.cell? ⟨gb, 1, none⟩ = some (.slice bb1 nb cb1) /\ wx.cell? ⟨gb + 1, 1, none⟩ = some (.slice bb2 nb cb2) /\ wx.cell? ⟨gb, 2, none⟩ = some (.slice bp1 np cp1) /\ wx.cell? ⟨gb + 1, 2, none⟩ = some (.slice bp2 np cp2) /\ wx.cell? ⟨gb, 3, none⟩ = some (.slice bk1 nk ck1) /\ wx.cell? ⟨gb + 1, 3, none⟩ = some (.slice bk2 nk ck2) /\ wx.cell? ⟨gb, 4, none⟩ = some (.slice bz1 nz cz1) /\ wx.cell? ⟨gb + 1, 4, none⟩ = some (.slice bz2 nz cz2)) := fun wx ho => ⟨Y0 (HG _ ho), Y0 (HT _ ho), Y1 (HG _ ho), Y1 (HT _ ho), Y2 (HG _ ho), Y2 (HT _ ho), Y3 (HG _ ho), Y3 (HT _ ho), Y4 (HG _ ho), Y4 (HT _ ho)⟩
 clear HG HT
 obtain ⟨q0, q1, q2, q3, q4, q5, q6, q7, q8, q9⟩ := HC.out _ (Old.refl _)
 go_wp2_with (first
  | (have hg := o3; go_at_call 93; refine (HSz.out _ (((HW0.out.trans o1).trans o2).trans o3)).mono ?_; rintro e w4 ⟨rfl, o4⟩)
  | (have hg := o2; go_at_call 19; refine (HSp.out _ ((HW0.out.trans o1).trans o2)).mono ?_; rintro e w3 ⟨rfl, o3⟩; clear q0 q1 q2 q3 q4 q5 q6 q7 q8 q9 hg; obtain ⟨q0, q1, q2, q3, q4, q5, q6, q7, q8, q9⟩ := HC.out _ ((o1.trans o2).trans o3))
  | (have hg := o1; go_at_call 19; refine (HSb.out _ (HW0.out.trans o1)).mono ?_; rintro e w2 ⟨rfl, o2⟩; clear q0 q1 q2 q3 q4 q5 q6 q7 q8 q9 hg; obtain ⟨q0, q1, q2, q3, q4, q5, q6, q7, q8, q9⟩ := HC.out _ (o1.trans o2))
  | (go_at_call 19; refine (HSa.out _ HW0.out).mono ?_; rintro e w1 ⟨rfl, o1⟩; clear q0 q1 q2 q3 q4 q5 q6 q7 q8 q9; obtain ⟨q0, q1, q2, q3, q4, q5, q6, q7, q8, q9⟩ := HC.out _ o1))
 go_ret
 exact ⟨rfl, (((HW0.out.trans o1).trans o2).trans o3).trans o4⟩
end
section
open Go Go.RowKit
theorem GivS.any {w w' : World} {ok : Bool} {n nt nz : Nat} {M : NN} {A B Pp K Z : NI} {r : Ending} (h : GivS w ok n M A B Pp nt K nz Z r w') (hA : ∀ i, U64 (A i)) (hB : ∀ i, U64 (B i)) (hP : ∀ i, U64 (Pp i)) (hK : ∀ i, U64 (K i)) (hZ : ∀ i, U64 (Z i)) :
  ∃ bm cm ba ca bb cb bp cp bk ck bz cz, r = .returned (.tuple #[.slice bm (if ok then n else 0) cm, .agg #[.slice ba (if ok then n else 0) ca, .slice bb (if ok then n else 0) cb, .slice bp (if ok then n else 0) cp, .slice bk (if ok then nt else 0) ck, .slice bz (if ok then nz else 0) cz], .bool ok]) /\ Old w w' /\ BoxF w' bm (if ok then n else 0) M /\ (((if ok then n else 0) <= ca /\ ca <= 9223372036854775807) /\ FacsIn w' ba (if ok then n else 0) A) /\ (((if ok then n else 0) <= cb /\ cb <= 9223372036854775807) /\ FacsIn w' bb (if ok then n else 0) B) /\ FacsIn w' bp (if ok then n else 0) Pp /\ FacsIn w' bk (if ok then nt else 0) K /\ FacsIn w' bz (if ok then nz else 0) Z := by
 obtain ⟨ho, bm, cm, va, vb, vp, vk, vz, rfl, hm, h1, h2, h3, h4, h5⟩ := h
 obtain ⟨ba, ca, rfl, a1, a2, a3⟩ := h1.facs2 fun i _ => hA i
 obtain ⟨bb, cb, rfl, b1, b2, b3⟩ := h2.facs2 fun i _ => hB i
 obtain ⟨bp, cp, rfl, _, _, p3⟩ := h3.facs2 fun i _ => hP i
 obtain ⟨bk, ck, rfl, _, _, k3⟩ := h4.facs2 fun i _ => hK i
 obtain ⟨bz, cz, rfl, _, _, z3⟩ := h5.facs2 fun i _ => hZ i
 exact ⟨bm, cm, ba, ca, bb, cb, bp, cp, bk, ck, bz, cz, rfl, ho, hm, ⟨⟨a1, a2⟩, a3⟩, ⟨⟨b1, b2⟩, b3⟩, p3, k3, z3⟩
theorem law8_proves (P Q G H : Int) (a : OA) (m cap : Nat) (N A : NI) (FA : Nat -> Option Addr) (RL RC : Nat -> Nat) (RF : NN) (label : List Int) (y : Int) (bi : OA) (l ci : Nat) (C : NN) (bo : OA) (no co : Nat) (O : NI) (bρ : OA) (nρ cρ : Nat) (Rh : NN) (bR : OA) (nR cR : Nat) (R : NI) (bS : OA) (nS cS : Nat) (S : NI) (bT : OA) (nT cT : Nat) (T : NI) (bD : OA) (nD cD : Nat) (D : NI) (w : World) (h4 : Four P Q G H) (_hcap : m <= cap) (hin : RowsIn w a m N A FA RL RC RF) (hlb : Bts label) (hy : U64 y) (hC : BoxsIn w bi l C) (hO : IntsIn w bo no O) (hρ : RhoIn w bρ nρ Rh) (hR : FacsIn w bR nR R) (hS : FacsIn w bS nS S) (hcT : nT <= cT /\ cT <= 9223372036854775807) (hT : FacsIn w bT nT T) (hcD : nD <= cD /\ cD <= 9223372036854775807) (hD : FacsIn w bD nD D) :
  Calls prog 6 #[gv P Q G H a m cap, jv label y bi l ci bo no co bρ nρ cρ bR nR cR bS nS cS bT nT cT bD nD cD] w (Ret w (.bool true)) := by
 have HA : Hid (∀ wx, Calls prog 12 #[] wx (Ret wx (.bool true))) := fun wx => awake8_any wx
 have HU := hid fun wx (ho : Old w wx) => group5_any P Q G H a m cap N A FA RL RC RF wx h4 (hin.old ho)
 have HL : Hid (∀ wx, Calls prog 14 #[jv label y bi l ci bo no co bρ nρ cρ bR nR cR bS nS cS bT nT cT bD nD cD] wx (Ret wx (.bool (fewJ label.length l no nρ nR nS nT nD)))) := fun wx => few8_any label y bi l ci bo no co bρ nρ cρ bR nR cR bS nS cS bT nT cT bD nD cD wx
 have ha := hin.a0
 have HZ := lain2 w (gc P Q G H a m cap) (jvc label y bi l ci bo no co bρ nρ cρ bR nR cR bS nS cS bT nT cT bD nD cD) 25 33
 have HG0 := fun w' ho => (HZ.then (W' := w') ho).row 0 (by simp)
 have HJ0 := fun w' ho => (HZ.then (W' := w') ho).row 1 (by simp)
 have HW0 := hid HZ.old
 clear HZ hin
 go_enter func6, ntmps6
 go_upto_region 1 with fail
 generalize ((w.alloc (.cells (gc P Q G H a m cap) 25)).alloc (.cells (jvc label y bi l ci bo no co bρ nρ cρ bR nR cR bS nS cS bT nT cT bD nD cD) 33)) = W at *
 have HG := hid HG0
 have HJ := hid HJ0
 clear HG0 HJ0
 obtain ⟨gb, hgb⟩ : ∃ gb, gb = w.heap.size := ⟨_, rfl⟩
 rw [<- hgb] at HG HJ
 rw [<- hgb]
 clear hgb
 have HGc : Hid (∀ wx, Old W wx -> G5 wx (gb) P Q G H (.slice a m cap)) := fun wx ho => g5 (HG.out _ ho)
 have HJc : Hid (∀ wx, Old W wx -> wx.cell? ⟨gb + 1, 0, none⟩ = some (.string (strOfNums label)) /\ wx.cell? ⟨gb + 1, 1, none⟩ = some (.int .u64 y) /\ wx.cell? ⟨gb + 1, 2, none⟩ = some (.slice bi l ci) /\ wx.cell? ⟨gb + 1, 3, none⟩ = some (.slice bo no co) /\ wx.cell? ⟨gb + 1, 4, none⟩ = some (.slice bρ nρ cρ) /\ wx.cell? ⟨gb + 1, 5, none⟩ = some (.slice bR nR cR) /\ wx.cell? ⟨gb + 1, 6, none⟩ = some (.slice bS nS cS) /\ wx.cell? ⟨gb + 1, 7, none⟩ = some (.slice bT nT cT) /\ wx.cell? ⟨gb + 1, 8, none⟩ = some (.slice bD nD cD)) := fun wx ho => ⟨Y0 (HJ.out _ ho), Y1 (HJ.out _ ho), Y2 (HJ.out _ ho), Y3 (HJ.out _ ho), Y4 (HJ.out _ ho), Y5 (HJ.out _ ho), cell_of_row _ _ 6 _ _ (0, 0) (HJ.out _ ho), cell_of_row _ _ 7 _ _ (0, 0) (HJ.out _ ho), cell_of_row _ _ 8 _ _ (0, 0) (HJ.out _ ho)⟩
 go_upto_region 3 with (go_at_call 12; refine (HA.out _).mono ?_; rintro e w1 ⟨rfl, h1⟩)
 have HO1 := hid h1
 clear h1 HA
 obtain ⟨g0, g1, g2, g3, g4⟩ := HGc.out _ HO1.out
 cases hg : (fewB RL m && zcc P Q G H N A RF RL m)
 ·rw [hg] at HU
  clear hg ha h4 hC hO hρ hR hS hT hD
  go_wp2_with (go_at_call 13; refine (HU.out _ (HW0.out.trans HO1.out)).mono ?_; rintro e w3 ⟨rfl, o3⟩)
  go_ret
  exact ⟨rfl, (HW0.out.trans HO1.out).trans o3⟩
 have hg' := (Bool.and_eq_true_iff.1 hg).2
 have hr := zff ha hg'
 have hh := right_h hg'
 rw [hg] at HU
 clear hg hg' ha
 cases hf : fewJ label.length l no nρ nR nS nT nD
 ·rw [hf] at HL
  clear hf h4 hC hO hρ hR hS hT hD hr
  go_wp2_with (first
   | (go_at_call 13; refine (HU.out _ (HW0.out.trans HO1.out)).mono ?_; rintro e w3 ⟨rfl, o3⟩; obtain ⟨j0, j1, j2, j3, j4, j5, j6, j7, j8⟩ := HJc.out _ (HO1.out.trans o3))
   | (go_at_call 14; refine (HL.out _).mono ?_; rintro e w4 ⟨rfl, o4⟩))
  go_ret
  exact ⟨rfl, ((HW0.out.trans HO1.out).trans o3).trans o4⟩
 rw [hf] at HL
 obtain ⟨⟨hll, ml, mo⟩, mρ, mR, mS, mT, mD⟩ := fewJ_iff.1 hf
 clear hf
 cases hm : (mixB P Q y l C no O nρ && drwB l nR nS nT nD) with
 | false =>
  have hu : (∀ i, U64 (aF P Q G H O R i)) /\ (∀ i, U64 ((mxB P Q G H label y l C O Rh R S) i)) /\ (∀ i, U64 ((mxP P Q G H label y l C O Rh R S T) i)) /\ (∀ i, U64 ((mxK P Q G H label y l C O Rh R S T D) i)) /\ (∀ i, U64 ((mxZ P Q G H label y l C O Rh R S T D) i)) := ⟨fun i => zaQ _ _ _ _ _ _, fun i => zaQ _ _ _ _ _ _, fun i => zb5 _ _ _ _ _ _ _ _ _ _ _ i, fun i => zaL _ _ _, fun i => zeH _ _ _ _⟩
  have hsp := fun wx (ho : Old w wx) => zdy P Q G H a m cap label y bi l ci C bo no co O bρ nρ cρ Rh bR nR cR R bS nS cS S bT nT cT T bD nD cD D wx h4 hr hh hy hlb (by omega) (by omega) (by omega) (by omega) hcT hcD.1 (hC.old ho) (hO.old ho) (hρ.old ho) (hR.old ho) (hS.old ho) (hT.old ho) (hD.old ho)
  have hrp := fun wx (ho : Old w wx) => zeo P Q G H a m cap label y bi l ci C bo no co O bρ nρ cρ Rh bR nR cR R bS nS cS S bT nT cT T bD nD cD D wx h4 hr hh hy hlb (by omega) (by omega) (by omega) (by omega) hcT hcD.1 (hC.old ho) (hO.old ho) (hρ.old ho) (hR.old ho) (hS.old ho) (hT.old ho) (hD.old ho)
  rw [hm] at hsp hrp
  have hl80 : l <= 80 := by omega
  clear hm h4 hC hO hρ hR hS hT hD hr hy hh
  generalize (mixC P Q G y C O Rh) = M at *
  generalize (aF P Q G H O R) = A8 at *
  generalize (mxB P Q G H label y l C O Rh R S) = B8 at *
  generalize (mxP P Q G H label y l C O Rh R S T) = P8 at *
  generalize (mxK P Q G H label y l C O Rh R S T D) = K8 at *
  generalize (mxZ P Q G H label y l C O Rh R S T D) = Z8 at *
  have HSp := hid fun wx (ho : Old w wx) => (hsp wx ho).mono fun e w' h => h.any hu.1 hu.2.1 hu.2.2.1 hu.2.2.2.1 hu.2.2.2.2
  have HRp := hid fun wx (ho : Old w wx) => (hrp wx ho).mono fun e w' h => h.any hu.1 hu.2.1 hu.2.2.1 hu.2.2.2.1 hu.2.2.2.2
  have HSa : Hid (∀ wx b c b' c', BoxF wx b 0 M -> BoxF wx b' 0 M -> Calls prog 17 #[.slice b 0 c, .slice b' 0 c'] wx (Ret wx (.bool true))) := fun wx b c b' c' h1 h2 => by
   have h := zeY b 0 c M b' 0 c' M wx (by omega) h1.boxs h2.boxs
   rw [zdb.2 ⟨rfl, fun _ _ _ _ => rfl⟩] at h
   exact h
  clear hsp hrp hu hcT hcD
  go_upto_region 5 with (first
   | (go_at_call 13; refine (HU.out _ (HW0.out.trans HO1.out)).mono ?_; rintro e w3 ⟨rfl, o3⟩; obtain ⟨j0, j1, j2, j3, j4, j5, j6, j7, j8⟩ := HJc.out _ (HO1.out.trans o3))
   | (go_at_call 14; refine (HL.out _).mono ?_; rintro e w4 ⟨rfl, o4⟩))
  have HO4 := hid ((HO1.out.trans o3).trans o4)
  clear o3 o4 HU HL HO1 g0 g1 g2 g3 g4 j0 j1 j2 j3 j4 j5 j6 j7 j8
  obtain ⟨g0, g1, g2, g3, g4⟩ := HGc.out _ HO4.out
  obtain ⟨j0, j1, j2, j3, j4, j5, j6, j7, j8⟩ := HJc.out _ HO4.out
  go_upto_region 6 with (go_at_call 31; refine (HSp.out _ (HW0.out.trans HO4.out)).mono ?_; rintro e w5 ⟨bm, cm, ba, ca, bb, cb, bp, cp, bk, ck, bz, cz, rfl, o5, hbm, hfa, hfb, hfp, hfk, hfz⟩)
  clear g0 g1 g2 g3 g4 j0 j1 j2 j3 j4 j5 j6 j7 j8 HSp
  have HO56 : Hid (Old w5 (w5.alloc (.cells #[.slice ba 0 ca, .slice bb 0 cb, .slice bp 0 cp, .slice bk 0 ck, .slice bz 0 cz] 57))) := (Old.refl _).alloc _
  have HO6 := hid ((HO4.out.trans o5).trans HO56.out)
  have HR6 : Hid ((w5.alloc (.cells #[.slice ba 0 ca, .slice bb 0 cb, .slice bp 0 cp, .slice bk 0 ck, .slice bz 0 cz] 57)).heap[w5.heap.size]? = some (.cells #[.slice ba 0 ca, .slice bb 0 cb, .slice bp 0 cp, .slice bk 0 ck, .slice bz 0 cz] 57 (0, 0))) := heap_alloc_last _ _
  have HF6 : Hid (BoxF (w5.alloc (.cells #[.slice ba 0 ca, .slice bb 0 cb, .slice bp 0 cp, .slice bk 0 ck, .slice bz 0 cz] 57)) bm 0 M /\ FacsIn (w5.alloc (.cells #[.slice ba 0 ca, .slice bb 0 cb, .slice bp 0 cp, .slice bk 0 ck, .slice bz 0 cz] 57)) ba 0 A8 /\ FacsIn (w5.alloc (.cells #[.slice ba 0 ca, .slice bb 0 cb, .slice bp 0 cp, .slice bk 0 ck, .slice bz 0 cz] 57)) bb 0 B8 /\ FacsIn (w5.alloc (.cells #[.slice ba 0 ca, .slice bb 0 cb, .slice bp 0 cp, .slice bk 0 ck, .slice bz 0 cz] 57)) bp 0 P8 /\ FacsIn (w5.alloc (.cells #[.slice ba 0 ca, .slice bb 0 cb, .slice bp 0 cp, .slice bk 0 ck, .slice bz 0 cz] 57)) bk 0 K8 /\ FacsIn (w5.alloc (.cells #[.slice ba 0 ca, .slice bb 0 cb, .slice bp 0 cp, .slice bk 0 ck, .slice bz 0 cz] 57)) bz 0 Z8) := ⟨hbm.old HO56.out, hfa.2.old HO56.out, hfb.2.old HO56.out, hfp.old HO56.out, hfk.old HO56.out, hfz.old HO56.out⟩
  have HQ6 : Hid ((0 <= ca /\ ca <= 9223372036854775807) /\ (0 <= cb /\ cb <= 9223372036854775807)) := ⟨hfa.1, hfb.1⟩
  clear o5 hbm hfa hfb hfp hfk hfz HO56
  generalize w5.alloc (.cells #[.slice ba 0 ca, .slice bb 0 cb, .slice bp 0 cp, .slice bk 0 ck, .slice bz 0 cz] 57) = w6 at *
  generalize w5.heap.size = sb1 at *
  obtain ⟨g0, g1, g2, g3, g4⟩ := HGc.out _ HO6.out
  obtain ⟨j0, j1, j2, j3, j4, j5, j6, j7, j8⟩ := HJc.out _ HO6.out
  go_upto_region 7 with (go_at_call 32; refine (HRp.out _ (HW0.out.trans HO6.out)).mono ?_; rintro e w7 ⟨bm', cm', ba', ca', bb', cb', bp', cp', bk', ck', bz', cz', rfl, o7, hbm, hfa, hfb, hfp, hfk, hfz⟩)
  clear g0 g1 g2 g3 g4 j0 j1 j2 j3 j4 j5 j6 j7 j8 HRp
  have HO78 : Hid (Old w7 (w7.alloc (.cells #[.slice ba' 0 ca', .slice bb' 0 cb', .slice bp' 0 cp', .slice bk' 0 ck', .slice bz' 0 cz'] 57))) := (Old.refl _).alloc _
  have HO68 := hid (o7.trans HO78.out)
  have HR8 : Hid ((w7.alloc (.cells #[.slice ba' 0 ca', .slice bb' 0 cb', .slice bp' 0 cp', .slice bk' 0 ck', .slice bz' 0 cz'] 57)).heap[w7.heap.size]? = some (.cells #[.slice ba' 0 ca', .slice bb' 0 cb', .slice bp' 0 cp', .slice bk' 0 ck', .slice bz' 0 cz'] 57 (0, 0))) := heap_alloc_last _ _
  have HF8 : Hid (BoxF (w7.alloc (.cells #[.slice ba' 0 ca', .slice bb' 0 cb', .slice bp' 0 cp', .slice bk' 0 ck', .slice bz' 0 cz'] 57)) bm' 0 M /\ FacsIn (w7.alloc (.cells #[.slice ba' 0 ca', .slice bb' 0 cb', .slice bp' 0 cp', .slice bk' 0 ck', .slice bz' 0 cz'] 57)) ba' 0 A8 /\ FacsIn (w7.alloc (.cells #[.slice ba' 0 ca', .slice bb' 0 cb', .slice bp' 0 cp', .slice bk' 0 ck', .slice bz' 0 cz'] 57)) bb' 0 B8 /\ FacsIn (w7.alloc (.cells #[.slice ba' 0 ca', .slice bb' 0 cb', .slice bp' 0 cp', .slice bk' 0 ck', .slice bz' 0 cz'] 57)) bp' 0 P8 /\ FacsIn (w7.alloc (.cells #[.slice ba' 0 ca', .slice bb' 0 cb', .slice bp' 0 cp', .slice bk' 0 ck', .slice bz' 0 cz'] 57)) bk' 0 K8 /\ FacsIn (w7.alloc (.cells #[.slice ba' 0 ca', .slice bb' 0 cb', .slice bp' 0 cp', .slice bk' 0 ck', .slice bz' 0 cz'] 57)) bz' 0 Z8) := ⟨hbm.old HO78.out, hfa.2.old HO78.out, hfb.2.old HO78.out, hfp.old HO78.out, hfk.old HO78.out, hfz.old HO78.out⟩
  clear o7 hbm hfa hfb hfp hfk hfz HO78
  generalize w7.alloc (.cells #[.slice ba' 0 ca', .slice bb' 0 cb', .slice bp' 0 cp', .slice bk' 0 ck', .slice bz' 0 cz'] 57) = w8 at *
  generalize w7.heap.size = sb2 at *
  have HSs := hid fun wx (ho : Old w8 wx) => HSa.out wx bm cm bm' cm' ((HF6.out.1.old HO68.out).old ho) (HF8.out.1.old ho)
  have HAl : Hid (∀ wx, Old w8 wx -> Calls prog 33 #[.agg #[.slice ba 0 ca, .slice bb 0 cb, .slice bp 0 cp, .slice bk 0 ck, .slice bz 0 cz], .agg #[.slice ba' 0 ca', .slice bb' 0 cb', .slice bp' 0 cp', .slice bk' 0 ck', .slice bz' 0 cz']] wx (Ret wx (.bool true))) := fun wx ho => by
   obtain ⟨_, a1, b1, p1, k1, z1⟩ := HF6.out
   obtain ⟨_, a2, b2, p2, k2, z2⟩ := HF8.out
   have ho6 := HO68.out.trans ho
   exact zd9 ba 0 ca ba' ca' A8 bb 0 cb bb' cb' B8 bp 0 cp bp' cp' P8 bk 0 ck bk' ck' K8 bz 0 cz bz' cz' Z8 wx (by omega) (by omega) (by omega) (by omega) (by omega) (a1.old ho6) (a2.old ho) (b1.old ho6) (b2.old ho) (p1.old ho6) (p2.old ho) (k1.old ho6) (k2.old ho) (z1.old ho6) (z2.old ho)
  have HS1 : Hid (∀ wx, Old w8 wx -> wx.cell? ⟨sb1, 0, none⟩ = some (.slice ba 0 ca) /\ wx.cell? ⟨sb1, 1, none⟩ = some (.slice bb 0 cb) /\ wx.cell? ⟨sb1, 2, none⟩ = some (.slice bp 0 cp) /\ wx.cell? ⟨sb1, 3, none⟩ = some (.slice bk 0 ck) /\ wx.cell? ⟨sb1, 4, none⟩ = some (.slice bz 0 cz)) := fun wx ho => by
   have h := (ho.block _ (zag ((HO68.out.block _ (zag HR6.out)).trans HR6.out))).trans ((HO68.out.block _ (zag HR6.out)).trans HR6.out)
   exact g5 h
  have HS2 : Hid (∀ wx, Old w8 wx -> wx.cell? ⟨sb2, 0, none⟩ = some (.slice ba' 0 ca') /\ wx.cell? ⟨sb2, 1, none⟩ = some (.slice bb' 0 cb') /\ wx.cell? ⟨sb2, 2, none⟩ = some (.slice bp' 0 cp') /\ wx.cell? ⟨sb2, 3, none⟩ = some (.slice bk' 0 ck') /\ wx.cell? ⟨sb2, 4, none⟩ = some (.slice bz' 0 cz')) := fun wx ho => by
   have h := (ho.block _ (zag HR8.out)).trans HR8.out
   exact g5 h
  clear HSa
  go_upto_region 9 with (first
   | (go_at_call 17; refine (HSs.out _ (Old.refl _)).mono ?_; rintro e w9 ⟨rfl, o9⟩; obtain ⟨s0, s1, s2, s3, s4⟩ := HS1.out _ o9; obtain ⟨t0, t1, t2, t3, t4⟩ := HS2.out _ o9)
   | (go_at_call 33; refine (HAl.out _ o9).mono ?_; rintro e wa ⟨rfl, oa⟩))
  clear s0 s1 s2 s3 s4 t0 t1 t2 t3 t4 HSs HAl HS2
  have HO8a := hid (o9.trans oa)
  have HOa := hid ((HO6.out.trans HO68.out).trans HO8a.out)
  clear o9 oa
  go_wp2_with fail
  go_ret
  exact ⟨rfl, HW0.out.trans HOa.out⟩
 | true =>
  have hu : (∀ i, U64 (aF P Q G H O R i)) /\ (∀ i, U64 ((mxB P Q G H label y l C O Rh R S) i)) /\ (∀ i, U64 ((mxP P Q G H label y l C O Rh R S T) i)) /\ (∀ i, U64 ((mxK P Q G H label y l C O Rh R S T D) i)) /\ (∀ i, U64 ((mxZ P Q G H label y l C O Rh R S T D) i)) := ⟨fun i => zaQ _ _ _ _ _ _, fun i => zaQ _ _ _ _ _ _, fun i => zb5 _ _ _ _ _ _ _ _ _ _ _ i, fun i => zaL _ _ _, fun i => zeH _ _ _ _⟩
  have hsp := fun wx (ho : Old w wx) => zdy P Q G H a m cap label y bi l ci C bo no co O bρ nρ cρ Rh bR nR cR R bS nS cS S bT nT cT T bD nD cD D wx h4 hr hh hy hlb (by omega) (by omega) (by omega) (by omega) hcT hcD.1 (hC.old ho) (hO.old ho) (hρ.old ho) (hR.old ho) (hS.old ho) (hT.old ho) (hD.old ho)
  have hrp := fun wx (ho : Old w wx) => zeo P Q G H a m cap label y bi l ci C bo no co O bρ nρ cρ Rh bR nR cR R bS nS cS S bT nT cT T bD nD cD D wx h4 hr hh hy hlb (by omega) (by omega) (by omega) (by omega) hcT hcD.1 (hC.old ho) (hO.old ho) (hρ.old ho) (hR.old ho) (hS.old ho) (hT.old ho) (hD.old ho)
  rw [hm] at hsp hrp
  have HAcc : Hid (∀ wx bm cm ba ca bb cb bp cp bk ck bz cz, Old w wx -> BoxsIn wx bm l (mixC P Q G y C O Rh) -> (l <= ca /\ ca <= 9223372036854775807) -> (l <= cb /\ cb <= 9223372036854775807) -> FacsIn wx ba l (aF P Q G H O R) -> FacsIn wx bb l (mxB P Q G H label y l C O Rh R S) -> FacsIn wx bp l (mxP P Q G H label y l C O Rh R S T) -> FacsIn wx bk (4 * l + 6) (mxK P Q G H label y l C O Rh R S T D) -> FacsIn wx bz (7 * l + 3) (mxZ P Q G H label y l C O Rh R S T D) -> Calls prog 34 #[gv P Q G H a m cap, .string (strOfNums label), .int .u64 y, .slice bi l ci, .slice bm l cm, .agg #[.slice ba l ca, .slice bb l cb, .slice bp l cp, .slice bk (4 * l + 6) ck, .slice bz (7 * l + 3) cz]] wx (Ret wx (.bool true))) := fun wx bm cm ba ca bb cb bp cp bk ck bz cz ho hb qa qb h1 h2 h3 hk hz => by
   obtain ⟨hmx, hdr⟩ := Bool.and_eq_true_iff.1 hm
   obtain ⟨e1, e2, e3, e4⟩ := zb4.1 hdr
   obtain ⟨f1, f2, f3, f4, f5⟩ := zdO.1 hmx
   have h8 : l <= 8 := (zaM.1 f1).1.2
   subst e1 e2 e3
   have M8 := mix8_of hr hh hmx hρ hR hS hT
   have h := zd4 P Q G H a m cap label y bi nT ci C bm nT cm (mixC P Q G y C O Rh) ba nT ca (aF P Q G H O R) bb nT cb (mxB P Q G H label y nT C O Rh R S) bp nT cp (mxP P Q G H label y nT C O Rh R S T) bk (4 * nT + 6) ck (mxK P Q G H label y nT C O Rh R S T D) bz (7 * nT + 3) cz (mxZ P Q G H label y nT C O Rh R S T D) wx
   have h := h h4 hr hy hlb (by omega) (by omega) qa qb (by omega) (hC.old ho) hb h1 h2 h3 hk hz
   rwa [M8.accG label (fun k hk => (hD.u64 k (by omega)).1)] at h
  have hl80 : l <= 80 := by omega
  clear hm h4 hC hO hρ hR hS hT hD hr hy hh
  generalize (mixC P Q G y C O Rh) = M at *
  generalize (aF P Q G H O R) = A8 at *
  generalize (mxB P Q G H label y l C O Rh R S) = B8 at *
  generalize (mxP P Q G H label y l C O Rh R S T) = P8 at *
  generalize (mxK P Q G H label y l C O Rh R S T D) = K8 at *
  generalize (mxZ P Q G H label y l C O Rh R S T D) = Z8 at *
  have HSp := hid fun wx (ho : Old w wx) => (hsp wx ho).mono fun e w' h => h.any hu.1 hu.2.1 hu.2.2.1 hu.2.2.2.1 hu.2.2.2.2
  have HRp := hid fun wx (ho : Old w wx) => (hrp wx ho).mono fun e w' h => h.any hu.1 hu.2.1 hu.2.2.1 hu.2.2.2.1 hu.2.2.2.2
  have HSa : Hid (∀ wx b c b' c', BoxF wx b l M -> BoxF wx b' l M -> Calls prog 17 #[.slice b l c, .slice b' l c'] wx (Ret wx (.bool true))) := fun wx b c b' c' h1 h2 => by
   have h := zeY b l c M b' l c' M wx (by omega) h1.boxs h2.boxs
   rw [zdb.2 ⟨rfl, fun _ _ _ _ => rfl⟩] at h
   exact h
  clear hsp hrp hu hcT hcD
  go_upto_region 5 with (first
   | (go_at_call 13; refine (HU.out _ (HW0.out.trans HO1.out)).mono ?_; rintro e w3 ⟨rfl, o3⟩; obtain ⟨j0, j1, j2, j3, j4, j5, j6, j7, j8⟩ := HJc.out _ (HO1.out.trans o3))
   | (go_at_call 14; refine (HL.out _).mono ?_; rintro e w4 ⟨rfl, o4⟩))
  have HO4 := hid ((HO1.out.trans o3).trans o4)
  clear o3 o4 HU HL HO1 g0 g1 g2 g3 g4 j0 j1 j2 j3 j4 j5 j6 j7 j8
  obtain ⟨g0, g1, g2, g3, g4⟩ := HGc.out _ HO4.out
  obtain ⟨j0, j1, j2, j3, j4, j5, j6, j7, j8⟩ := HJc.out _ HO4.out
  go_upto_region 6 with (go_at_call 31; refine (HSp.out _ (HW0.out.trans HO4.out)).mono ?_; rintro e w5 ⟨bm, cm, ba, ca, bb, cb, bp, cp, bk, ck, bz, cz, rfl, o5, hbm, hfa, hfb, hfp, hfk, hfz⟩)
  clear g0 g1 g2 g3 g4 j0 j1 j2 j3 j4 j5 j6 j7 j8 HSp
  have HO56 : Hid (Old w5 (w5.alloc (.cells #[.slice ba l ca, .slice bb l cb, .slice bp l cp, .slice bk (4 * l + 6) ck, .slice bz (7 * l + 3) cz] 57))) := (Old.refl _).alloc _
  have HO6 := hid ((HO4.out.trans o5).trans HO56.out)
  have HR6 : Hid ((w5.alloc (.cells #[.slice ba l ca, .slice bb l cb, .slice bp l cp, .slice bk (4 * l + 6) ck, .slice bz (7 * l + 3) cz] 57)).heap[w5.heap.size]? = some (.cells #[.slice ba l ca, .slice bb l cb, .slice bp l cp, .slice bk (4 * l + 6) ck, .slice bz (7 * l + 3) cz] 57 (0, 0))) := heap_alloc_last _ _
  have HF6 : Hid (BoxF (w5.alloc (.cells #[.slice ba l ca, .slice bb l cb, .slice bp l cp, .slice bk (4 * l + 6) ck, .slice bz (7 * l + 3) cz] 57)) bm l M /\ FacsIn (w5.alloc (.cells #[.slice ba l ca, .slice bb l cb, .slice bp l cp, .slice bk (4 * l + 6) ck, .slice bz (7 * l + 3) cz] 57)) ba l A8 /\ FacsIn (w5.alloc (.cells #[.slice ba l ca, .slice bb l cb, .slice bp l cp, .slice bk (4 * l + 6) ck, .slice bz (7 * l + 3) cz] 57)) bb l B8 /\ FacsIn (w5.alloc (.cells #[.slice ba l ca, .slice bb l cb, .slice bp l cp, .slice bk (4 * l + 6) ck, .slice bz (7 * l + 3) cz] 57)) bp l P8 /\ FacsIn (w5.alloc (.cells #[.slice ba l ca, .slice bb l cb, .slice bp l cp, .slice bk (4 * l + 6) ck, .slice bz (7 * l + 3) cz] 57)) bk (4 * l + 6) K8 /\ FacsIn (w5.alloc (.cells #[.slice ba l ca, .slice bb l cb, .slice bp l cp, .slice bk (4 * l + 6) ck, .slice bz (7 * l + 3) cz] 57)) bz (7 * l + 3) Z8) := ⟨hbm.old HO56.out, hfa.2.old HO56.out, hfb.2.old HO56.out, hfp.old HO56.out, hfk.old HO56.out, hfz.old HO56.out⟩
  have HQ6 : Hid ((l <= ca /\ ca <= 9223372036854775807) /\ (l <= cb /\ cb <= 9223372036854775807)) := ⟨hfa.1, hfb.1⟩
  clear o5 hbm hfa hfb hfp hfk hfz HO56
  generalize w5.alloc (.cells #[.slice ba l ca, .slice bb l cb, .slice bp l cp, .slice bk (4 * l + 6) ck, .slice bz (7 * l + 3) cz] 57) = w6 at *
  generalize w5.heap.size = sb1 at *
  obtain ⟨g0, g1, g2, g3, g4⟩ := HGc.out _ HO6.out
  obtain ⟨j0, j1, j2, j3, j4, j5, j6, j7, j8⟩ := HJc.out _ HO6.out
  go_upto_region 7 with (go_at_call 32; refine (HRp.out _ (HW0.out.trans HO6.out)).mono ?_; rintro e w7 ⟨bm', cm', ba', ca', bb', cb', bp', cp', bk', ck', bz', cz', rfl, o7, hbm, hfa, hfb, hfp, hfk, hfz⟩)
  clear g0 g1 g2 g3 g4 j0 j1 j2 j3 j4 j5 j6 j7 j8 HRp
  have HO78 : Hid (Old w7 (w7.alloc (.cells #[.slice ba' l ca', .slice bb' l cb', .slice bp' l cp', .slice bk' (4 * l + 6) ck', .slice bz' (7 * l + 3) cz'] 57))) := (Old.refl _).alloc _
  have HO68 := hid (o7.trans HO78.out)
  have HR8 : Hid ((w7.alloc (.cells #[.slice ba' l ca', .slice bb' l cb', .slice bp' l cp', .slice bk' (4 * l + 6) ck', .slice bz' (7 * l + 3) cz'] 57)).heap[w7.heap.size]? = some (.cells #[.slice ba' l ca', .slice bb' l cb', .slice bp' l cp', .slice bk' (4 * l + 6) ck', .slice bz' (7 * l + 3) cz'] 57 (0, 0))) := heap_alloc_last _ _
  have HF8 : Hid (BoxF (w7.alloc (.cells #[.slice ba' l ca', .slice bb' l cb', .slice bp' l cp', .slice bk' (4 * l + 6) ck', .slice bz' (7 * l + 3) cz'] 57)) bm' l M /\ FacsIn (w7.alloc (.cells #[.slice ba' l ca', .slice bb' l cb', .slice bp' l cp', .slice bk' (4 * l + 6) ck', .slice bz' (7 * l + 3) cz'] 57)) ba' l A8 /\ FacsIn (w7.alloc (.cells #[.slice ba' l ca', .slice bb' l cb', .slice bp' l cp', .slice bk' (4 * l + 6) ck', .slice bz' (7 * l + 3) cz'] 57)) bb' l B8 /\ FacsIn (w7.alloc (.cells #[.slice ba' l ca', .slice bb' l cb', .slice bp' l cp', .slice bk' (4 * l + 6) ck', .slice bz' (7 * l + 3) cz'] 57)) bp' l P8 /\ FacsIn (w7.alloc (.cells #[.slice ba' l ca', .slice bb' l cb', .slice bp' l cp', .slice bk' (4 * l + 6) ck', .slice bz' (7 * l + 3) cz'] 57)) bk' (4 * l + 6) K8 /\ FacsIn (w7.alloc (.cells #[.slice ba' l ca', .slice bb' l cb', .slice bp' l cp', .slice bk' (4 * l + 6) ck', .slice bz' (7 * l + 3) cz'] 57)) bz' (7 * l + 3) Z8) := ⟨hbm.old HO78.out, hfa.2.old HO78.out, hfb.2.old HO78.out, hfp.old HO78.out, hfk.old HO78.out, hfz.old HO78.out⟩
  clear o7 hbm hfa hfb hfp hfk hfz HO78
  generalize w7.alloc (.cells #[.slice ba' l ca', .slice bb' l cb', .slice bp' l cp', .slice bk' (4 * l + 6) ck', .slice bz' (7 * l + 3) cz'] 57) = w8 at *
  generalize w7.heap.size = sb2 at *
  have HSs := hid fun wx (ho : Old w8 wx) => HSa.out wx bm cm bm' cm' ((HF6.out.1.old HO68.out).old ho) (HF8.out.1.old ho)
  have HAl : Hid (∀ wx, Old w8 wx -> Calls prog 33 #[.agg #[.slice ba l ca, .slice bb l cb, .slice bp l cp, .slice bk (4 * l + 6) ck, .slice bz (7 * l + 3) cz], .agg #[.slice ba' l ca', .slice bb' l cb', .slice bp' l cp', .slice bk' (4 * l + 6) ck', .slice bz' (7 * l + 3) cz']] wx (Ret wx (.bool true))) := fun wx ho => by
   obtain ⟨_, a1, b1, p1, k1, z1⟩ := HF6.out
   obtain ⟨_, a2, b2, p2, k2, z2⟩ := HF8.out
   have ho6 := HO68.out.trans ho
   exact zd9 ba l ca ba' ca' A8 bb l cb bb' cb' B8 bp l cp bp' cp' P8 bk (4 * l + 6) ck bk' ck' K8 bz (7 * l + 3) cz bz' cz' Z8 wx (by omega) (by omega) (by omega) (by omega) (by omega) (a1.old ho6) (a2.old ho) (b1.old ho6) (b2.old ho) (p1.old ho6) (p2.old ho) (k1.old ho6) (k2.old ho) (z1.old ho6) (z2.old ho)
  have HS1 : Hid (∀ wx, Old w8 wx -> wx.cell? ⟨sb1, 0, none⟩ = some (.slice ba l ca) /\ wx.cell? ⟨sb1, 1, none⟩ = some (.slice bb l cb) /\ wx.cell? ⟨sb1, 2, none⟩ = some (.slice bp l cp) /\ wx.cell? ⟨sb1, 3, none⟩ = some (.slice bk (4 * l + 6) ck) /\ wx.cell? ⟨sb1, 4, none⟩ = some (.slice bz (7 * l + 3) cz)) := fun wx ho => by
   have h := (ho.block _ (zag ((HO68.out.block _ (zag HR6.out)).trans HR6.out))).trans ((HO68.out.block _ (zag HR6.out)).trans HR6.out)
   exact g5 h
  have HS2 : Hid (∀ wx, Old w8 wx -> wx.cell? ⟨sb2, 0, none⟩ = some (.slice ba' l ca') /\ wx.cell? ⟨sb2, 1, none⟩ = some (.slice bb' l cb') /\ wx.cell? ⟨sb2, 2, none⟩ = some (.slice bp' l cp') /\ wx.cell? ⟨sb2, 3, none⟩ = some (.slice bk' (4 * l + 6) ck') /\ wx.cell? ⟨sb2, 4, none⟩ = some (.slice bz' (7 * l + 3) cz')) := fun wx ho => by
   have h := (ho.block _ (zag HR8.out)).trans HR8.out
   exact g5 h
  clear HSa
  go_upto_region 9 with (first
   | (go_at_call 17; refine (HSs.out _ (Old.refl _)).mono ?_; rintro e w9 ⟨rfl, o9⟩; obtain ⟨s0, s1, s2, s3, s4⟩ := HS1.out _ o9; obtain ⟨t0, t1, t2, t3, t4⟩ := HS2.out _ o9)
   | (go_at_call 33; refine (HAl.out _ o9).mono ?_; rintro e wa ⟨rfl, oa⟩))
  clear s0 s1 s2 s3 s4 t0 t1 t2 t3 t4 HSs HAl HS2
  have HO8a := hid (o9.trans oa)
  have HOa := hid ((HO6.out.trans HO68.out).trans HO8a.out)
  clear o9 oa
  obtain ⟨g0, g1, g2, g3, g4⟩ := HGc.out _ HOa.out
  obtain ⟨j0, j1, j2, j3, j4, j5, j6, j7, j8⟩ := HJc.out _ HOa.out
  obtain ⟨s0, s1, s2, s3, s4⟩ := HS1.out _ HO8a.out
  have HAx : Hid (Calls prog 34 #[gv P Q G H a m cap, .string (strOfNums label), .int .u64 y, .slice bi l ci, .slice bm l cm, .agg #[.slice ba l ca, .slice bb l cb, .slice bp l cp, .slice bk (4 * l + 6) ck, .slice bz (7 * l + 3) cz]] wa (Ret wa (.bool true))) := by
   obtain ⟨m1, a1, b1, p1, k1, z1⟩ := HF6.out
   have ho6 := HO68.out.trans HO8a.out
   exact HAcc.out wa bm cm ba ca bb cb bp cp bk ck bz cz (HW0.out.trans HOa.out) (m1.old ho6).boxs HQ6.out.1 HQ6.out.2 (a1.old ho6) (b1.old ho6) (p1.old ho6) (k1.old ho6) (z1.old ho6)
  go_wp2_with (go_at_call 34; refine HAx.out.mono ?_; rintro e wb ⟨rfl, ob⟩)
  go_ret
  exact ⟨rfl, (HW0.out.trans HOa.out).trans ob⟩
end
section
open Go.RowKit Go.ChangeShapes Go.WideShapes Go.Deep
section
variable {H : Type} {enc : TypeId × Value -> H} {P : Program} {w : World}
theorem cell_lt {b off : Nat} {v : Value} (h : w.cell? ⟨b, off, none⟩ = some v) : b < w.heap.size := by
 refine Classical.byContradiction fun hc => ?_
 have : w.heap[b]? = none := by simp; omega
 simp [World.cell?, this] at h
theorem open_facs {t e : TypeId} {fuel : Nat} {v : Value} {x : DataW H × List MemPlace} (ht : P.underlying t = some (.slice e)) (he : P.underlying e = some (.int .u64)) (hc : P.cellsOf e = 1)
  (h : DataW.trod enc P w 0 (fun _ => true) true fuel t [v] = some x) : ∃ (a : OA) (L C : Nat) (F : NI), v = .slice a L C /\ L <= C /\ C <= maxLen /\ FacsIn w a L F := by
 rcases open_ints ht he hc h with ⟨hcs, _⟩ | ⟨a, len, cap, zs, hcs, _, hl, hm, hz, _, hcell, hwz⟩
 ·exact ⟨none, 0, 0, fun _ => 0, by simpa using hcs, Nat.le_refl _, Nat.zero_le _, Or.inl rfl⟩
 ·simp only [if_true] at hz
  refine ⟨some a, len, cap, fun j => zs.getD j 0, by simpa using hcs, hl, hm, ?_⟩
  by_cases h0 : len = 0
  ·exact Or.inl h0
  ·obtain ⟨b, off, rfl, hc'⟩ := ints_at hcell (by omega)
   refine Or.inr ⟨b, off, rfl, cell_lt (hc' 0 (by omega)), fun j hj => ⟨hc' j (by omega), ?_⟩⟩
   have hj' : j < zs.length := by omega
   have e : zs.getD j 0 = zs[j] := by simp [List.getD, hj']
   show 0 <= zs.getD j 0 /\ zs.getD j 0 <= 18446744073709551615
   rw [e]
   exact bounds_u64 (hwz _ (List.getElem_mem hj'))
theorem open_rows {t e u s : TypeId} {f0 f1 f2 : Field} (ht : P.underlying t = some (.slice e)) (he : P.underlying e = some (.struct #[f0, f1, f2])) (hu : P.underlying u = some (.int .u64)) (hs : P.underlying s = some (.slice u))
  (o0 : f0.offset = 0) (o1 : f1.offset = 1) (o2 : f2.offset = 2) (t0 : f0.type = u) (t1 : f1.type = u) (t2 : f2.type = s) (ce : P.cellsOf e = 3) (cu : P.cellsOf u = 1) (cs : P.cellsOf s = 1)
  {a : OA} {n cap : Nat} {d : DataW H} {p : List MemPlace} (h : DataW.Trod enc P w 0 (fun _ => true) true t (.slice a n cap) d p) :
  n <= cap /\ ∃ (N A : NI) (FA : Nat -> Option Addr) (L C : Nat -> Nat) (F : NN), RowsIn w a n N A FA L C F := by
 obtain ⟨fuel, hf⟩ := h
 rcases open_slice ht hf with ⟨hcs, _⟩ | ⟨a', len, cap', m, k, D, Pl, hcs, _, hl, hm, hmm, _, hx⟩
 ·simp [Value.cells] at hcs
  obtain ⟨rfl, rfl, rfl⟩ := hcs
  exact ⟨Nat.le_refl _, fun _ => 0, fun _ => 0, fun _ => none, fun _ => 0, fun _ => 0, fun _ _ => 0, Or.inl rfl⟩
 simp [Value.cells] at hcs
 obtain ⟨rfl, rfl, rfl⟩ := hcs
 simp only [if_true] at hmm
 subst hmm
 refine ⟨hl, ?_⟩
 by_cases h0 : n = 0
 ·exact ⟨fun _ => 0, fun _ => 0, fun _ => none, fun _ => 0, fun _ => 0, fun _ _ => 0, Or.inl h0⟩
 rw [ce] at hx
 -- the address is a plain one
 obtain ⟨b, off, spot⟩ := a'
 have hspot : spot = none := by
  obtain ⟨cs0, hc0, _⟩ := hx 0 (by omega)
  obtain ⟨_, hlen, hcell⟩ := World.cells?_some hc0
  have g := hcell 0 (by omega)
  have : ∃ v, cs0[0]? = some v := ⟨cs0[0], by simp⟩
  obtain ⟨v, hv⟩ := this
  rw [hv] at g
  simpa [Addr.add] using World.cell?_spot g
 subst hspot
 have each : ∀ i, i < m -> ∃ y : Int × Int × Option Addr × Nat × Nat × (Nat -> Int), RowAt w b (off + i * 3) y.1 y.2.1 y.2.2.1 y.2.2.2.1 y.2.2.2.2.1 y.2.2.2.2.2 := by
  intro i hi
  obtain ⟨cs', h1, h2⟩ := hx i hi
  obtain ⟨_, hlen, hcell⟩ := World.cells?_some h1
  obtain ⟨y0, y1, y2, k', _, _, g0, g1, g2⟩ := trod_struct3 he h2
  match cs', hlen with
  | [v0, v1, v2], _ =>
   simp [o0, o1, o2, t0, t1, t2, cu, cs] at g0 g1 g2
   obtain ⟨x0, e0, _, w0⟩ := DataW.trod_int hu g0
   obtain ⟨x1, e1, _, w1⟩ := DataW.trod_int hu g1
   obtain ⟨fa, L, C, F, e2, hL, hC, hF⟩ := open_facs hs hu cu g2
   simp at e0 e1
   subst e0 e1 e2
   have c0 := hcell 0 (by omega)
   have c1 := hcell 1 (by omega)
   have c2 := hcell 2 (by omega)
   simp only [add_plain] at c0 c1 c2
   have b0 := bounds_u64 w0
   have b1 := bounds_u64 w1
   exact ⟨(x0, x1, fa, L, C, F), by simpa using c0, by simpa using c1, by simpa using c2, b0.1, b0.2, b1.1, b1.2, hL, hC, hF⟩
 obtain ⟨y, hy⟩ := choose_lt each
 refine ⟨fun i => (y i).1, fun i => (y i).2.1, fun i => (y i).2.2.1, fun i => (y i).2.2.2.1, fun i => (y i).2.2.2.2.1, fun i => (y i).2.2.2.2.2, Or.inr ⟨b, off, rfl, cell_lt (hy 0 (by omega)).c0, fun i hi => hy i (by omega)⟩⟩
end
end
section
open Go.RowKit Go.ChangeShapes Go.WideShapes Go.Deep
section
variable {H : Type} {enc : TypeId × Value -> H} {P : Program} {w : World}
theorem trod_struct5 {t : TypeId} {f0 f1 f2 f3 f4 : Field} {fuel : Nat} {cs : List Value} {x : DataW H × List MemPlace} (ht : P.underlying t = some (.struct #[f0, f1, f2, f3, f4])) (h : DataW.trod enc P w 0 (fun _ => true) true fuel t cs = some x) :
  ∃ y0 y1 y2 y3 y4 n, cs.length = P.cellsOf t /\ DataW.trod enc P w 0 (fun _ => true) true n f0.type ((cs.drop f0.offset).take (P.cellsOf f0.type)) = some y0 /\
   DataW.trod enc P w 0 (fun _ => true) true n f1.type ((cs.drop f1.offset).take (P.cellsOf f1.type)) = some y1 /\ DataW.trod enc P w 0 (fun _ => true) true n f2.type ((cs.drop f2.offset).take (P.cellsOf f2.type)) = some y2 /\
   DataW.trod enc P w 0 (fun _ => true) true n f3.type ((cs.drop f3.offset).take (P.cellsOf f3.type)) = some y3 /\ DataW.trod enc P w 0 (fun _ => true) true n f4.type ((cs.drop f4.offset).take (P.cellsOf f4.type)) = some y4 := by
 obtain ⟨xs, n, _, rfl, hl, hlen, hf⟩ := DataW.trod_struct ht h
 match xs, hlen with
 | [y0, y1, y2, y3, y4], _ => exact ⟨y0, y1, y2, y3, y4, n, hl, by simpa using hf 0 f0 rfl, by simpa using hf 1 f1 rfl, by simpa using hf 2 f2 rfl, by simpa using hf 3 f3 rfl, by simpa using hf 4 f4 rfl⟩
theorem open_params {t u r e s : TypeId} {f0 f1 f2 f3 f4 g0 g1 g2 : Field} (ht : P.underlying t = some (.struct #[f0, f1, f2, f3, f4])) (hu : P.underlying u = some (.int .u64)) (hr : P.underlying r = some (.slice e))
  (he : P.underlying e = some (.struct #[g0, g1, g2])) (hs : P.underlying s = some (.slice u)) (o0 : f0.offset = 0) (o1 : f1.offset = 1) (o2 : f2.offset = 2) (o3 : f3.offset = 3) (o4 : f4.offset = 4)
  (t0 : f0.type = u) (t1 : f1.type = u) (t2 : f2.type = u) (t3 : f3.type = u) (t4 : f4.type = r) (p0 : g0.offset = 0) (p1 : g1.offset = 1) (p2 : g2.offset = 2) (s0 : g0.type = u) (s1 : g1.type = u) (s2 : g2.type = s)
  (ct : P.cellsOf t = 5) (ce : P.cellsOf e = 3) (cu : P.cellsOf u = 1) (cr : P.cellsOf r = 1) (cs : P.cellsOf s = 1) {v : Value} {d : DataW H} {p : List MemPlace} (h : DataW.Trod enc P w 0 (fun _ => true) true t v d p) :
  ∃ (p q g k : Int) (a : OA) (n cap : Nat), v = gv p q g k a n cap /\ Four p q g k /\ n <= cap /\ ∃ (N A : NI) (FA : Nat -> Option Addr) (L C : Nat -> Nat) (F : NN), RowsIn w a n N A FA L C F := by
 obtain ⟨fuel, hf⟩ := h
 obtain ⟨y0, y1, y2, y3, y4, m, hl, k0, k1, k2, k3, k4⟩ := trod_struct5 ht hf
 rw [ct] at hl
 cases v with
 | agg c =>
  obtain ⟨l⟩ := c
  match l, hl with
  | [v0, v1, v2, v3, v4], _ =>
   simp [Value.cells, o0, o1, o2, o3, o4, t0, t1, t2, t3, t4, cu, cr] at k0 k1 k2 k3 k4
   obtain ⟨x0, e0, _, w0⟩ := DataW.trod_int hu k0
   obtain ⟨x1, e1, _, w1⟩ := DataW.trod_int hu k1
   obtain ⟨x2, e2, _, w2⟩ := DataW.trod_int hu k2
   obtain ⟨x3, e3, _, w3⟩ := DataW.trod_int hu k3
   simp at e0 e1 e2 e3
   subst e0 e1 e2 e3
   have hv4 : ∃ a n cap, v4 = .slice a n cap := by
    rcases open_slice hr k4 with ⟨hcs, _⟩ | ⟨a', len, cap', _, _, _, _, hcs, _⟩
    ·exact ⟨none, 0, 0, by simpa using hcs⟩
    ·exact ⟨some a', len, cap', by simpa using hcs⟩
   obtain ⟨a, n, cap, rfl⟩ := hv4
   have ko : DataW.Trod enc P w 0 (fun _ => true) true r (.slice a n cap) y4.1 y4.2 := ⟨m, by simpa [Value.cells] using k4⟩
   obtain ⟨hcap, N, A, FA, L, C, F, hin⟩ := open_rows hr he hu hs p0 p1 p2 s0 s1 s2 ce cu cs ko
   have b0 := bounds_u64 w0
   have b1 := bounds_u64 w1
   have b2 := bounds_u64 w2
   have b3 := bounds_u64 w3
   exact ⟨x0, x1, x2, x3, a, n, cap, rfl, ⟨b0.1, b0.2, b1.1, b1.2, b2.1, b2.2, b3.1, b3.2⟩, hcap, N, A, FA, L, C, F, hin⟩
 | _ => simp [Value.cells] at hl
end
end
section
open Go.RowKit Go.ChangeShapes Go.WideShapes Go.Deep
section
variable {H : Type} {enc : TypeId × Value -> H} {P : Program} {w : World}
theorem zcA {e : TypeId} (he : P.underlying e = some (.int .u64)) {m : Nat} {c : Value} {y : DataW H × List MemPlace} (h : DataW.trod enc P w 0 (fun _ => true) true m e [c] = some y) : ∃ x : Int, c = .int .u64 x /\ U64 x := by
 obtain ⟨x, hx, _, hw⟩ := DataW.trod_int he h
 simp at hx
 exact ⟨x, hx, (bounds_u64 hw).1, (bounds_u64 hw).2⟩
theorem zdz {t u : TypeId} {f0 f1 : Field} (ht : P.underlying t = some (.struct #[f0, f1])) (hu : P.underlying u = some (.int .u64)) (o0 : f0.offset = 0) (o1 : f1.offset = 1) (t0 : f0.type = u) (t1 : f1.type = u) (ct : P.cellsOf t = 2) (cu : P.cellsOf u = 1) {fuel : Nat} {cs : List Value} {x : DataW H × List MemPlace} (h : DataW.trod enc P w 0 (fun _ => true) true fuel t cs = some x) :
  ∃ x y : Int, cs = [.int .u64 x, .int .u64 y] /\ U64 x /\ U64 y := by
 obtain ⟨xs, n, _, rfl, hl, hlen, hf⟩ := DataW.trod_struct ht h
 rw [ct] at hl
 have g0 := hf 0 f0 rfl
 have g1 := hf 1 f1 rfl
 have hlen : xs.length = 2 := hlen
 rw [List.getElem?_eq_getElem (by omega)] at g0 g1
 match cs, hl with
 | [a, b], _ =>
  simp [o0, o1, t0, t1, cu] at g0 g1
  obtain ⟨x, rfl, bx⟩ := zcA hu g0
  obtain ⟨y, rfl, by_⟩ := zcA hu g1
  exact ⟨x, y, rfl, bx, by_⟩
end
end
section
open Go.RowKit Go.ChangeShapes Go.WideShapes Go.Deep
section
variable {H : Type} {enc : TypeId × Value -> H} {P : Program} {w : World}
theorem open_str {st : TypeId} (hst : P.underlying st = some .string) {m : Nat} {c : Value} {y : DataW H × List MemPlace} (h : DataW.trod enc P w 0 (fun _ => true) true m st [c] = some y) : ∃ lab : List Int, c = .string (strOfNums lab) /\ Bts lab := by
 obtain ⟨s, hs, _, _⟩ := DataW.trod_string hst h
 simp at hs
 subst hs
 exact ⟨zax s, by rw [numsOf_str], numsOf_bd s⟩
theorem arr3_cells {t e : TypeId} (ht : P.underlying t = some (.array 3 e)) (he : P.underlying e = some (.int .u64)) (hc : P.cellsOf e = 1) (hk : P.cellsOf t = 3) {fuel : Nat} {cs : List Value} {x : DataW H × List MemPlace} (h : DataW.trod enc P w 0 (fun _ => true) true fuel t cs = some x) :
  ∃ x y z : Int, cs = [.int .u64 x, .int .u64 y, .int .u64 z] /\ U64 x /\ U64 y /\ U64 z := by
 obtain ⟨xs, m, _, _, hl, hlx, hi⟩ := DataW.trod_array ht h
 rw [hk] at hl
 have g0 := hi 0 (by omega)
 have g1 := hi 1 (by omega)
 have g2 := hi 2 (by omega)
 rw [hc, List.getElem?_eq_getElem (by omega)] at g0 g1 g2
 match cs, hl with
 | [a, b, c], _ =>
  simp at g0 g1 g2
  obtain ⟨x, rfl, bx⟩ := zcA he g0
  obtain ⟨y, rfl, by_⟩ := zcA he g1
  obtain ⟨z, rfl, bz⟩ := zcA he g2
  exact ⟨x, y, z, rfl, bx, by_, bz⟩
end
end
section
open Go.RowKit Go.ChangeShapes Go.WideShapes Go.Deep
section
variable {H : Type} {enc : TypeId × Value -> H} {P : Program} {w : World}
theorem zdw {t e : TypeId} {sz : Nat} (mk : Int -> Value) (Bd : Int -> Prop) (hsz : 0 < sz) (ht : P.underlying t = some (.slice e)) (ce : P.cellsOf e = sz)
  (dec : ∀ (fuel : Nat) (cs : List Value) (x : DataW H × List MemPlace), DataW.trod enc P w 0 (fun _ => true) true fuel e cs = some x -> ∃ F : Nat -> Int, ∀ k, k < sz -> cs[k]? = some (mk (F k)) /\ Bd (F k))
  {fuel : Nat} {v : Value} {x : DataW H × List MemPlace} (h : DataW.trod enc P w 0 (fun _ => true) true fuel t [v] = some x) :
  ∃ (a : OA) (n cap : Nat) (F : NN), v = .slice a n cap /\ n <= cap /\ cap <= 9223372036854775807 /\ (n = 0 ∨ ∃ b off, a = some ⟨b, off, none⟩ /\ b < w.heap.size /\ ∀ j, j < n -> ∀ k, k < sz -> w.cell? ⟨b, off + j * sz + k, none⟩ = some (mk (F j k)) /\ Bd (F j k)) := by
 rcases open_slice ht h with ⟨hcs, _⟩ | ⟨a', len, cap', m, k, D, Pl, hcs, _, hl, hm, hmm, _, hx⟩
 ·exact ⟨none, 0, 0, fun _ _ => 0, by simpa using hcs, Nat.le_refl _, Nat.zero_le _, Or.inl rfl⟩
 simp only [if_true] at hmm
 subst hmm
 unfold maxLen at hm
 have hv : v = .slice (some a') len m := by simpa using hcs
 by_cases h0 : len = 0
 ·exact ⟨some a', len, m, fun _ _ => 0, hv, hl, by omega, Or.inl h0⟩
 rw [ce] at hx
 obtain ⟨b, off, spot⟩ := a'
 have hspot : spot = none := by
  obtain ⟨cs0, hc0, _⟩ := hx 0 (by omega)
  obtain ⟨_, hlen, hcell⟩ := World.cells?_some hc0
  have g := hcell 0 (by omega)
  have : ∃ v, cs0[0]? = some v := ⟨cs0[0], by simp⟩
  obtain ⟨v, hv⟩ := this
  rw [hv] at g
  simpa [Addr.add] using World.cell?_spot g
 subst hspot
 have each : ∀ i, i < m -> ∃ y : Nat -> Int, ∀ k, k < sz -> w.cell? ⟨b, off + i * sz + k, none⟩ = some (mk (y k)) /\ Bd (y k) := by
  intro i hi
  obtain ⟨cs', h1, h2⟩ := hx i hi
  obtain ⟨_, hlen, hcell⟩ := World.cells?_some h1
  obtain ⟨F, hF⟩ := dec _ _ _ h2
  refine ⟨F, fun k hk => ⟨?_, (hF k hk).2⟩⟩
  have c0 := hcell k (by omega)
  simp only [add_plain] at c0
  rw [c0]
  exact (hF k hk).1
 obtain ⟨y, hy⟩ := choose_lt each
 exact ⟨some ⟨b, off, none⟩, len, m, y, hv, hl, by omega, Or.inr ⟨b, off, rfl, cell_lt (hy 0 (by omega) 0 hsz).1, fun i hi => hy i (by omega)⟩⟩
theorem open_boxes8 {t e p u : TypeId} {f0 f1 : Field} (ht : P.underlying t = some (.slice e)) (he : P.underlying e = some (.array 3 p)) (hp : P.underlying p = some (.struct #[f0, f1])) (hu : P.underlying u = some (.int .u64)) (o0 : f0.offset = 0) (o1 : f1.offset = 1) (t0 : f0.type = u) (t1 : f1.type = u) (ce : P.cellsOf e = 6) (cp : P.cellsOf p = 2) (cu : P.cellsOf u = 1)
  {fuel : Nat} {v : Value} {x : DataW H × List MemPlace} (h : DataW.trod enc P w 0 (fun _ => true) true fuel t [v] = some x) :
  ∃ (a : OA) (n cap : Nat) (C : NN), v = .slice a n cap /\ n <= cap /\ cap <= 9223372036854775807 /\ BoxsIn w a n C :=
 zdw (.int .u64) U64 (by omega) ht ce (fun fuel cs x h => by
  obtain ⟨xs, n, _, _, hl, hlx, hi⟩ := DataW.trod_array he h
  rw [ce] at hl
  have g0 := hi 0 (by omega)
  have g1 := hi 1 (by omega)
  have g2 := hi 2 (by omega)
  rw [cp, List.getElem?_eq_getElem (by omega)] at g0 g1 g2
  match cs, hl with
  | [a, b, c, d', e', f'], _ =>
   simp at g0 g1 g2
   obtain ⟨x0, y0, e0, a0, b0⟩ := zdz hp hu o0 o1 t0 t1 cp cu g0
   obtain ⟨x1, y1, e1, a1, b1⟩ := zdz hp hu o0 o1 t0 t1 cp cu g1
   obtain ⟨x2, y2, e2, a2, b2⟩ := zdz hp hu o0 o1 t0 t1 cp cu g2
   simp at e0 e1 e2
   obtain ⟨rfl, rfl⟩ := e0
   obtain ⟨rfl, rfl⟩ := e1
   obtain ⟨rfl, rfl⟩ := e2
   refine ⟨fun k => [x0, y0, x1, y1, x2, y2].getD k 0, fun k hk => ?_⟩
   match k, hk with
   | 0, _ => exact ⟨rfl, a0⟩
   | 1, _ => exact ⟨rfl, b0⟩
   | 2, _ => exact ⟨rfl, a1⟩
   | 3, _ => exact ⟨rfl, b1⟩
   | 4, _ => exact ⟨rfl, a2⟩
   | 5, _ => exact ⟨rfl, b2⟩) h
theorem open_rhos8 {t e u : TypeId} (ht : P.underlying t = some (.slice e)) (he : P.underlying e = some (.array 3 u)) (hu : P.underlying u = some (.int .u64)) (ce : P.cellsOf e = 3) (cu : P.cellsOf u = 1)
  {fuel : Nat} {v : Value} {x : DataW H × List MemPlace} (h : DataW.trod enc P w 0 (fun _ => true) true fuel t [v] = some x) :
  ∃ (a : OA) (n cap : Nat) (R : NN), v = .slice a n cap /\ n <= cap /\ cap <= 9223372036854775807 /\ RhoIn w a n R :=
 zdw (.int .u64) U64 (by omega) ht ce (fun fuel cs x h => by
  obtain ⟨a, b, c, rfl, h0, h1, h2⟩ := arr3_cells he hu cu ce h
  refine ⟨fun k => [a, b, c].getD k 0, fun k hk => ?_⟩
  match k, hk with
  | 0, _ => exact ⟨rfl, h0⟩
  | 1, _ => exact ⟨rfl, h1⟩
  | 2, _ => exact ⟨rfl, h2⟩) h
theorem open_order8 {t e : TypeId} (ht : P.underlying t = some (.slice e)) (he : P.underlying e = some (.int .i64)) (ce : P.cellsOf e = 1)
  {fuel : Nat} {v : Value} {x : DataW H × List MemPlace} (h : DataW.trod enc P w 0 (fun _ => true) true fuel t [v] = some x) :
  ∃ (a : OA) (n cap : Nat) (O : NI), v = .slice a n cap /\ n <= cap /\ cap <= 9223372036854775807 /\ IntsIn w a n O := by
 obtain ⟨a, n, cap, F, e1, q1, q2, hF⟩ := zdw (.int .i64) (fun x => -9223372036854775808 <= x /\ x <= 9223372036854775807) (by omega) ht ce (fun fuel cs x h => by
  obtain ⟨x, hx, _, hw⟩ := DataW.trod_int he h
  subst hx
  refine ⟨fun _ => x, fun k hk => ?_⟩
  have : k = 0 := by omega
  subst this
  exact ⟨rfl, (bounds_i64 hw).1, (bounds_i64 hw).2⟩) h
 refine ⟨a, n, cap, fun j => F j 0, e1, q1, q2, ?_⟩
 rcases hF with h0 | ⟨b, off, ha, hb, hc⟩
 ·exact Or.inl h0
 ·exact Or.inr ⟨b, off, ha, hb, fun j hj => by have := hc j hj 0 (by omega); rwa [Nat.mul_one, Nat.add_zero] at this⟩
theorem zcF {t u : TypeId} (ht : P.underlying t = some (.slice u)) (hu : P.underlying u = some (.int .u64)) (cu : P.cellsOf u = 1) {fuel : Nat} {v : Value} {x : DataW H × List MemPlace} (h : DataW.trod enc P w 0 (fun _ => true) true fuel t [v] = some x) :
  ∃ (a : OA) (n cap : Nat) (F : NI), v = .slice a n cap /\ n <= cap /\ cap <= 9223372036854775807 /\ FacsIn w a n F := by
 obtain ⟨a, n, cap, F, e, q1, q2, hF⟩ := open_facs ht hu cu h
 unfold maxLen at q2
 exact ⟨a, n, cap, F, e, q1, by omega, hF⟩
def DrawsIn (w : World) (bρ : OA) (nρ cρ : Nat) (Rh : NN) (bR : OA) (nR cR : Nat) (R : NI) (bS : OA) (nS cS : Nat) (S : NI) (bT : OA) (nT cT : Nat) (T : NI) (bD : OA) (nD cD : Nat) (D : NI) : Prop :=
 RhoIn w bρ nρ Rh /\ FacsIn w bR nR R /\ FacsIn w bS nS S /\ (nT <= cT /\ cT <= 9223372036854775807) /\ FacsIn w bT nT T /\ (nD <= cD /\ cD <= 9223372036854775807) /\ FacsIn w bD nD D
theorem draws_cells {t r ar s u : TypeId} {f0 f1 f2 f3 f4 : Field} (ht : P.underlying t = some (.struct #[f0, f1, f2, f3, f4])) (hr : P.underlying r = some (.slice ar)) (har : P.underlying ar = some (.array 3 u)) (hs : P.underlying s = some (.slice u)) (hu : P.underlying u = some (.int .u64)) (o0 : f0.offset = 0) (o1 : f1.offset = 1) (o2 : f2.offset = 2) (o3 : f3.offset = 3) (o4 : f4.offset = 4) (t0 : f0.type = r) (t1 : f1.type = s) (t2 : f2.type = s) (t3 : f3.type = s) (t4 : f4.type = s) (ct : P.cellsOf t = 5) (cr : P.cellsOf r = 1) (car : P.cellsOf ar = 3) (cs1 : P.cellsOf s = 1) (cu : P.cellsOf u = 1) {fuel : Nat} {cs : List Value} {x : DataW H × List MemPlace} (h : DataW.trod enc P w 0 (fun _ => true) true fuel t cs = some x) :
  ∃ bρ nρ cρ Rh bR nR cR R bS nS cS S bT nT cT T bD nD cD D, cs = [.slice bρ nρ cρ, .slice bR nR cR, .slice bS nS cS, .slice bT nT cT, .slice bD nD cD] /\ DrawsIn w bρ nρ cρ Rh bR nR cR R bS nS cS S bT nT cT T bD nD cD D := by
 obtain ⟨xs, n, _, _, hl, hlen, hf⟩ := DataW.trod_struct ht h
 rw [ct] at hl
 have g0 := hf 0 f0 rfl
 have g1 := hf 1 f1 rfl
 have g2 := hf 2 f2 rfl
 have g3 := hf 3 f3 rfl
 have g4 := hf 4 f4 rfl
 have hlen : xs.length = 5 := hlen
 rw [List.getElem?_eq_getElem (by omega)] at g0 g1 g2 g3 g4
 match cs, hl with
 | [a, b, c, d, e], _ =>
  simp [o0, o1, o2, o3, o4, t0, t1, t2, t3, t4, cr, cs1] at g0 g1 g2 g3 g4
  obtain ⟨bρ, nρ, cρ, Rh, rfl, _, _, h0⟩ := open_rhos8 hr har hu car cu g0
  obtain ⟨bR, nR, cR, R, rfl, _, _, h1⟩ := zcF hs hu cu g1
  obtain ⟨bS, nS, cS, S, rfl, _, _, h2⟩ := zcF hs hu cu g2
  obtain ⟨bT, nT, cT, T, rfl, p3, q3, h3⟩ := zcF hs hu cu g3
  obtain ⟨bD, nD, cD, D, rfl, p4, q4, h4⟩ := zcF hs hu cu g4
  exact ⟨bρ, nρ, cρ, Rh, bR, nR, cR, R, bS, nS, cS, S, bT, nT, cT, T, bD, nD, cD, D, rfl, h0, h1, h2, ⟨p3, q3⟩, h3, ⟨p4, q4⟩, h4⟩
theorem open_job8 {t st bx e p o ii dt r ar s u : TypeId} {f0 f1 f2 f3 f4 g0 g1 d0 d1 d2 d3 d4 : Field} (ht : P.underlying t = some (.struct #[f0, f1, f2, f3, f4])) (hst : P.underlying st = some .string) (hbx : P.underlying bx = some (.slice e)) (he : P.underlying e = some (.array 3 p)) (hp : P.underlying p = some (.struct #[g0, g1])) (ho : P.underlying o = some (.slice ii)) (hi : P.underlying ii = some (.int .i64)) (hd : P.underlying dt = some (.struct #[d0, d1, d2, d3, d4])) (hr : P.underlying r = some (.slice ar)) (har : P.underlying ar = some (.array 3 u)) (hs : P.underlying s = some (.slice u)) (hu : P.underlying u = some (.int .u64))
  (fo : f0.offset = 0 /\ f1.offset = 1 /\ f2.offset = 2 /\ f3.offset = 3 /\ f4.offset = 4) (ft : f0.type = st /\ f1.type = u /\ f2.type = bx /\ f3.type = o /\ f4.type = dt) (go : g0.offset = 0 /\ g1.offset = 1 /\ g0.type = u /\ g1.type = u) (dof : d0.offset = 0 /\ d1.offset = 1 /\ d2.offset = 2 /\ d3.offset = 3 /\ d4.offset = 4) (dty : d0.type = r /\ d1.type = s /\ d2.type = s /\ d3.type = s /\ d4.type = s)
  (cc : P.cellsOf t = 9 /\ P.cellsOf st = 1 /\ P.cellsOf bx = 1 /\ P.cellsOf e = 6 /\ P.cellsOf p = 2 /\ P.cellsOf o = 1 /\ P.cellsOf ii = 1 /\ P.cellsOf dt = 5 /\ P.cellsOf r = 1 /\ P.cellsOf ar = 3 /\ P.cellsOf s = 1 /\ P.cellsOf u = 1) {v : Value} {d : DataW H} {pl : List MemPlace} (h : DataW.Trod enc P w 0 (fun _ => true) true t v d pl) :
  ∃ (label : List Int) (y : Int) (bi : OA) (l ci : Nat) (C : NN) (bo : OA) (no co : Nat) (O : NI) (bρ : OA) (nρ cρ : Nat) (Rh : NN) (bR : OA) (nR cR : Nat) (R : NI) (bS : OA) (nS cS : Nat) (S : NI) (bT : OA) (nT cT : Nat) (T : NI) (bD : OA) (nD cD : Nat) (D : NI),
   v = jv label y bi l ci bo no co bρ nρ cρ bR nR cR bS nS cS bT nT cT bD nD cD /\ Bts label /\ U64 y /\ BoxsIn w bi l C /\ IntsIn w bo no O /\ DrawsIn w bρ nρ cρ Rh bR nR cR R bS nS cS S bT nT cT T bD nD cD D /\ (l <= ci /\ ci <= 9223372036854775807) /\ (no <= co /\ co <= 9223372036854775807) := by
 obtain ⟨m, hm⟩ := h
 obtain ⟨xs, n, _, _, hl, hlen, hf⟩ := DataW.trod_struct ht hm
 rw [cc.1] at hl
 have k0 := hf 0 f0 rfl
 have k1 := hf 1 f1 rfl
 have k2 := hf 2 f2 rfl
 have k3 := hf 3 f3 rfl
 have k4 := hf 4 f4 rfl
 have hlen : xs.length = 5 := hlen
 rw [List.getElem?_eq_getElem (by omega)] at k0 k1 k2 k3 k4
 obtain ⟨o0, o1, o2, o3, o4⟩ := fo
 obtain ⟨t0, t1, t2, t3, t4⟩ := ft
 obtain ⟨_, cst, cbx, ce, cp, co, ci, cdt, cr, car, cs, cu⟩ := cc
 cases v with
 | agg c =>
  obtain ⟨lst⟩ := c
  match lst, hl with
  | [a, b, c, d, e1, e2, e3, e4, e5], _ =>
   simp [Value.cells, o0, o1, o2, o3, o4, t0, t1, t2, t3, t4, cst, cbx, co, cdt, cu] at k0 k1 k2 k3 k4
   obtain ⟨lab, rfl, hb⟩ := open_str hst k0
   obtain ⟨y, rfl, by_⟩ := zcA hu k1
   obtain ⟨bi, l, ci2, C, rfl, p2, q2, h2⟩ := open_boxes8 hbx he hp hu go.1 go.2.1 go.2.2.1 go.2.2.2 ce cp cu k2
   obtain ⟨bo, no, co2, O, rfl, p3, q3, h3⟩ := open_order8 ho hi ci k3
   obtain ⟨bρ, nρ, cρ, Rh, bR, nR, cR, R, bS, nS, cS, S, bT, nT, cT, T, bD, nD, cD, D, ecs, hdr⟩ := draws_cells hd hr har hs hu dof.1 dof.2.1 dof.2.2.1 dof.2.2.2.1 dof.2.2.2.2 dty.1 dty.2.1 dty.2.2.1 dty.2.2.2.1 dty.2.2.2.2 cdt cr car cs cu k4
   simp at ecs
   obtain ⟨rfl, rfl, rfl, rfl, rfl⟩ := ecs
   exact ⟨lab, y, bi, l, ci2, C, bo, no, co2, O, bρ, nρ, cρ, Rh, bR, nR, cR, R, bS, nS, cS, S, bT, nT, cT, T, bD, nD, cD, D, rfl, hb, by_, h2, h3, hdr, ⟨p2, q2⟩, ⟨p3, q3⟩⟩
 | _ => simp [Value.cells] at hl
end
end
end Go.Proofs.YtlnmjbbpenhdbaaGreat
