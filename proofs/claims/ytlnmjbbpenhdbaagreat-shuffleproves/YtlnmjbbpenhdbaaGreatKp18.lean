/-
  What the proof needs, part 18.
-/
import Derived.Test.YtlnmjbbpenhdbaaGreatKp13
import Derived.Test.YtlnmjbbpenhdbaaGreatKp17
namespace Go.Proofs.YtlnmjbbpenhdbaaGreat
open Tryz
open List renaming set_cons_zero → Ls0, set_cons_succ → Ls1, drop_succ_cons → Ld1, drop_zero → Ld0, drop_nil → Ldn
open Tryz renaming underlying25 → U25, underlying29 → U29, underlying31 → U31, underlying41 → U41, underlying50 → U50, underlying55 → U55, underlying57 → U57
set_option linter.unusedSimpArgs false
set_option linter.unusedVariables false
set_option maxRecDepth 100000
set_option maxHeartbeats 32000000
section
open Go.RowKit
theorem zas {w : World} {base n c : Nat} {b : OA} {F : NI} (h : Nums w base (.slice b n c) n F) (hF : ∀ i, U64 (F i)) : FacsIn w b n F := by
 obtain ⟨b', c', e, _, _, hf⟩ := h.facs2 fun i _ => hF i
 cases e
 exact hf
def GivS (w : World) (ok : Bool) (n : Nat) (M : NN) (A B Pp : NI) (nt : Nat) (K : NI) (nz : Nat) (Z : NI) (r : Ending) (w' : World) : Prop :=
 Old w w' /\ ∃ bm cm va vb vp vk vz, r = .returned (.tuple #[.slice bm (if ok then n else 0) cm, .agg #[va, vb, vp, vk, vz], .bool ok]) /\ BoxF w' bm (if ok then n else 0) M /\ Nums w' w.heap.size va (if ok then n else 0) A /\ Nums w' w.heap.size vb (if ok then n else 0) B /\ Nums w' w.heap.size vp (if ok then n else 0) Pp /\ Nums w' w.heap.size vk (if ok then nt else 0) K /\ Nums w' w.heap.size vz (if ok then nz else 0) Z
theorem zcR {w w' : World} {ok : Bool} {n : Nat} {M : NN} {A B Pp : NI} {nt : Nat} {K : NI} {nz : Nat} {Z : NI} (h : ok = false) (ho : Old w w') : GivS w ok n M A B Pp nt K nz Z (.returned (.tuple #[.slice none 0 0, .agg #[.slice none 0 0, .slice none 0 0, .slice none 0 0, .slice none 0 0, .slice none 0 0], .bool false])) w' := by
 subst h
 exact ⟨ho, _, _, _, _, _, _, _, rfl, Or.inl rfl, zaD _ _ _, zaD _ _ _, zaD _ _ _, zaD _ _ _, zaD _ _ _⟩
theorem zaU : (prog.info? 57).map (·.size) = some 5 := by kernel_rfl
theorem zfs {P : Program} {fn : Func} {p s u : Tmp} {t : TypeId} {tmps : Array Value} {w : World} {b : Nat} {v x y : Value} (h : fn.results = #[.tmp s, .cell p t, .tmp u]) (hs : tmps.getD s undef = x) (hp : tmps.getD p undef = .pointer (some ⟨b, 0, none⟩)) (hu : tmps.getD u undef = y) (hl : (loadVar t ⟨b, 0, none⟩).run P w = .ok v w) :
  (results fn tmps).run P w = .ok (.tuple #[x, v, y]) w := by
 have hs' : tmps[s]?.getD undef = x := by simpa using hs
 have hp' : tmps[p]?.getD undef = .pointer (some ⟨b, 0, none⟩) := by simpa using hp
 have hu' : tmps[u]?.getD undef = y := by simpa using hu
 simp [results, h, hs', hp', hu', asAddr, hl]
def prP (base nt : Nat) (K : NI) (nz : Nat) (Z : NI) (f : Value -> Value) : Ent2 (OldT 55) := .u (fun v w => ∃ bk ck bz cz, v = f (.agg #[.slice bk nt ck, .slice bz nz cz]) /\ Nums w base (.slice bk nt ck) nt K /\ Nums w base (.slice bz nz cz) nz Z) (fun _ _ _ ⟨bk, ck, bz, cz, e, h1, h2⟩ ho => ⟨bk, ck, bz, cz, e, h1.oldT (by decide) ho, h2.oldT (by decide) ho⟩)
theorem zaQ (P Q G H x y : Int) : U64 (comI P Q G H x y) := by unfold comI; exact zaI _ _ _
theorem lpro_any (P Q G H : Int) (a : OA) (m cap : Nat) (label : List Int) (y : Int) (bi : OA) (ci : Nat) (C : NN) (bo : OA) (co : Nat) (O : NI) (bρ : OA) (cρ : Nat) (Rh : NN) (bR : OA) (cR : Nat) (R : NI) (bS : OA) (cS : Nat) (S : NI) (bT : OA) (cT : Nat) (T : NI) (bD : OA) (nD cD : Nat) (D : NI) (n : Nat) (Xc Yc Zc : Int) (A B Pp : NI) (M : NN) (E K Zf : NI) (w : World) (h1n : 0 < n) (hn : n <= 8) (h4 : Four P Q G H) (hr : Righ P Q G) (hy : U64 y) (hlb : Bts label) (hll : label.length <= 1000) (hcT : n <= cT /\ cT <= 9223372036854775807) (hcD : nD <= cD)
  (hC : BoxsIn w bi n C) (hO : IntsIn w bo n O) (hρ : RhoIn w bρ n Rh) (hR : FacsIn w bR n R) (hS : FacsIn w bS n S) (hT : FacsIn w bT n T) (hD : FacsIn w bD nD D) (hmx : mixB P Q y n C n O n = true) (hdr : drwB n n n n nD = true) (hor : ordB n O = true)
  (hM : M = mixC P Q G y C O Rh) (hXc : Xc = chX label Q (knwS P Q G H y n C n M) n A) (hYc : Yc = chYZ 121 label Q (knwS P Q G H y n C n M) n A B) (hZc : Zc = chYZ 122 label Q (knwS P Q G H y n C n M) n A B)
  (hA : A = fun i => comI P Q G H (O i + 1) (R i)) (hB : B = fun i => comI P Q G H (powI Xc (O i + 1) Q) (S i)) (hP : Pp = thiI P Q G H Xc Yc Zc A B O T)
  (hE : E = exF Q Xc Yc Zc n (fun i => (O i).toNat) R S T Rh) (hK : K = fun j => imI P Q ((bas8 n Pp G H y (fun j w => M j (2 * w)) (fun j w => M j (2 * w + 1))) j) D (sizeN P Q (4 * n + 6) (tgtT P Q G Xc Yc Zc n A B Pp (fun j w => C j (2 * w)) (fun j w => C j (2 * w + 1))) (4 * n + 6) (fun _ => 7 * n + 3) (bas8 n Pp G H y (fun j w => M j (2 * w)) (fun j w => M j (2 * w + 1))))) (hZ : Zf = fun k => ansI Q (chI label P Q G H (4 * n + 6) (tgtT P Q G Xc Yc Zc n A B Pp (fun j w => C j (2 * w)) (fun j w => C j (2 * w + 1))) (4 * n + 6) (fun _ => 7 * n + 3) (bas8 n Pp G H y (fun j w => M j (2 * w)) (fun j w => M j (2 * w + 1))) (4 * n + 6) K) (E k) (D k))
  (hck : clmB P Q G y n C n M n A n B n Pp Yc Zc = true) (hpv : provB (sizeN P Q (4 * n + 6) (tgtT P Q G Xc Yc Zc n A B Pp (fun j w => C j (2 * w)) (fun j w => C j (2 * w + 1))) (4 * n + 6) (fun _ => 7 * n + 3) (bas8 n Pp G H y (fun j w => M j (2 * w)) (fun j w => M j (2 * w + 1)))) (7 * n + 3) nD = true) :
  Calls prog 31 #[gv P Q G H a m cap, .string (strOfNums label), .int .u64 y, .slice bi n ci, .slice bo n co, dv bρ n cρ bR n cR bS n cS bT n cT bD nD cD] w (GivS w true n M A B Pp (4 * n + 6) K (7 * n + 3) Zf) := by
 have uX : U64 Xc := by rw [hXc]; exact zat _ _ _ _
 have uY : U64 Yc := by rw [hYc]; exact zat _ _ _ _
 have uZ : U64 Zc := by rw [hZc]; exact zat _ _ _ _
 have HMx : Hid (∀ wx, Old w wx -> Calls prog 15 #[gv P Q G H a m cap, .int .u64 y, .slice bi n ci, .slice bo n co, .slice bρ n cρ] wx fun e w' => Old wx w' /\ ∃ b, e = .returned (.tuple #[.slice b n n, .bool true]) /\ BoxF w' b n M) := fun wx ho => (smix_any P Q G H a m cap y bi n ci C bo n co O bρ n cρ Rh wx h4 hr hy (by omega) (by omega) (by omega) (hC.old ho) (hO.old ho) (hρ.old ho)).mono fun e w' ⟨k, b, he, hb⟩ => by
  rw [hmx] at he hb
  rw [hM]
  exact ⟨k, b, he, hb⟩
 have HDr : Hid (∀ wx, Calls prog 88 #[dv bρ n cρ bR n cR bS n cS bT n cT bD nD cD, .int .i64 (n : Int)] wx (Ret wx (.bool true))) := fun wx => by
  have := zfe bρ n cρ bR n cR bS n cS bT n cT bD nD cD n wx hn
  rwa [hdr] at this
 have HFi : Hid (∀ wx, Old w wx -> Calls prog 20 #[gv P Q G H a m cap, .slice bo n co, .slice bR n cR] wx fun e w' => Old wx w' /\ ∃ b c, e = .returned (.slice b n c) /\ n <= c /\ c <= 9223372036854775807 /\ Nums w' wx.heap.size (.slice b n c) n A) := fun wx ho => (sfirst_any P Q G H a m cap bo n co O bR n cR R wx h4 hr (by omega) (by omega) (hO.old ho) (hR.old ho)).mono fun e w' ⟨k, v, he, hN⟩ => by
  rw [hor, Bool.true_and, if_pos (by simp)] at hN
  obtain ⟨b, c, rfl, q1, q2, hf⟩ := hN.facs2 (fun i _ => zaQ _ _ _ _ _ _)
  rw [hA]
  exact ⟨k, b, c, he, q1, q2, hN⟩
 have HSe : Hid (∀ wx, Old w wx -> Calls prog 22 #[gv P Q G H a m cap, .slice bo n co, .int .u64 Xc, .slice bS n cS] wx fun e w' => Old wx w' /\ ∃ b c, e = .returned (.slice b n c) /\ n <= c /\ c <= 9223372036854775807 /\ Nums w' wx.heap.size (.slice b n c) n B) := fun wx ho => (ssecond_any P Q G H a m cap bo n co O Xc bS n cS S wx h4 hr uX (by omega) (by omega) (hO.old ho) (hS.old ho)).mono fun e w' ⟨k, v, he, hN⟩ => by
  rw [hor, Bool.true_and, if_pos (by simp)] at hN
  obtain ⟨b, c, rfl, q1, q2, hf⟩ := hN.facs2 (fun i _ => zaQ _ _ _ _ _ _)
  rw [hB]
  exact ⟨k, b, c, he, q1, q2, hN⟩
 have HTh : Hid (∀ wx ba ca bb cb bp np cp, Old w wx -> FacsIn wx ba n A -> FacsIn wx bb n B -> Calls prog 24 #[gv P Q G H a m cap, .slice bo n co, tk ba n ca Xc bb n cb Yc Zc bp np cp, dv bρ n cρ bR n cR bS n cS bT n cT bD nD cD] wx fun e w' => Old wx w' /\ ∃ b c, e = .returned (.slice b n c) /\ n <= c /\ c <= 9223372036854775807 /\ Nums w' wx.heap.size (.slice b n c) n Pp) := fun wx ba ca bb cb bp np cp ho ha hb => (sthird_any P Q G H a m cap bo n co O ba n ca A Xc bb n cb B Yc Zc bp np cp bρ n cρ bR n cR bS n cS bT n cT T bD nD cD wx h4 hr uX uY uZ (by omega) (by omega) (by omega) (by omega) (hO.old ho) ha hb (hT.old ho)).mono fun e w' ⟨k, v, he, hN⟩ => by
  rw [hor, Bool.true_and, if_pos (by simp)] at hN
  obtain ⟨b, c, rfl, q1, q2, hf⟩ := hN.facs2 (fun i _ => zfN _ _ _ _ _ _ _ _ _ _ _ i)
  rw [hP]
  exact ⟨k, b, c, he, q1, q2, hN⟩
 have HAu : Hid (∀ i, U64 (A i)) := fun i => by rw [hA]; exact zaQ _ _ _ _ _ _
 have HBu : Hid (∀ i, U64 (B i)) := fun i => by rw [hB]; exact zaQ _ _ _ _ _ _
 have HPu : Hid (∀ i, U64 (Pp i)) := fun i => by rw [hP]; exact zfN _ _ _ _ _ _ _ _ _ _ _ i
 have hMu : ∀ j k, j < n -> k < 6 -> U64 (M j k) := fun j k hj hk => by rw [hM]; exact zdS _ _ _ _ _ _ _ j k
 have HCl := hid fun wx bm ba ca bb cb bp cp (ho : Old w wx) (hb : BoxsIn wx bm n M) (ha : FacsIn wx ba n A) (hbb : FacsIn wx bb n B) (hp : FacsIn wx bp n Pp) => zfc P Q G H a m cap y bi n ci C bm n n M ba n ca A Xc bb n cb B Yc Zc bp n cp Pp wx (by omega) h4 hr hy uX uY uZ (hC.old ho) hb ha hbb hp
 have HTu : Hid (∀ j, U64 ((tgtT P Q G Xc Yc Zc n A B Pp (fun j w => C j (2 * w)) (fun j w => C j (2 * w + 1))) j)) := u64_tgt (fun i _ => HAu.out i) (fun i _ => HBu.out i) (fun i _ => HPu.out i)
 have HRu : Hid (∀ j, j < 4 * n + 6 -> ∀ k, U64 ((bas8 n Pp G H y (fun j w => M j (2 * w)) (fun j w => M j (2 * w + 1))) j k)) := u64_bas ⟨h4.g0, h4.g1⟩ ⟨h4.h0, h4.h1⟩ hy (fun i _ => HPu.out i) (fun i k hi hk => hMu i k hi hk)
 rw [hck] at HCl
 have HEx : Hid (∀ wx ba ca bb cb bp np cp, Old w wx -> Calls prog 26 #[gv P Q G H a m cap, .slice bo n co, tk ba n ca Xc bb n cb Yc Zc bp np cp, dv bρ n cρ bR n cR bS n cS bT n cT bD nD cD] wx fun e w' => Old wx w' /\ ∃ v, e = .returned v /\ Nums w' wx.heap.size v (7 * n + 3) E) := fun wx ba ca bb cb bp np cp ho => (sexp_any P Q G H a m cap bo n co O ba n ca Xc bb n cb Yc Zc bp np cp bρ n cρ Rh bR n cR R bS n cS S bT n cT T bD nD cD wx hr uX uY uZ (by omega) hcT.1 hcT.2 (hO.old ho) (hρ.old ho) (hR.old ho) (hS.old ho) (hT.old ho)).mono fun e w' ⟨k, v, he, hN⟩ => by
  rw [show expB n O n n n n = true by unfold expB; simp [hor], if_pos rfl] at hN
  rw [hE]
  exact ⟨k, v, he, hN⟩
 have HEu : Hid (∀ i, i < 7 * n + 3 -> U64 (E i)) := fun i _ => by rw [hE]; exact u64_exF8 hr.q1' h4.q1 i
 have HPv : Hid (∀ wx bt ct b2 c2 BA Cc be ce, Old w wx -> ClaimIn wx bt (4 * n + 6) ct (tgtT P Q G Xc Yc Zc n A B Pp (fun j w => C j (2 * w)) (fun j w => C j (2 * w + 1))) b2 (4 * n + 6) c2 BA (fun _ => 7 * n + 3) Cc (bas8 n Pp G H y (fun j w => M j (2 * w)) (fun j w => M j (2 * w + 1))) -> FacsIn wx be (7 * n + 3) E -> 7 * n + 3 <= ce -> Calls prog 90 #[gv P Q G H a m cap, .string (strOfNums label), cv bt (4 * n + 6) ct b2 (4 * n + 6) c2, .slice be (7 * n + 3) ce, .slice bD nD cD] wx (GivesP wx true (4 * n + 6) K (7 * n + 3) Zf)) := fun wx bt ct b2 c2 BA Cc be ce ho hc he hce => by
  have h := pprove_any label P Q G H a m cap bt (4 * n + 6) ct (tgtT P Q G Xc Yc Zc n A B Pp (fun j w => C j (2 * w)) (fun j w => C j (2 * w + 1))) b2 (4 * n + 6) c2 BA (fun _ => 7 * n + 3) Cc (bas8 n Pp G H y (fun j w => M j (2 * w)) (fun j w => M j (2 * w + 1))) be (7 * n + 3) ce E bD nD cD D K hK wx h4 hr hlb hll (by omega) (by omega) (fun j _ => by show 7 * n + 3 <= 80; omega) (by omega) (by have := (zb1.1 hdr).2.2.2; omega) hce hcD hc he (hD.old ho)
  rw [hpv, <- hZ] at h
  exact h
 obtain ⟨Tg, hTg⟩ : ∃ Tg, Tg = (tgtT P Q G Xc Yc Zc n A B Pp (fun j w => C j (2 * w)) (fun j w => C j (2 * w + 1))) := ⟨_, rfl⟩
 obtain ⟨Bg, hBg⟩ : ∃ Bg, Bg = (bas8 n Pp G H y (fun j w => M j (2 * w)) (fun j w => M j (2 * w + 1))) := ⟨_, rfl⟩
 rw [<- hTg, <- hBg] at HCl HPv
 rw [<- hTg] at HTu
 rw [<- hBg] at HRu
 clear hTg hBg hMu hck hpv hK hZ hE
 obtain ⟨Kn, hKn⟩ : ∃ Kn, Kn = knwS P Q G H y n C n M := ⟨_, rfl⟩
 have HAs : Hid (∀ wx bm, Old w wx -> BoxsIn wx bm n M -> Calls prog 89 #[gv P Q G H a m cap, .string (strOfNums label), .int .u64 y, .slice bi n ci, .slice bm n n] wx fun e w' => Old wx w' /\ ∃ kb sb lb qb, e = .returned (askV kb lb qb) /\ AskIn w' kb sb lb qb Kn label Q) := fun wx bm ho hb => by rw [hKn]; exact zfb P Q G H a m cap label y bi n ci C bm n n M wx h4 hy (by omega) (by omega) (hC.old ho) hb
 have hSb : ∀ i, i < 3 -> Bts (Kn i) := by rw [hKn]; exact knwS_bd _ _ _ _ _ _ _ _ _
 have hSl : ∀ i, (Kn i).length <= 640 := by rw [hKn]; exact knwS_len _ _ _ _ _ _ _ hn hn
 have HX1 : Hid (∀ (wx : World) (b kb sb lb qb : Nat) ba ca, AskIn wx kb sb lb qb Kn label Q -> n <= ca -> ca <= 9223372036854775807 -> FacsIn wx ba n A -> wx.heap[b]? = some (.cells #[.slice ba n ca] 29 (0, 0)) -> Calls prog 127 #[.string (strOfNums [120]), .slice (some ⟨b, 0, none⟩) 1 1, .pointer (some ⟨kb, 0, none⟩), .pointer (some ⟨lb, 0, none⟩), .pointer (some ⟨qb, 0, none⟩)] wx (Ret wx (.int .u64 Xc))) := fun wx b kb sb lb qb ba ca hk q1 q2 hf hb => by
  rw [hXc, <- hKn]
  exact sak_any [120] label Kn Q kb sb lb qb _ 1 1 _ _ _ _ wx (by intro x hx; simp at hx; subst hx; decide) (by simp) hSb hSl hlb hll (by omega) (fun j _ => by show n <= 80; omega) hk.k hk.s hk.l hk.g (lists_one hb q1 q2 hf)
 have HX2 : Hid (∀ (c : Int) (wx : World) (b kb sb lb qb : Nat) ba ca bb cb, 0 <= c -> c <= 255 -> AskIn wx kb sb lb qb Kn label Q -> n <= ca -> ca <= 9223372036854775807 -> n <= cb -> cb <= 9223372036854775807 -> FacsIn wx ba n A -> FacsIn wx bb n B -> wx.heap[b]? = some (.cells #[.slice ba n ca, .slice bb n cb] 29 (0, 0)) -> Calls prog 127 #[.string (strOfNums [c]), .slice (some ⟨b, 0, none⟩) 2 2, .pointer (some ⟨kb, 0, none⟩), .pointer (some ⟨lb, 0, none⟩), .pointer (some ⟨qb, 0, none⟩)] wx (Ret wx (.int .u64 (chYZ c label Q Kn n A B)))) := fun c wx b kb sb lb qb ba ca bb cb h0 h1 hk q1 q2 q3 q4 hf hg hb =>
  sak_any [c] label Kn Q kb sb lb qb _ 2 2 _ _ _ _ wx (by intro x hx; simp at hx; subst hx; exact ⟨h0, by omega⟩) (by simp) hSb hSl hlb hll (by omega) (fun j hj => by match j, hj with | 0, _ => (show n <= 80; omega) | 1, _ => (show n <= 80; omega)) hk.k hk.s hk.l hk.g (lists_two hb q1 q2 q3 q4 hf hg)
 rw [<- hKn] at hYc hZc
 have HYc := hid hYc.symm
 have HZc := hid hZc.symm
 clear hYc hZc hXc hSb hSl hKn hM hA hB hP hmx hdr hor
 have HZ := lain3 w (gc P Q G H a m cap) (dvc bρ n cρ bR n cR bS n cS bT n cT bD nD cD) #[.slice none 0 0, .slice none 0 0, .slice none 0 0, .slice none 0 0, .slice none 0 0] 25 31 57
 have HG0 := fun w' ho => (HZ.then (W' := w') ho).row 0 (by simp)
 have HD0 := fun w' ho => (HZ.then (W' := w') ho).row 1 (by simp)
 have HS0 := fun w' ho => (HZ.then (W' := w') ho).row 2 (by simp)
 have HW0 := hid HZ.old
 clear HZ
 go_enter func31, ntmps31
 go_upto_region 1 with fail
 generalize ((w.alloc (.cells (gc P Q G H a m cap) 25)).alloc (.cells (dvc bρ n cρ bR n cR bS n cS bT n cT bD nD cD) 31)).alloc (.cells #[.slice none 0 0, .slice none 0 0, .slice none 0 0, .slice none 0 0, .slice none 0 0] 57) = W1 at *
 have HG := hid HG0
 have HDd := hid HD0
 have HSh := hid HS0
 clear HG0 HD0 HS0
 obtain ⟨gb, hgb⟩ : ∃ gb, gb = w.heap.size := ⟨_, rfl⟩
 rw [<- hgb] at HG HDd HSh
 rw [<- hgb]
 have HGs : Hid (w.heap.size <= gb + 1 + 1) := by unfold Hid; omega
 clear hgb
 have HGc : Hid (∀ wx, Old W1 wx -> G5 wx (gb) P Q G H (.slice a m cap)) := fun wx ho => g5 (HG.out _ ho)
 have HDc : Hid (∀ wx, Old W1 wx -> wx.cell? ⟨gb + 1, 0, none⟩ = some (.slice bρ n cρ) /\ wx.cell? ⟨gb + 1, 1, none⟩ = some (.slice bR n cR) /\ wx.cell? ⟨gb + 1, 2, none⟩ = some (.slice bS n cS) /\ wx.cell? ⟨gb + 1, 3, none⟩ = some (.slice bT n cT) /\ wx.cell? ⟨gb + 1, 4, none⟩ = some (.slice bD nD cD)) := fun wx ho => g5 (HDd.out _ ho)
 obtain ⟨g0, g1, g2, g3, g4⟩ := HGc.out _ (Old.refl _)
 obtain ⟨d0, d1, d2, d3, d4⟩ := HDc.out _ (Old.refl _)
 go_upto_region 2 with (go_at_call 15; refine (HMx.out _ HW0.out).mono ?_; rintro e w2 ⟨o2, bm, rfl, hbm⟩)
 clear g0 g1 g2 g3 g4 d0 d1 d2 d3 d4
 obtain ⟨d0, d1, d2, d3, d4⟩ := HDc.out _ o2
 go_upto_region 4 with (go_at_call 88; refine (HDr.out _).mono ?_; rintro e w3 ⟨rfl, o3⟩)
 have HO3 := hid (o2.trans o3)
 have HB3 := hid (hbm.old o3)
 clear d0 d1 d2 d3 d4 hbm o2 o3
 obtain ⟨g0, g1, g2, g3, g4⟩ := HGc.out _ HO3.out
 go_upto_region 5 with (go_at_call 89; refine (HAs.out _ bm (HW0.out.trans HO3.out) HB3.out.boxs).mono ?_; rintro e w4 ⟨o4, kb, sb, lb, qb, rfl, hask⟩)
 clear g0 g1 g2 g3 g4
 have HO4 := hid (HO3.out.trans o4)
 have HB4 := hid (HB3.out.old o4)
 have HA4 := hid hask
 clear hask o4 HO3 HB3
 unfold askV
 have HO5 : Hid (Old W1 (w4.alloc (.cells (tkc none 0 0 0 none 0 0 0 0 none 0 0) 41))) := HO4.out.alloc _
 have HO45 : Hid (Old w4 (w4.alloc (.cells (tkc none 0 0 0 none 0 0 0 0 none 0 0) 41))) := (Old.refl _).alloc _
 have HB5 : Hid (BoxF (w4.alloc (.cells (tkc none 0 0 0 none 0 0 0 0 none 0 0) 41)) bm n M) := HB4.out.old ((Old.refl _).alloc _)
 have HA5 : Hid (AskIn (w4.alloc (.cells (tkc none 0 0 0 none 0 0 0 0 none 0 0) 41)) kb sb lb qb Kn label Q) := HA4.out.old ((Old.refl _).alloc _)
 have HR5 : Hid ((w4.alloc (.cells (tkc none 0 0 0 none 0 0 0 0 none 0 0) 41)).heap[w4.heap.size]? = some (.cells (tkc none 0 0 0 none 0 0 0 0 none 0 0) 41 (0, 0))) := heap_alloc_last _ _
 go_upto_region 6 with fail
 generalize w4.alloc (.cells (tkc none 0 0 0 none 0 0 0 0 none 0 0) 41) = w5 at *
 obtain ⟨tb, htb⟩ : ∃ tb, tb = w4.heap.size := ⟨_, rfl⟩
 rw [<- htb] at HR5
 rw [<- htb]
 have Htb : Hid (W1.heap.size <= tb) := by unfold Hid; have := HO4.out.size; omega
 have Htb4 : Hid (w4.heap.size <= tb) := by unfold Hid; omega
 clear htb
 obtain ⟨g0, g1, g2, g3, g4⟩ := HGc.out _ HO5.out
 obtain ⟨d0, d1, d2, d3, d4⟩ := HDc.out _ HO5.out
 clear d0 d2 d3 d4
 go_upto_region 7 with (go_at_call 20; refine (HFi.out _ (HW0.out.trans HO5.out)).mono ?_; rintro e w6 ⟨o6, ba, ca, rfl, qa1, qa2, hfa⟩; have q1 : w6.cell? ⟨tb, 0, none⟩ = some (.slice none 0 0) := Y0 ((o6.block _ (zag HR5.out)).trans HR5.out); have f1 : w6.frozen? ⟨tb, 0, none⟩ = false := zac ((o6.block _ (zag HR5.out)).trans HR5.out) 0)
 have HR7 : Hid ((w6.setCell ⟨tb, 0, none⟩ (.slice ba n ca)).heap[tb]? = some (.cells (tkc ba n ca 0 none 0 0 0 0 none 0 0) 41 (0, 0))) := by
  have := zaq ((o6.block _ (zag HR5.out)).trans HR5.out) 0 (.slice ba n ca)
  unfold Hid; simpa using this
 have hO47 : Old w4 (w6.setCell ⟨tb, 0, none⟩ (.slice ba n ca)) := (HO45.out.trans o6).setCell (p := ⟨tb, 0, none⟩) Htb4.out _
 have HO7 := hid (HO4.out.trans hO47)
 have HB7 := hid (HB4.out.old hO47)
 have HA7 := hid (HA4.out.old hO47)
 have htb5 : tb < w5.heap.size := zag HR5.out
 have HN7 : Hid (Nums (w6.setCell ⟨tb, 0, none⟩ (.slice ba n ca)) w5.heap.size (.slice ba n ca) n A) := ownsRow_setCell_below hfa (a := ⟨tb, 0, none⟩) htb5 _
 have hO47h := hid hO47
 clear hO47 q1 f1 g0 g1 g2 g3 g4 d1 HB5 HA5 HR5 hfa
 generalize w6.setCell ⟨tb, 0, none⟩ (.slice ba n ca) = w7 at *
 have hb7 : tb < w7.heap.size := zag HR7.out
 have c0 : w7.cell? ⟨tb, 0, none⟩ = some (.slice ba n ca) := Y0 HR7.out
 have HOa : Hid (Old w7 (w7.alloc (.cells #[.slice ba n ca] 29))) := (Old.refl _).alloc _
 have HBk : Hid ((w7.alloc (.cells #[.slice ba n ca] 29)).heap[w7.heap.size]? = some (.cells #[.slice ba n ca] 29 (0, 0))) := heap_alloc_last _ _
 have HAa := hid (HA7.out.old HOa.out)
 have HFa := hid ((zas HN7.out HAu.out).old HOa.out)
 go_upto_region 8 with (go_at_call 127; refine (HX1.out _ _ _ _ _ _ _ _ HAa.out qa1 qa2 HFa.out HBk.out).mono ?_; rintro e w8 ⟨rfl, o8⟩; have hr8 := ((HOa.out.trans o8).block _ hb7).trans HR7.out; have q1 : w8.cell? ⟨tb, 1, none⟩ = some (.int .u64 0) := Y1 hr8; have f1 : w8.frozen? ⟨tb, 1, none⟩ = false := zac hr8 1)
 have hO78 : Old w7 w8 := HOa.out.trans o8
 have HR9 : Hid ((w8.setCell ⟨tb, 1, none⟩ (.int .u64 Xc)).heap[tb]? = some (.cells (tkc ba n ca Xc none 0 0 0 0 none 0 0) 41 (0, 0))) := by
  have := zaq hr8 1 (.int .u64 Xc)
  unfold Hid; simpa using this
 have hO49 : Hid (Old w4 (w8.setCell ⟨tb, 1, none⟩ (.int .u64 Xc))) := ((hO47h.out).trans hO78).setCell (p := ⟨tb, 1, none⟩) Htb4.out _
 have HN9 : Hid (Nums (w8.setCell ⟨tb, 1, none⟩ (.int .u64 Xc)) w5.heap.size (.slice ba n ca) n A) := ownsRow_setCell_below (HN7.out.old hO78) (a := ⟨tb, 1, none⟩) htb5 _
 clear hr8 q1 f1 hO78 HR7 HN7 HOa HBk HAa HFa HX1 c0
 generalize (w8.setCell ⟨tb, 1, none⟩ (.int .u64 Xc)) = w9 at *
 have HO9 := hid (HO4.out.trans hO49.out)
 have c1 : w9.cell? ⟨tb, 1, none⟩ = some (.int .u64 Xc) := Y1 HR9.out
 obtain ⟨g0, g1, g2, g3, g4⟩ := HGc.out _ HO9.out
 obtain ⟨d0, d1, d2, d3, d4⟩ := HDc.out _ HO9.out
 clear d0 d1 d3 d4
 have htb9 : tb < w9.heap.size := zag HR9.out
 have H5s := hid ((HW0.out.trans HO5.out).size)
 have H9s := hid ((HW0.out.trans HO9.out).size)
 go_upto_region 9 with (go_at_call 22; refine (HSe.out _ (HW0.out.trans HO9.out)).mono ?_; rintro e w10 ⟨o10, bb, cb, rfl, qb1, qb2, hfb⟩; have hr10 := (o10.block _ htb9).trans HR9.out; have q1 : w10.cell? ⟨tb, 2, none⟩ = some (.slice none 0 0) := Y2 hr10; have f1 : w10.frozen? ⟨tb, 2, none⟩ = false := zac hr10 2)
 have HRb : Hid ((w10.setCell ⟨tb, 2, none⟩ (.slice bb n cb)).heap[tb]? = some (.cells (tkc ba n ca Xc bb n cb 0 0 none 0 0) 41 (0, 0))) := by
  have := zaq hr10 2 (.slice bb n cb)
  unfold Hid; simpa using this
 have HO4b : Hid (Old w4 (w10.setCell ⟨tb, 2, none⟩ (.slice bb n cb))) := (hO49.out.trans o10).setCell (p := ⟨tb, 2, none⟩) Htb4.out _
 have HNa : Hid (Nums (w10.setCell ⟨tb, 2, none⟩ (.slice bb n cb)) w5.heap.size (.slice ba n ca) n A) := ownsRow_setCell_below (HN9.out.old o10) (a := ⟨tb, 2, none⟩) htb5 _
 have HNb : Hid (Nums (w10.setCell ⟨tb, 2, none⟩ (.slice bb n cb)) w9.heap.size (.slice bb n cb) n B) := ownsRow_setCell_below hfb (a := ⟨tb, 2, none⟩) htb9 _
 clear hr10 q1 f1 o10 hfb c1 g0 g1 g2 g3 g4 d2 HR9 HN9 HO9 HA7 HB7 HO7 hb7
 generalize (w10.setCell ⟨tb, 2, none⟩ (.slice bb n cb)) = wb at *
 have HOb := hid (HO4.out.trans HO4b.out)
 have HAb := hid (HA4.out.old HO4b.out)
 have HBb := hid (HB4.out.old HO4b.out)
 have HTr := hid fun wx (ho : Old wb wx) => (ho.block _ (zag HRb.out)).trans HRb.out
 have HAk := hid fun wx (ho : Old wb wx) => HAb.out.old ho
 have HFa := hid fun wx (ho : Old wb wx) => (zas HNa.out HAu.out).old ho
 have HFb := hid fun wx (ho : Old wb wx) => (zas HNb.out HBu.out).old ho
 refine zaa 15 [.k (askV kb lb qb), .k (.pointer (some ⟨tb, 0, none⟩)), .k (.slice ba n ca), .k (.pointer (some ⟨tb, 2, none⟩)), .k (.slice bb n cb), blkE 2 #[.slice ba n ca, .slice bb n cb] 29, .k (.int .u64 Yc), .k (askV kb lb qb), .k (.pointer (some ⟨tb, 0, none⟩)), .k (.slice ba n ca), .k (.pointer (some ⟨tb, 2, none⟩)), .k (.slice bb n cb), blkE 2 #[.slice ba n ca, .slice bb n cb] 29, .k (.int .u64 Zc), .k (.pointer (some ⟨tb, 3, none⟩))] (Old wb) (by kernel_rfl) (by kernel_rfl) rfl ((Old.refl _).drew) ?st ?_
 case st =>
  refine .p <| .p <| .c (stf 0 U29 HTr.out) <| .p <| .c (stf 2 U29 HTr.out) <| .c (stm (ob := fun t => .cells #[.slice ba n ca, .slice bb n cb] 29) (v := fun s => .slice (some ⟨s, 0, none⟩) 2 2) old_R fun t wx hR hd => ⟨_, rfl, heap_alloc_last _ _⟩) <| .c (stCf #[.pointer (some ⟨kb, 0, none⟩), .pointer (some ⟨lb, 0, none⟩), .pointer (some ⟨qb, 0, none⟩)] (args := fun t => #[.string (strOfNums [121]), t 5, .pointer (some ⟨kb, 0, none⟩), .pointer (some ⟨lb, 0, none⟩), .pointer (some ⟨qb, 0, none⟩)]) old_R func127 fun t wx hR hd => ?_) <| .p <| .p <| .c (stf 0 U29 HTr.out) <| .p <| .c (stf 2 U29 HTr.out) <| .c (stm (ob := fun t => .cells #[.slice ba n ca, .slice bb n cb] 29) (v := fun s => .slice (some ⟨s, 0, none⟩) 2 2) old_R fun t wx hR hd => ⟨_, rfl, heap_alloc_last _ _⟩) <| .c (stCf #[.pointer (some ⟨kb, 0, none⟩), .pointer (some ⟨lb, 0, none⟩), .pointer (some ⟨qb, 0, none⟩)] (args := fun t => #[.string (strOfNums [122]), t 12, .pointer (some ⟨kb, 0, none⟩), .pointer (some ⟨lb, 0, none⟩), .pointer (some ⟨qb, 0, none⟩)]) old_R func127 fun t wx hR hd => ?_) <| .c stp .n
  ·obtain ⟨b, e, hb⟩ : ∃ b, t 5 = .slice (some ⟨b, 0, none⟩) 2 2 /\ wx.heap[b]? = some (.cells #[.slice ba n ca, .slice bb n cb] 29 (0, 0)) := hd 5 (by kernel_rfl)
   rw [e]
   exact (HX2.out 121 wx b kb sb lb qb ba ca bb cb (by decide) (by decide) (HAk.out wx hR) qa1 qa2 qb1 qb2 (HFa.out wx hR) (HFb.out wx hR) hb).mono fun r w' ⟨h, k⟩ => ⟨_, h, k, by rw [HYc.out]; rfl⟩
  ·obtain ⟨b, e, hb⟩ : ∃ b, t 12 = .slice (some ⟨b, 0, none⟩) 2 2 /\ wx.heap[b]? = some (.cells #[.slice ba n ca, .slice bb n cb] 29 (0, 0)) := hd 12 (by kernel_rfl)
   rw [e]
   exact (HX2.out 122 wx b kb sb lb qb ba ca bb cb (by decide) (by decide) (HAk.out wx hR) qa1 qa2 qb1 qb2 (HFa.out wx hR) (HFb.out wx hR) hb).mono fun r w' ⟨h, k⟩ => ⟨_, h, k, by rw [HZc.out]; rfl⟩
 intro t wx hR hk
 simp only [fill, Ent.val, blkE, Ls0, Ls1, Ld1, Ld0, Ldn]
 have hrow := HTr.out _ hR
 have q3 : wx.cell? ⟨tb, 3, none⟩ = some (.int .u64 0) := Y3 hrow
 have q4 : wx.cell? ⟨tb, 4, none⟩ = some (.int .u64 0) := Y4 hrow
 have f3 : wx.frozen? ⟨tb, 3, none⟩ = false := zac hrow 3
 have f4 : wx.frozen? ⟨tb, 4, none⟩ = false := zac hrow 4
 have HRc : Hid (((wx.setCell ⟨tb, 3, none⟩ (.int .u64 Yc)).setCell ⟨tb, 4, none⟩ (.int .u64 Zc)).heap[tb]? = some (.cells (tkc ba n ca Xc bb n cb Yc Zc none 0 0) 41 (0, 0))) := by
  have := zaq (zaq hrow 3 (.int .u64 Yc)) 4 (.int .u64 Zc)
  unfold Hid; simpa using this
 have HO4c : Hid (Old w4 ((wx.setCell ⟨tb, 3, none⟩ (.int .u64 Yc)).setCell ⟨tb, 4, none⟩ (.int .u64 Zc))) := ((HO4b.out.trans hR).setCell (p := ⟨tb, 3, none⟩) Htb4.out _).setCell (p := ⟨tb, 4, none⟩) Htb4.out _
 have HNac : Hid (Nums ((wx.setCell ⟨tb, 3, none⟩ (.int .u64 Yc)).setCell ⟨tb, 4, none⟩ (.int .u64 Zc)) w5.heap.size (.slice ba n ca) n A) := ownsRow_setCell_below (ownsRow_setCell_below (HNa.out.old hR) (a := ⟨tb, 3, none⟩) htb5 _) (a := ⟨tb, 4, none⟩) htb5 _
 have HNbc : Hid (Nums ((wx.setCell ⟨tb, 3, none⟩ (.int .u64 Yc)).setCell ⟨tb, 4, none⟩ (.int .u64 Zc)) w9.heap.size (.slice bb n cb) n B) := ownsRow_setCell_below (ownsRow_setCell_below (HNb.out.old hR) (a := ⟨tb, 3, none⟩) htb9 _) (a := ⟨tb, 4, none⟩) htb9 _
 clear hrow hR hk HTr HAk HFa HFb HRb HO4b HNa HNb HOb HAb HBb HX2 HYc HZc
 go_upto_region 10 with fail
 clear q3 q4 f3 f4
 generalize ((wx.setCell ⟨tb, 3, none⟩ (.int .u64 Yc)).setCell ⟨tb, 4, none⟩ (.int .u64 Zc)) = wc at *
 have HOc := hid (HO4.out.trans HO4c.out)
 obtain ⟨t0, t1, t2, t3, t4, t5⟩ := g6 HRc.out
 obtain ⟨g0, g1, g2, g3, g4⟩ := HGc.out _ HOc.out
 obtain ⟨d0, d1, d2, d3, d4⟩ := HDc.out _ HOc.out
 have HFa := hid (zas HNac.out HAu.out)
 have HFb := hid (zas HNbc.out HBu.out)
 have htbc : tb < wc.heap.size := zag HRc.out
 have Hcs := hid ((HW0.out.trans HOc.out).size)
 go_upto_region 11 with (go_at_call 24; refine (HTh.out _ _ _ _ _ _ _ _ (HW0.out.trans HOc.out) HFa.out HFb.out).mono ?_; rintro e wd0 ⟨od, bp, cp, rfl, qp1, qp2, hfp⟩; have hrd := (od.block _ htbc).trans HRc.out; have q1 : wd0.cell? ⟨tb, 5, none⟩ = some (.slice none 0 0) := Y5 hrd; have f1 : wd0.frozen? ⟨tb, 5, none⟩ = false := zac hrd 5)
 have HRd : Hid ((wd0.setCell ⟨tb, 5, none⟩ (.slice bp n cp)).heap[tb]? = some (.cells (tkc ba n ca Xc bb n cb Yc Zc bp n cp) 41 (0, 0))) := by
  have := zaq hrd 5 (.slice bp n cp)
  unfold Hid; simpa using this
 have HO4d : Hid (Old w4 (wd0.setCell ⟨tb, 5, none⟩ (.slice bp n cp))) := (HO4c.out.trans od).setCell (p := ⟨tb, 5, none⟩) Htb4.out _
 have HNad : Hid (Nums (wd0.setCell ⟨tb, 5, none⟩ (.slice bp n cp)) w5.heap.size (.slice ba n ca) n A) := ownsRow_setCell_below (HNac.out.old od) (a := ⟨tb, 5, none⟩) htb5 _
 have HNbd : Hid (Nums (wd0.setCell ⟨tb, 5, none⟩ (.slice bp n cp)) w9.heap.size (.slice bb n cb) n B) := ownsRow_setCell_below (HNbc.out.old od) (a := ⟨tb, 5, none⟩) htb9 _
 have HNpd : Hid (Nums (wd0.setCell ⟨tb, 5, none⟩ (.slice bp n cp)) wc.heap.size (.slice bp n cp) n Pp) := ownsRow_setCell_below hfp (a := ⟨tb, 5, none⟩) htbc _
 clear hrd q1 f1 od hfp t0 t1 t2 t3 t4 t5 g0 g1 g2 g3 g4 d0 d1 d2 d3 d4 HFa HFb HRc HO4c HNac HNbc HOc
 generalize (wd0.setCell ⟨tb, 5, none⟩ (.slice bp n cp)) = wd at *
 have HOd := hid (HO4.out.trans HO4d.out)
 have HBd := hid (HB4.out.old HO4d.out)
 obtain ⟨t0, t1, t2, t3, t4, t5⟩ := g6 HRd.out
 obtain ⟨g0, g1, g2, g3, g4⟩ := HGc.out _ HOd.out
 have HFa := hid (zas HNad.out HAu.out)
 have HFb := hid (zas HNbd.out HBu.out)
 have HFp := hid (zas HNpd.out HPu.out)
 go_upto_region 12 with (go_at_call 28; refine (HCl.out _ _ _ _ _ _ _ _ (HW0.out.trans HOd.out) HBd.out.boxs HFa.out HFb.out HFp.out).mono ?_; intro e we hd; obtain ⟨bt, ct, b2, c2, BA, Cc, rfl, oe, hcl⟩ := GivD.made hd (fun j _ => HTu.out j) (fun j hj i _ => HRu.out j hj i))
 clear t0 t1 t2 t3 t4 t5 g0 g1 g2 g3 g4 hd HFa HFb HFp HTu HRu HCl HGc HDc
 have HOc : Old we (we.alloc (.cells #[.slice bt (4 * n + 6) ct, .slice b2 (4 * n + 6) c2] 50)) := (Old.refl _).alloc _
 have HOdf := hid (oe.trans HOc)
 have HCf := hid (hcl.old HOc)
 have HRf : Hid ((we.alloc (.cells #[.slice bt (4 * n + 6) ct, .slice b2 (4 * n + 6) c2] 50)).heap[we.heap.size]? = some (.cells #[.slice bt (4 * n + 6) ct, .slice b2 (4 * n + 6) c2] 50 (0, 0))) := heap_alloc_last _ _
 clear HOc hcl oe
 generalize we.alloc (.cells #[.slice bt (4 * n + 6) ct, .slice b2 (4 * n + 6) c2] 50) = wf at *
 generalize we.heap.size = lb8 at *
 have HGf := hid fun wx (ho : Old wf wx) => HG.out wx ((HOd.out.trans HOdf.out).trans ho)
 have HDf := hid fun wx (ho : Old wf wx) => HDd.out wx ((HOd.out.trans HOdf.out).trans ho)
 have HTf := hid fun wx (ho : Old wf wx) => ((HOdf.out.trans ho).block _ (zag HRd.out)).trans HRd.out
 have HCr := hid fun wx (ho : Old wf wx) => (ho.block _ (zag HRf.out)).trans HRf.out
 go_upto_region 14 with fail
 refine zfm (Rl := OldT 55) 17 [.k (gv P Q G H a m cap), .k (.string (strOfNums label)), .k (cv bt (4 * n + 6) ct b2 (4 * n + 6) c2), .k (gv P Q G H a m cap), .k (.slice bo n co), .k (tk ba n ca Xc bb n cb Yc Zc bp n cp), .k (dv bρ n cρ bR n cR bS n cS bT n cT bD nD cD), numE (by decide) wf.heap.size (7 * n + 3) E, .k (.pointer (some ⟨gb + 1, 4, none⟩)), .k (.slice bD nD cD), prP wf.heap.size (4 * n + 6) K (7 * n + 3) Zf (fun a => .tuple #[a, .bool true]), prP wf.heap.size (4 * n + 6) K (7 * n + 3) Zf (fun a => .tuple #[a, .bool true]), prP wf.heap.size (4 * n + 6) K (7 * n + 3) Zf id, .k (.bool true), varE 55 2 wf.heap.size, putE 55 14 12 wf.heap.size, .k (.bool true)] (Old wf) (by kernel_rfl) (by kernel_rfl) rfl (by kernel_rfl) ((Old.refl _).drew) ?st ?_
 case st =>
  refine .c (stsy U25 HGf.out) <| .c stpy <| .c (stsy U50 HCr.out) <| .c (stsy U25 HGf.out) <| .c stpy <| .c (stsy U41 HTf.out) <| .c (stsy U31 HDf.out) <| .c (stCy (args := fun t => #[gv P Q G H a m cap, .slice bo n co, tk ba n ca Xc bb n cb Yc Zc bp n cp, dv bρ n cρ bR n cR bS n cS bT n cT bD nD cD]) old_R func26 fun t wx hR hd => ?_) <| .c stpy <| .c (stfy 4 U29 HDf.out) <| .c (stCy (args := fun t => #[gv P Q G H a m cap, .string (strOfNums label), cv bt (4 * n + 6) ct b2 (4 * n + 6) c2, t 7, .slice bD nD cD]) old_R func90 fun t wx hR hd => ?_) <| .c (stxy fun t wx hR hd => ⟨t 10, by kernel_rfl, hd 10 (by kernel_rfl)⟩) <| .c (stxy fun t wx hR hd => ?_) <| .c (stzy fun t wx hR hd => ?_) <| .c (stmy (ob := fun _ => .cells #[.slice none 0 0, .slice none 0 0] 55) (v := fun s => .pointer (some ⟨s, 0, none⟩)) old_R fun t wx hR hd => ⟨_, rfl, hR.size, _, heap_alloc_last _ _, rfl⟩) <| .c (stPy (n := 2) (fun _ _ => True) (fun w g cells h hg => h.setRow hg cells) fun t wx hR hd => ?_) <| .c stpy .n
  ·exact (HEx.out wx ba ca bb cb bp n cp (HW0.out.trans ((HOd.out.trans HOdf.out).trans hR))).mono fun r w' ⟨o, v, e, hN⟩ => ⟨_, e, o, hN.mono hR.size⟩
  ·have hN : Nums wx wf.heap.size (t 7) (7 * n + 3) E := hd 7 (by kernel_rfl)
   obtain ⟨be, ce, e7, q1, q2, hf⟩ := hN.facs2 (fun i hi => HEu.out i hi)
   rw [e7]
   refine (HPv.out wx bt ct b2 c2 BA Cc be ce (HW0.out.trans ((HOd.out.trans HOdf.out).trans hR)) (HCf.out.old hR) hf q1).mono ?_
   rintro e wg ⟨og, v, u, rfl, N1, N2⟩
   simp only [if_true] at N1 N2
   obtain ⟨bk, ck, rfl⟩ := zau N1
   obtain ⟨bz, cz, rfl⟩ := zau N2
   exact ⟨_, rfl, og, bk, ck, bz, cz, rfl, N1.mono hR.size, N2.mono hR.size⟩
  ·obtain ⟨bk, ck, bz, cz, e, N1, N2⟩ : ∃ bk ck bz cz, t 11 = .tuple #[.agg #[.slice bk (4 * n + 6) ck, .slice bz (7 * n + 3) cz], .bool true] /\ Nums wx wf.heap.size (.slice bk (4 * n + 6) ck) (4 * n + 6) K /\ Nums wx wf.heap.size (.slice bz (7 * n + 3) cz) (7 * n + 3) Zf := hd 11 (by kernel_rfl)
   exact ⟨_, zfq (Eq.trans (b := t 11) (by kernel_rfl) e) rfl, bk, ck, bz, cz, rfl, N1, N2⟩
  ·obtain ⟨bk, ck, bz, cz, e, N1, N2⟩ : ∃ bk ck bz cz, t 11 = .tuple #[.agg #[.slice bk (4 * n + 6) ck, .slice bz (7 * n + 3) cz], .bool true] /\ Nums wx wf.heap.size (.slice bk (4 * n + 6) ck) (4 * n + 6) K /\ Nums wx wf.heap.size (.slice bz (7 * n + 3) cz) (7 * n + 3) Zf := hd 11 (by kernel_rfl)
   exact zfq (Eq.trans (b := t 11) (by kernel_rfl) e) rfl
  ·obtain ⟨bk, ck, bz, cz, e12, _⟩ : ∃ bk ck bz cz, t 12 = .agg #[.slice bk (4 * n + 6) ck, .slice bz (7 * n + 3) cz] /\ Nums wx wf.heap.size (.slice bk (4 * n + 6) ck) (4 * n + 6) K /\ Nums wx wf.heap.size (.slice bz (7 * n + 3) cz) (7 * n + 3) Zf := hd 12 (by kernel_rfl)
   obtain ⟨b, e14, hb, cs, hcs, hs⟩ : ∃ b, t 14 = .pointer (some ⟨b, 0, none⟩) /\ wf.heap.size <= b /\ ∃ cs, wx.heap[b]? = some (.cells cs 55 (0, 0)) /\ cs.size = 2 := hd 14 (by kernel_rfl)
   exact ⟨b, _, cs, e14, e12, hb, hcs, hs, rfl, by simp [Value.oneCell']⟩
 intro t wx hR hk
 simp only [fill2, Ent2.val, numE, prP, varE, putE, Ls0, Ls1, Ld1, Ld0, Ldn]
 have HOw := hid hR
 obtain ⟨pb, csp, e15, hpb, hRp⟩ : ∃ b cs, [t 14, t 12] = [.pointer (some ⟨b, 0, none⟩), .agg cs] /\ wf.heap.size <= b /\ wx.heap[b]? = some (.cells cs 55 (0, 0)) := hk 15 (by omega)
 obtain ⟨bk, ck, bz, cz, e12, N1, N2⟩ : ∃ bk ck bz cz, t 12 = .agg #[.slice bk (4 * n + 6) ck, .slice bz (7 * n + 3) cz] /\ Nums wx wf.heap.size (.slice bk (4 * n + 6) ck) (4 * n + 6) K /\ Nums wx wf.heap.size (.slice bz (7 * n + 3) cz) (7 * n + 3) Zf := hk 12 (by omega)
 rw [e12] at e15
 have e14 : t 14 = .pointer (some ⟨pb, 0, none⟩) := by injection e15
 have ecs : csp = #[.slice bk (4 * n + 6) ck, .slice bz (7 * n + 3) cz] := by
  injection e15 with _ e15
  injection e15 with e15 _
  injection e15 with e15
  exact e15.symm
 subst ecs
 rw [e14]
 clear e14 e15 e12 hk
 have HOh := hid (HOdf.out.trans hR)
 have HN1 := hid N1
 have HN2 := hid N2
 have HRh := hid hRp
 have Hsx := hid HOdf.out.size
 clear N1 N2 hRp hpb hR HGf HDf HCr HEx HCf HRf HPv HOdf HOw HTf HEu
 generalize wf.heap.size = wfs at *
 go_upto_region 17 with fail
 have HG0w := hid HGs.out
 have HTh := hid fun wz (ho : OldT 57 wx wz) => ho.row (by decide) ((HOh.out.block _ (zag HRd.out)).trans HRd.out)
 have HPh := hid fun wz (ho : OldT 57 wx wz) => ho.row (by decide) HRh.out
 have HSk := hid fun wz (ho : OldT 57 wx wz) => ho.kind ⟨_, HSh.out _ (HOd.out.trans HOh.out), rfl⟩
 have HRR : Hid (∀ wz, (Old w wz /\ OldT 57 wx wz) -> ∀ c : Array Value, c.size = 5 -> Old w (wz.setRow (gb + 1 + 1) c) /\ OldT 57 wx (wz.setRow (gb + 1 + 1) c)) := fun wz ho c hc => ⟨ho.1.setRow HG0w.out _, by
  obtain ⟨cs, hcs, hs⟩ := HSk.out _ ho.2
  exact ho.2.trans (.setRow hcs (hc.trans hs.symm))⟩
 have HW00 := hid ((HW0.out.trans HOd.out).trans HOh.out)
 refine zfm (Rl := OldT 57) 12 [.k (.slice bm n n), .k (.pointer (some ⟨tb, 0, none⟩)), .k (.slice ba n ca), .k (.pointer (some ⟨tb, 2, none⟩)), .k (.slice bb n cb), .k (.pointer (some ⟨tb, 5, none⟩)), .k (.slice bp n cp), .k (.agg #[.slice bk (4 * n + 6) ck, .slice bz (7 * n + 3) cz]), .k (.agg #[.slice ba n ca, .slice bb n cb, .slice bp n cp, .slice bk (4 * n + 6) ck, .slice bz (7 * n + 3) cz]), .k (.slice bm n n), rowE 57 (gb + 1 + 1) #[.slice ba n ca, .slice bb n cb, .slice bp n cp, .slice bk (4 * n + 6) ck, .slice bz (7 * n + 3) cz], .k (.bool true)] (fun wz => Old w wz /\ OldT 57 wx wz) (by kernel_rfl) (by kernel_rfl) rfl (by kernel_rfl) (⟨HW00.out.drew, OldT.of (Old.refl _).drew⟩) ?st ?_
 case st =>
  refine .c stpy <| .c stpy <| .c (stfy 0 U29 (fun wz ho => HTh.out wz ho.2)) <| .c stpy <| .c (stfy 2 U29 (fun wz ho => HTh.out wz ho.2)) <| .c stpy <| .c (stfy 5 U29 (fun wz ho => HTh.out wz ho.2)) <| .c (stsy U55 (fun wz ho => HPh.out wz ho.2)) <| .c stpy <| .c stpy <| .c (stQy (n := 5) (fun wz ho => HRR.out wz ho _ rfl) (fun wz ho => HSk.out wz ho.2)) <| .c stpy .n
 intro t wx_1 hR hk
 simp only [fill2, Ent2.val, rowE, Ls0, Ls1, Ld1, Ld0, Ldn]
 have HRz := hid (hk 10 (by omega))
 have hOx : OldT 57 wx wx_1 := hR.2
 have HG : Hid (GivS w true n M A B Pp (4 * n + 6) K (7 * n + 3) Zf (.returned (.tuple #[.slice bm n n, .agg #[.slice ba n ca, .slice bb n cb, .slice bp n cp, .slice bk (4 * n + 6) ck, .slice bz (7 * n + 3) cz], .bool true])) wx_1) := by
  have s1 : w.heap.size <= w5.heap.size := H5s.out
  have s2 : w.heap.size <= w9.heap.size := H9s.out
  have s3 : w.heap.size <= wc.heap.size := Hcs.out
  have s4 : w.heap.size <= wfs := Nat.le_trans (HW0.out.trans HOd.out).size Hsx.out
  exact ⟨hR.1, _, _, _, _, _, _, _, rfl, (HBd.out.old HOh.out).oldT (by decide) hOx, ((HNad.out.old HOh.out).oldT (by decide) hOx).mono s1, ((HNbd.out.old HOh.out).oldT (by decide) hOx).mono s2, ((HNpd.out.old HOh.out).oldT (by decide) hOx).mono s3, (HN1.out.oldT (by decide) hOx).mono s4, (HN2.out.oldT (by decide) hOx).mono s4⟩
 clear hR hk hOx
 go_wp2_with fail
 exact bodyPost_ret (zfs (b := gb + 1 + 1) rfl rfl rfl rfl (run_loadVar_row _ _ _ _ _ (0, 0) _ HRz.out U57 rfl zaU)) rfl HG.out
end
end Go.Proofs.YtlnmjbbpenhdbaaGreat
