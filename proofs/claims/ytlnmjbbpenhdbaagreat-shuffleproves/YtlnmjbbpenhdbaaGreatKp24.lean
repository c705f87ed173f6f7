/-
  What the proof needs, part 24.
-/
import Derived.Test.YtlnmjbbpenhdbaaGreatKp23
namespace Go.Proofs.YtlnmjbbpenhdbaaGreat
open Tryz
set_option linter.unusedSimpArgs false
set_option linter.unusedVariables false
set_option maxRecDepth 100000
set_option maxHeartbeats 32000000
section
open Go Go.RowKit
theorem numL_le8 {label : List Int} {S : Nat -> List Int} {M : Nat} (h : ∀ i, (S i).length <= M) : ∀ n, (numL label S n).length <= 8 + label.length + n * (8 + M)
 | 0 => by show (zap _ 8 ++ label).length <= _; rw [List.length_append, zal]; omega
 | n + 1 => by
  show (numL label S n ++ (zap _ 8 ++ S n)).length <= _
  have h1 := numL_le8 (label := label) h n
  have h2 := h n
  rw [List.length_append, List.length_append, zal, Nat.add_mul]
  omega
theorem comS_bd (P Q G H y : Int) (l : Nat) (C : NN) (no : Nat) (O : NN) (na : Nat) (A : NI) : ∀ i, Bts (comS P Q G H y l C no O na A i)
 | 0 => zaV _ _
 | 1 => zaV _ _
 | 2 => zaV _ _
 | _ + 3 => zaV _ _
theorem comS_len (P Q G H y : Int) {l : Nat} (C : NN) {no : Nat} (O : NN) {na : Nat} (A : NI) (hl : l <= 80) (hn : no <= 80) (ha : na <= 400) : ∀ i, (comS P Q G H y l C no O na A i).length <= 4000
 | 0 => by show (packL _ _).length <= _; rw [zar]; omega
 | 1 => by show (packL _ _).length <= _; rw [zar]; omega
 | 2 => by show (packL _ _).length <= _; rw [zar]; omega
 | _ + 3 => by show (packL _ _).length <= _; rw [zar]; omega
theorem morS_bd {S : Nat -> List Int} (h : ∀ i, Bts (S i)) (nb : Nat) (B : NI) : ∀ i, Bts (morS S nb B i) := fun i => by unfold morS; split; exact h i; exact zaV _ _
theorem morS_len {S : Nat -> List Int} (h : ∀ i, (S i).length <= 4000) {nb : Nat} (hb : nb <= 400) (B : NI) : ∀ i, (morS S nb B i).length <= 4000 := fun i => by unfold morS; split; exact h i; rw [zar]; omega
theorem namS_bd {c : Int} (hc : 0 <= c /\ c <= 255) {S : Nat -> List Int} (h : ∀ i, Bts (S i)) : ∀ i, Bts (namS c S i)
 | 0 => fun x hx => by rcases List.mem_singleton.1 hx with rfl; omega
 | i + 1 => h i
theorem namS_len {c : Int} {S : Nat -> List Int} (h : ∀ i, (S i).length <= 4000) : ∀ i, (namS c S i).length <= 4000
 | 0 => by show ([c] : List Int).length <= _; simp
 | i + 1 => h i
theorem rchal8_any (P Q G H : Int) (a : OA) (n cap : Nat) (label : List Int) (y : Int) (bi : OA) (l ci : Nat) (C : NN) (bo : OA) (no co : Nat) (O : NN) (ba : OA) (na ca : Nat) (A : NI) (bb : OA) (nb cb : Nat) (B : NI) (bp : OA) (np cp : Nat) (bk : OA) (nk ck : Nat) (bz : OA) (nz cz : Nat) (w : World) (h4 : Four P Q G H) (hlb : Bts label) (hll : label.length <= 1000) (hy : U64 y) (ml : l <= 80) (mo : no <= 80) (ma : na <= 400) (mb : nb <= 400) (hC : BoxsIn w bi l C) (hO : BoxsIn w bo no O) (hA : FacsIn w ba na A) (hB : FacsIn w bb nb B) :
  Calls prog 91 #[gv P Q G H a n cap, .string (strOfNums label), .int .u64 y, .slice bi l ci, .slice bo no co, .agg #[.slice ba na ca, .slice bb nb cb, .slice bp np cp, .slice bk nk ck, .slice bz nz cz]] w (Ret w (.tuple #[.int .u64 (zaj label (namS 120 (comS P Q G H y l C no O na A)) 5 Q), .int .u64 (zaj label (namS 121 (morS (comS P Q G H y l C no O na A) nb B)) 6 Q), .int .u64 (zaj label (namS 122 (morS (comS P Q G H y l C no O na A) nb B)) 6 Q)])) := by
 obtain ⟨i0, hi0, hz0, hz1, hz2⟩ := info_parts strinfo
 obtain ⟨S4, hS4⟩ : ∃ S4, S4 = comS P Q G H y l C no O na A := ⟨_, rfl⟩
 have HNf : Hid (∀ wx v base, Nums wx base v 5 (fiv8 P Q G H y) -> Calls prog 130 #[v] wx (Ret wx (.string (strOfNums (S4 0))))) := fun wx v base hN => by
  obtain ⟨b, c, rfl, _, hf⟩ := hN.facs (fun i _ => by match i with | 0 => exact ⟨h4.p0, h4.p1⟩ | 1 => exact ⟨h4.q0, h4.q1⟩ | 2 => exact ⟨h4.g0, h4.g1⟩ | 3 => exact ⟨h4.h0, h4.h1⟩ | _ + 4 => exact hy)
  rw [hS4]
  exact zaJ b 5 c _ wx (by omega) hf
 have HFi : Hid (∀ wx, Old w wx -> Calls prog 131 #[.slice bi l ci] wx (Ret wx (.string (strOfNums (S4 1))))) := fun wx ho => by rw [hS4]; exact zfj bi l ci C wx (by omega) (hC.old ho)
 have HFo : Hid (∀ wx, Old w wx -> Calls prog 131 #[.slice bo no co] wx (Ret wx (.string (strOfNums (S4 2))))) := fun wx ho => by rw [hS4]; exact zfj bo no co O wx (by omega) (hO.old ho)
 have HNa : Hid (∀ wx, Old w wx -> Calls prog 130 #[.slice ba na ca] wx (Ret wx (.string (strOfNums (S4 3))))) := fun wx ho => by rw [hS4]; exact zaJ ba na ca A wx (by omega) (hA.old ho)
 have HNb : Hid (∀ wx, Old w wx -> Calls prog 130 #[.slice bb nb cb] wx (Ret wx (.string (strOfNums (packL B nb))))) := fun wx ho => zaJ bb nb cb B wx (by omega) (hB.old ho)
 have HSb : ∀ i, Bts (S4 i) := fun i => by rw [hS4]; exact comS_bd _ _ _ _ _ _ _ _ _ _ _ i
 have HSl : ∀ i, (S4 i).length <= 4000 := fun i => by rw [hS4]; exact comS_len P Q G H y C O A ml mo ma i
 rw [<- hS4]
 clear hS4
 obtain ⟨S5, hS5⟩ : ∃ S5, S5 = morS S4 nb B := ⟨_, rfl⟩
 have HS5 : Hid (S5 = morS S4 nb B) := hS5
 have HTb : ∀ i, Bts (S5 i) := fun i => by rw [hS5]; exact morS_bd HSb nb B i
 have HTl : ∀ i, (S5 i).length <= 4000 := fun i => by rw [hS5]; exact morS_len HSl mb B i
 rw [<- hS5]
 clear hS5
 have HNum : Hid (∀ (c : Int) (S : Nat -> List Int) (n : Nat) wx b base cap, (0 <= c /\ c <= 255) -> (∀ i, Bts (S i)) -> (∀ i, (S i).length <= 4000) -> n <= 6 -> wx.ownsRow base 9 1 (.slice (some ⟨b, 0, none⟩) n cap) n (zag (namS c S) n) -> Calls prog 132 #[.string (strOfNums label), .slice (some ⟨b, 0, none⟩) n cap, .int .u64 Q] wx (Ret wx (.int .u64 (zaj label (namS c S) n Q)))) := fun c S n wx b base cap hc hb hl hn ho => ze9 label _ n cap _ Q wx hlb (str_in ho fun i _ => namS_bd hc hb i) (by omega) (by
  have h := numL_le8 (label := label) (namS_len (c := c) hl) n
  have : n * (8 + 4000) <= 6 * 4008 := Nat.mul_le_mul_right _ hn
  omega) h4.q0 h4.q1
 have HNx : Hid (∀ wx b base cap, wx.ownsRow base 9 1 (.slice (some ⟨b, 0, none⟩) 5 cap) 5 (zag (namS 120 S4) 5) -> Calls prog 132 #[.string (strOfNums label), .slice (some ⟨b, 0, none⟩) 5 cap, .int .u64 Q] wx (Ret wx (.int .u64 (zaj label (namS 120 S4) 5 Q)))) := fun wx b base cap h => HNum.out 120 S4 5 wx b base cap (by omega) HSb HSl (by omega) h
 have HNy : Hid (∀ (c : Int) wx b base cap, (0 <= c /\ c <= 255) -> wx.ownsRow base 9 1 (.slice (some ⟨b, 0, none⟩) 6 cap) 6 (zag (namS c S5) 6) -> Calls prog 132 #[.string (strOfNums label), .slice (some ⟨b, 0, none⟩) 6 cap, .int .u64 Q] wx (Ret wx (.int .u64 (zaj label (namS c S5) 6 Q)))) := fun c wx b base cap hc h => HNum.out c S5 6 wx b base cap hc HTb HTl (by omega) h
 generalize zaj label (namS 120 S4) 5 Q = X at *
 have HNy1 : Hid (∀ wx b base cap, wx.ownsRow base 9 1 (.slice (some ⟨b, 0, none⟩) 6 cap) 6 (zag (namS 121 S5) 6) -> Calls prog 132 #[.string (strOfNums label), .slice (some ⟨b, 0, none⟩) 6 cap, .int .u64 Q] wx (Ret wx (.int .u64 (zaj label (namS 121 S5) 6 Q)))) := fun wx b base cap h => HNy.out 121 wx b base cap (by omega) h
 have HNy2 : Hid (∀ wx b base cap, wx.ownsRow base 9 1 (.slice (some ⟨b, 0, none⟩) 6 cap) 6 (zag (namS 122 S5) 6) -> Calls prog 132 #[.string (strOfNums label), .slice (some ⟨b, 0, none⟩) 6 cap, .int .u64 Q] wx (Ret wx (.int .u64 (zaj label (namS 122 S5) 6 Q)))) := fun wx b base cap h => HNy.out 122 wx b base cap (by omega) h
 clear HNy HNum
 generalize zaj label (namS 121 S5) 6 Q = Y at *
 generalize zaj label (namS 122 S5) 6 Q = Z at *
 clear HSb HSl HTb HTl hC hO hA hB hlb hll h4 hy
 have HZ := lain2 w (gc P Q G H a n cap) #[.slice ba na ca, .slice bb nb cb, .slice bp np cp, .slice bk nk ck, .slice bz nz cz] 25 57
 have HG0 := fun w' ho => (HZ.then (W' := w') ho).row 0 (by simp)
 have HT0 := fun w' ho => (HZ.then (W' := w') ho).row 1 (by simp)
 have HW0 : Hid (Old w ((w.alloc (.cells (gc P Q G H a n cap) 25)).alloc (.cells #[.slice ba na ca, .slice bb nb cb, .slice bp np cp, .slice bk nk ck, .slice bz nz cz] 57))) := HZ.old
 clear HZ
 go_enter func91, ntmps91
 go_upto_region 1 with fail
 generalize ((w.alloc (.cells (gc P Q G H a n cap) 25)).alloc (.cells #[.slice ba na ca, .slice bb nb cb, .slice bp np cp, .slice bk nk ck, .slice bz nz cz] 57)) = W at *
 have HG : Hid (∀ wx, Old W wx -> wx.heap[w.heap.size]? = some (.cells (gc P Q G H a n cap) 25 (0, 0))) := HG0
 have HT : Hid (∀ wx, Old W wx -> wx.heap[w.heap.size + 1]? = some (.cells #[.slice ba na ca, .slice bb nb cb, .slice bp np cp, .slice bk nk ck, .slice bz nz cz] 57 (0, 0))) := HT0
 clear HG0 HT0
 generalize w.heap.size = gb at *
 refine zaa 19 [.k (.pointer (some ⟨gb, 0, none⟩)), .k (.int .u64 P), .k (.pointer (some ⟨gb, 1, none⟩)), .k (.int .u64 Q), .k (.pointer (some ⟨gb, 2, none⟩)), .k (.int .u64 G), .k (.pointer (some ⟨gb, 3, none⟩)), .k (.int .u64 H), .k (.int .u64 y), numL8 W.heap.size 5 (fiv8 P Q G H y), .k (.string (strOfNums (S4 0))), .k (.slice bi l ci), .k (.string (strOfNums (S4 1))), .k (.slice bo no co), .k (.string (strOfNums (S4 2))), .k (.pointer (some ⟨gb + 1, 0, none⟩)), .k (.slice ba na ca), .k (.string (strOfNums (S4 3))), strE W.heap.size 4 S4] (Old W) (by kernel_rfl) (by kernel_rfl) rfl ((Old.refl _).drew) ?st ?_
 case st =>
  refine .c stp <| .c (stf 0 underlying22 HG.out) <| .c stp <| .c (stf 1 underlying22 HG.out) <| .c stp <| .c (stf 2 underlying22 HG.out) <| .c stp <| .c (stf 3 underlying22 HG.out) <| .c stp <| .c (stm (ob := fun _ => .cells #[.int .u64 P, .int .u64 Q, .int .u64 G, .int .u64 H, .int .u64 y] 22) (v := fun s => .slice (some ⟨s, 0, none⟩) 5 5) old_R fun t wx hR _ => zbH wx W.heap.size 5 [.int .u64 P, .int .u64 Q, .int .u64 G, .int .u64 H, .int .u64 y] (fiv8 P Q G H y) hR.size (by omega) rfl) <| .c (stC (args := fun t => #[t 9]) old_R func130 fun t wx hR hd => ?_) <| .c stp <| .c (stK old_R func131 (fun wx hx => HFi.out wx (HW0.out.trans hx))) <| .c stp <| .c (stK old_R func131 (fun wx hx => HFo.out wx (HW0.out.trans hx))) <| .c stp <| .c (stf 0 underlying29 HT.out) <| .c (stK old_R func130 (fun wx hx => HNa.out wx (HW0.out.trans hx))) <| .c (stm (ob := fun _ => .cells #[.string (strOfNums (S4 0)), .string (strOfNums (S4 1)), .string (strOfNums (S4 2)), .string (strOfNums (S4 3))] 9) (v := fun s => .slice (some ⟨s, 0, none⟩) 4 4) old_R fun t wx hR _ => ⟨_, rfl, World.ownsRow_lit wx #[.string (strOfNums (S4 0)), .string (strOfNums (S4 1)), .string (strOfNums (S4 2)), .string (strOfNums (S4 3))] 4 hR.size (by unfold maxLen; omega) rfl⟩) .n
  exact (HNf.out _ _ _ (hd 9 (by kernel_rfl))).mono fun r w' ⟨h, k⟩ => ⟨_, h, k, rfl⟩
 intro t wx hR hk
 simp only [fill, Ent.val, numL8, strE, List.set_cons_zero, List.set_cons_succ, List.drop_succ_cons, List.drop_zero, List.drop_nil]
 obtain ⟨cm, ecm, hcm⟩ : ∃ b, t 18 = .slice (some ⟨b, 0, none⟩) 4 4 /\ wx.ownsRow W.heap.size 9 1 (.slice (some ⟨b, 0, none⟩) 4 4) 4 (zag S4 4) := hk 18 (by omega)
 rw [ecm]
 go_upto_region 2 with fail
 have HO2 : Hid (Old W wx) := hR
 have HCm : Hid (∀ wy, Old wx wy -> wy.ownsRow W.heap.size 9 1 (.slice (some ⟨cm, 0, none⟩) 4 4) 4 (zag S4 4)) := fun wy ho => zbE hcm ho
 have HSi := (show Hid (_ /\ _ /\ _ /\ _) from ⟨hi0, hz0, hz1, hz2⟩)
 clear hR hk ecm hcm HNf HFi HFo HNa
 clear hi0 hz0 hz1 hz2
 generalize wx = W2 at *
 have HG2 : Hid (∀ wx, Old W2 wx -> wx.heap[gb]? = some (.cells (gc P Q G H a n cap) 25 (0, 0))) := fun wx ho => HG.out _ (HO2.out.trans ho)
 have HT2 : Hid (∀ wx, Old W2 wx -> wx.heap[gb + 1]? = some (.cells #[.slice ba na ca, .slice bb nb cb, .slice bp np cp, .slice bk nk ck, .slice bz nz cz] 57 (0, 0))) := fun wx ho => HT.out _ (HO2.out.trans ho)
 refine zaa 7 [strE W2.heap.size 0 S4, .k (.slice (some ⟨cm, 0, none⟩) 4 4), strG W2.heap.size (0 + 4) S4, .k (.pointer (some ⟨gb + 1, 1, none⟩)), .k (.slice bb nb cb), .k (.string (strOfNums (packL B nb))), strE W2.heap.size 1 (fun _ => packL B nb)] (Old W2) (by kernel_rfl) (by kernel_rfl) rfl ((Old.refl _).drew) ?st ?_
 case st =>
  refine .c (stm (ob := fun _ => .cells #[] 9) (v := fun s => .slice (some ⟨s, 0, none⟩) 0 0) old_R fun t wx hR _ => ⟨_, rfl, World.ownsRow_lit wx #[] 0 hR.size (by unfold maxLen; omega) rfl⟩) <| .c stp <| .c (stA 0 4 (vs := fun t => t 0) (vx := fun t => .slice (some ⟨cm, 0, none⟩) 4 4) old_R underlying143 HSi.out rfl (by decide) (by decide) (by decide) (by decide) (by decide) fun t wx hR hd => str_app (base := W2.heap.size) (hd 0 (by kernel_rfl)) rfl (HCm.out wx hR) hR.size (fun i hi => by omega) (fun i hi => by rw [Nat.zero_add])) <| .c stp <| .c (stf 1 underlying29 HT2.out) <| .c (stK old_R func130 (fun wx hx => HNb.out wx ((HW0.out.trans HO2.out).trans hx))) <| .c (stm (ob := fun _ => .cells #[.string (strOfNums (packL B nb))] 9) (v := fun s => .slice (some ⟨s, 0, none⟩) 1 1) old_R fun t wx hR _ => ⟨_, rfl, World.ownsRow_lit wx #[.string (strOfNums (packL B nb))] 1 hR.size (by unfold maxLen; omega) rfl⟩) .n
 intro t_1 wy hR hk
 simp only [fill, Ent.val, strG, strE, List.set_cons_zero, List.set_cons_succ, List.drop_succ_cons, List.drop_zero, List.drop_nil]
 obtain ⟨g2, c2, e2, h2⟩ : ∃ b c, t_1 2 = .slice (some ⟨b, 0, none⟩) 4 c /\ wy.ownsRow W2.heap.size 9 1 (.slice (some ⟨b, 0, none⟩) 4 c) 4 (zag S4 4) := hk 2 (by omega)
 obtain ⟨l2, e6, h6⟩ : ∃ b, t_1 6 = .slice (some ⟨b, 0, none⟩) 1 1 /\ wy.ownsRow W2.heap.size 9 1 (.slice (some ⟨b, 0, none⟩) 1 1) 1 (zag (fun _ => packL B nb) 1) := hk 6 (by omega)
 rw [e2, e6]
 have HOy : Hid (Old W2 wy) := hR
 have hyz : W2.heap.size <= wy.heap.size := hR.size
 obtain ⟨hi0, hz0, hz1, hz2⟩ := HSi.out
 clear hk hR e2 e6
 go_wp2_with (at_builtin; refine wpList_append_lies _ rfl _ _ 143 rfl W2.heap.size 9 i0 _ 1 16 underlying143 hi0 hz0 hz1 hz2 rfl (by decide) _ _ _ rfl h2 ⟨l2, 0, none⟩ 1 1 (zag (fun _ => packL B nb) 1) rfl rfl ?c1 ?c2 (by decide) ?c3 ?c4 hyz _ rfl ?_)
 case c1 => exact str_row h6
 case c2 => intro u hu; simp [zag] at hu; rcases hu with rfl; rfl
 case c3 => unfold maxLen; omega
 case c4 => omega
 intro g3 c3 w3 hown3 hgrow3 hat3 _
 have HM3 : Hid (w3.ownsRow W2.heap.size 9 1 (.slice (some ⟨g3, 0, none⟩) 5 c3) 5 (zag S5 5)) := by
  have h := str_cat (S := S4) (S' := fun _ => packL B nb) (S'' := S5) (n := 4) (m := 1) (fun i hi => by rw [HS5.out]; unfold morS; rw [if_pos hi]) (fun i hi => by rw [HS5.out]; unfold morS; rw [if_neg (by omega)])
  rw [h] at hown3
  exact hown3
 have HO3 : Hid (Old W2 w3) := HOy.out.grown hgrow3 fun q hq => (World.ownsRow.lt h2 q hq).1
 clear hown3 hgrow3 hat3 h2 h6 hyz HOy hi0 hz0 hz1 hz2 HNb
 go_upto_region 3 with fail
 have HC3 : Hid (∀ wx, Old w3 wx -> wx.ownsRow W.heap.size 9 1 (.slice (some ⟨cm, 0, none⟩) 4 4) 4 (zag S4 4)) := fun wx ho => HCm.out wx (HO3.out.trans ho)
 have HO30 : Hid (Old W w3) := HO2.out.trans HO3.out
 clear HCm HG2 HT2 HO3 HS5 HT
 have HGk3 : Hid (∀ wx, Old w3 wx -> wx.heap[gb]? = some (.cells (gc P Q G H a n cap) 25 (0, 0))) := fun wx ho => HG.out _ (HO30.out.trans ho)
 refine zaa 6 [.k (.string (strOfNums label)), strE w3.heap.size 1 (fun _ => [120]), .k (.slice (some ⟨cm, 0, none⟩) 4 4), strG w3.heap.size (1 + 4) (namS 120 S4), .k (.pointer (some ⟨gb, 1, none⟩)), .k (.int .u64 Q)] (Old w3) (by kernel_rfl) (by kernel_rfl) rfl ((Old.refl _).drew) ?st ?_
 case st =>
  refine .c stp <| .c (stm (ob := fun _ => .cells #[.string (strOfNums [120])] 9) (v := fun s => .slice (some ⟨s, 0, none⟩) 1 1) old_R fun t wx hR _ => ⟨_, rfl, World.ownsRow_lit wx #[.string (strOfNums [120])] 1 hR.size (by unfold maxLen; omega) rfl⟩) <| .c stp <| .c (stA 1 4 (vs := fun t => t 1) (vx := fun t => .slice (some ⟨cm, 0, none⟩) 4 4) old_R underlying143 HSi.out rfl (by decide) (by decide) (by decide) (by decide) (by decide) fun t wx hR hd => str_app (base := w3.heap.size) (hd 1 (by kernel_rfl)) rfl (HC3.out wx hR) hR.size (fun i hi => by rw [show i = 0 by omega]; rfl) (fun i hi => by rw [Nat.add_comm 1 i]; rfl)) <| .c stp <| .c (stf 1 underlying22 HGk3.out) .n
 intro tk3 wy hR hk
 simp only [fill, Ent.val, strG, strE, List.set_cons_zero, List.set_cons_succ, List.drop_succ_cons, List.drop_zero, List.drop_nil]
 obtain ⟨bq3, cq3, eq3, hq3⟩ : ∃ b c, tk3 3 = .slice (some ⟨b, 0, none⟩) 5 c /\ wy.ownsRow w3.heap.size 9 1 (.slice (some ⟨b, 0, none⟩) 5 c) 5 (zag (namS 120 S4) 5) := hk 3 (by omega)
 rw [eq3]
 have HOq : Hid (Old w3 wy) := hR
 clear hk hR eq3 HGk3
 go_upto_region 4 with (go_at_call 132; refine (HNx.out _ _ _ _ hq3).mono ?_; rintro e w4 ⟨rfl, oq⟩)
 have HO40 : Hid (Old W w4) := (HO30.out.trans HOq.out).trans oq
 have HM4 : Hid (w4.ownsRow W2.heap.size 9 1 (.slice (some ⟨g3, 0, none⟩) 5 c3) 5 (zag S5 5)) := zbE HM3.out (HOq.out.trans oq)
 clear oq HOq hq3 HM3 HO30 HNx
 clear HC3
 have HGk4 : Hid (∀ wx, Old w4 wx -> wx.heap[gb]? = some (.cells (gc P Q G H a n cap) 25 (0, 0))) := fun wx ho => HG.out _ (HO40.out.trans ho)
 refine zaa 6 [.k (.string (strOfNums label)), strE w4.heap.size 1 (fun _ => [121]), .k (.slice (some ⟨g3, 0, none⟩) 5 c3), strG w4.heap.size (1 + 5) (namS 121 S5), .k (.pointer (some ⟨gb, 1, none⟩)), .k (.int .u64 Q)] (Old w4) (by kernel_rfl) (by kernel_rfl) rfl ((Old.refl _).drew) ?st ?_
 case st =>
  refine .c stp <| .c (stm (ob := fun _ => .cells #[.string (strOfNums [121])] 9) (v := fun s => .slice (some ⟨s, 0, none⟩) 1 1) old_R fun t wx hR _ => ⟨_, rfl, World.ownsRow_lit wx #[.string (strOfNums [121])] 1 hR.size (by unfold maxLen; omega) rfl⟩) <| .c stp <| .c (stA 1 5 (vs := fun t => t 1) (vx := fun t => .slice (some ⟨g3, 0, none⟩) 5 c3) old_R underlying143 HSi.out rfl (by decide) (by decide) (by decide) (by decide) (by decide) fun t wx hR hd => str_app (base := w4.heap.size) (hd 1 (by kernel_rfl)) rfl (zbE HM4.out hR) hR.size (fun i hi => by rw [show i = 0 by omega]; rfl) (fun i hi => by rw [Nat.add_comm 1 i]; rfl)) <| .c stp <| .c (stf 1 underlying22 HGk4.out) .n
 intro tk4 wy hR hk
 simp only [fill, Ent.val, strG, strE, List.set_cons_zero, List.set_cons_succ, List.drop_succ_cons, List.drop_zero, List.drop_nil]
 obtain ⟨bq4, cq4, eq4, hq4⟩ : ∃ b c, tk4 3 = .slice (some ⟨b, 0, none⟩) 6 c /\ wy.ownsRow w4.heap.size 9 1 (.slice (some ⟨b, 0, none⟩) 6 c) 6 (zag (namS 121 S5) 6) := hk 3 (by omega)
 rw [eq4]
 have HOq : Hid (Old w4 wy) := hR
 clear hk hR eq4 HGk4
 go_upto_region 5 with (go_at_call 132; refine (HNy1.out _ _ _ _ hq4).mono ?_; rintro e w5 ⟨rfl, oq⟩)
 have HO50 : Hid (Old W w5) := (HO40.out.trans HOq.out).trans oq
 have HM5 : Hid (w5.ownsRow W2.heap.size 9 1 (.slice (some ⟨g3, 0, none⟩) 5 c3) 5 (zag S5 5)) := zbE HM4.out (HOq.out.trans oq)
 clear oq HOq hq4 HM4 HO40 HNy1
 have HGk5 : Hid (∀ wx, Old w5 wx -> wx.heap[gb]? = some (.cells (gc P Q G H a n cap) 25 (0, 0))) := fun wx ho => HG.out _ (HO50.out.trans ho)
 refine zaa 6 [.k (.string (strOfNums label)), strE w5.heap.size 1 (fun _ => [122]), .k (.slice (some ⟨g3, 0, none⟩) 5 c3), strG w5.heap.size (1 + 5) (namS 122 S5), .k (.pointer (some ⟨gb, 1, none⟩)), .k (.int .u64 Q)] (Old w5) (by kernel_rfl) (by kernel_rfl) rfl ((Old.refl _).drew) ?st ?_
 case st =>
  refine .c stp <| .c (stm (ob := fun _ => .cells #[.string (strOfNums [122])] 9) (v := fun s => .slice (some ⟨s, 0, none⟩) 1 1) old_R fun t wx hR _ => ⟨_, rfl, World.ownsRow_lit wx #[.string (strOfNums [122])] 1 hR.size (by unfold maxLen; omega) rfl⟩) <| .c stp <| .c (stA 1 5 (vs := fun t => t 1) (vx := fun t => .slice (some ⟨g3, 0, none⟩) 5 c3) old_R underlying143 HSi.out rfl (by decide) (by decide) (by decide) (by decide) (by decide) fun t wx hR hd => str_app (base := w5.heap.size) (hd 1 (by kernel_rfl)) rfl (zbE HM5.out hR) hR.size (fun i hi => by rw [show i = 0 by omega]; rfl) (fun i hi => by rw [Nat.add_comm 1 i]; rfl)) <| .c stp <| .c (stf 1 underlying22 HGk5.out) .n
 intro tk5 wy hR hk
 simp only [fill, Ent.val, strG, strE, List.set_cons_zero, List.set_cons_succ, List.drop_succ_cons, List.drop_zero, List.drop_nil]
 obtain ⟨bq5, cq5, eq5, hq5⟩ : ∃ b c, tk5 3 = .slice (some ⟨b, 0, none⟩) 6 c /\ wy.ownsRow w5.heap.size 9 1 (.slice (some ⟨b, 0, none⟩) 6 c) 6 (zag (namS 122 S5) 6) := hk 3 (by omega)
 rw [eq5]
 have HOq : Hid (Old w5 wy) := hR
 clear hk hR eq5 HGk5
 go_upto_region 6 with (go_at_call 132; refine (HNy2.out _ _ _ _ hq5).mono ?_; rintro e w6 ⟨rfl, oq⟩)
 have HO60 : Hid (Old W w6) := (HO50.out.trans HOq.out).trans oq
 have HM6 : Hid (w6.ownsRow W2.heap.size 9 1 (.slice (some ⟨g3, 0, none⟩) 5 c3) 5 (zag S5 5)) := zbE HM5.out (HOq.out.trans oq)
 clear oq HOq hq5 HM5 HO50 HNy2
 go_wp2_with fail
 go_ret3
 exact ⟨rfl, HW0.out.trans HO60.out⟩
end
section
open Go Go.RowKit
theorem chx8_eq (label : List Int) (P Q G H y : Int) (l : Nat) (C : NN) (no : Nat) (O : NN) (n : Nat) (A : NI) : zaj label (namS 120 (comS P Q G H y l C no O n A)) 5 Q = chX label Q (knwS P Q G H y l C no O) n A := by
 unfold chX
 exact zbg fun i hi => by
  match i, hi with
  | 0, _ => rfl
  | 1, _ => rfl
  | 2, _ => rfl
  | 3, _ => rfl
  | 4, _ => rfl
theorem chyz8_eq (c : Int) (label : List Int) (P Q G H y : Int) (l : Nat) (C : NN) (no : Nat) (O : NN) (n : Nat) (A B : NI) : zaj label (namS c (morS (comS P Q G H y l C no O n A) n B)) 6 Q = chYZ c label Q (knwS P Q G H y l C no O) n A B := by
 unfold chYZ
 exact zbg fun i hi => by
  match i, hi with
  | 0, _ => rfl
  | 1, _ => rfl
  | 2, _ => rfl
  | 3, _ => rfl
  | 4, _ => rfl
  | 5, _ => rfl
end
section
open Go Go.RowKit
theorem own_ne8 {w : World} {base b n : Nat} {v : Value} {F : NI} {cs : Array Value} {ty : TypeId} (ht : ty ≠ 22) (h : Nums w base v n F) (hb : w.heap[b]? = some (.cells cs ty (0, 0))) : v.ownBlock ≠ some b := by
 rcases h.2 with ⟨rfl, _⟩ | ⟨g, cap, cur, rfl, _, hg, _⟩
 ·simp [Value.ownBlock]
 ·intro he
  have : g = b := by simpa [Value.ownBlock] using he
  subst this
  rw [hb] at hg
  cases hg
  exact ht rfl
theorem rpro_any (P Q G H : Int) (a : OA) (m cap : Nat) (label : List Int) (y : Int) (bi : OA) (ci : Nat) (C : NN) (bo : OA) (co : Nat) (O : NI) (bρ : OA) (cρ : Nat) (Rh : NN) (bR : OA) (cR : Nat) (R : NI) (bS : OA) (cS : Nat) (S : NI) (bT : OA) (cT : Nat) (T : NI) (bD : OA) (nD cD : Nat) (D : NI) (n : Nat) (Xc Yc Zc : Int) (A B Pp : NI) (M : NN) (E K Zf : NI) (w : World) (h1n : 0 < n) (hn : n <= 8) (h4 : Four P Q G H) (hr : Righ P Q G) (hy : U64 y) (hlb : Bts label) (hll : label.length <= 1000) (hcT : n <= cT /\ cT <= 9223372036854775807) (hcD : nD <= cD)
  (hC : BoxsIn w bi n C) (hO : IntsIn w bo n O) (hρ : RhoIn w bρ n Rh) (hR : FacsIn w bR n R) (hS : FacsIn w bS n S) (hT : FacsIn w bT n T) (hD : FacsIn w bD nD D) (hmx : mixB P Q y n C n O n = true) (hdr : drwB n n n n nD = true) (hor : ordR n O = true)
  (hM : M = mixC P Q G y C O Rh) (hXc : Xc = chX label Q (knwS P Q G H y n C n M) n A) (hYc : Yc = chYZ 121 label Q (knwS P Q G H y n C n M) n A B) (hZc : Zc = chYZ 122 label Q (knwS P Q G H y n C n M) n A B)
  (hA : A = fun i => comI P Q G H (O i + 1) (R i)) (hB : B = fun i => comI P Q G H (powI Xc (O i + 1) Q) (S i)) (hP : Pp = thiI P Q G H Xc Yc Zc A B O T)
  (hE : E = exF Q Xc Yc Zc n (fun i => (O i).toNat) R S T Rh) (hK : K = fun j => imI P Q ((bas8 n Pp G H y (fun j w => M j (2 * w)) (fun j w => M j (2 * w + 1))) j) D (sizeN P Q (4 * n + 6) (tgtT P Q G Xc Yc Zc n A B Pp (fun j w => C j (2 * w)) (fun j w => C j (2 * w + 1))) (4 * n + 6) (fun _ => 7 * n + 3) (bas8 n Pp G H y (fun j w => M j (2 * w)) (fun j w => M j (2 * w + 1))))) (hZ : Zf = fun k => ansI Q (chI label P Q G H (4 * n + 6) (tgtT P Q G Xc Yc Zc n A B Pp (fun j w => C j (2 * w)) (fun j w => C j (2 * w + 1))) (4 * n + 6) (fun _ => 7 * n + 3) (bas8 n Pp G H y (fun j w => M j (2 * w)) (fun j w => M j (2 * w + 1))) (4 * n + 6) K) (E k) (D k))
  (hck : clmB P Q G y n C n M n A n B n Pp Yc Zc = true) (hpv : provB (sizeN P Q (4 * n + 6) (tgtT P Q G Xc Yc Zc n A B Pp (fun j w => C j (2 * w)) (fun j w => C j (2 * w + 1))) (4 * n + 6) (fun _ => 7 * n + 3) (bas8 n Pp G H y (fun j w => M j (2 * w)) (fun j w => M j (2 * w + 1)))) (7 * n + 3) nD = true) :
  Calls prog 32 #[gv P Q G H a m cap, .string (strOfNums label), .int .u64 y, .slice bi n ci, .slice bo n co, dv bρ n cρ bR n cR bS n cS bT n cT bD nD cD] w (GivS w true n M A B Pp (4 * n + 6) K (7 * n + 3) Zf) := by
 have uX : U64 Xc := by rw [hXc]; exact zat _ _ _ _
 have uY : U64 Yc := by rw [hYc]; exact zat _ _ _ _
 have uZ : U64 Zc := by rw [hZc]; exact zat _ _ _ _
 have HMx : Hid (∀ wx, Old w wx -> Calls prog 16 #[gv P Q G H a m cap, .int .u64 y, .slice bi n ci, .slice bo n co, .slice bρ n cρ] wx fun e w' => Old wx w' /\ ∃ b c, e = .returned (.tuple #[.slice b n c, .bool true]) /\ BoxF w' b n M) := fun wx ho => (rmix8_any P Q G H a m cap y bi n ci C bo n co O bρ n cρ Rh wx h4 hr hy (by omega) (by omega) (by omega) (hC.old ho) (hO.old ho) (hρ.old ho)).mono fun e w' h => by
  rw [hmx, <- hM] at h
  exact h
 have HFi : Hid (∀ wx, Old w wx -> Calls prog 21 #[gv P Q G H a m cap, .slice bo n co, .slice bR n cR] wx fun e w' => Old wx w' /\ ∃ b c, e = .returned (.slice b n c) /\ Nums w' wx.heap.size (.slice b n c) n A) := fun wx ho => (rfirst8_any P Q G H a m cap bo n co O bR cR R wx h4 hor (hO.old ho) (hR.old ho)).mono fun e w' ⟨k, v, he, hN⟩ => by
  obtain ⟨b, c, rfl, q1, q2, hf⟩ := hN.facs2 (fun i _ => zaQ _ _ _ _ _ _)
  rw [hA]
  exact ⟨k, b, c, he, hN⟩
 have HSe : Hid (∀ wx, Old w wx -> Calls prog 23 #[gv P Q G H a m cap, .slice bo n co, .int .u64 Xc, .slice bS n cS] wx fun e w' => Old wx w' /\ ∃ b c, e = .returned (.slice b n c) /\ Nums w' wx.heap.size (.slice b n c) n B) := fun wx ho => (rsecond8_any P Q G H a m cap bo n co O Xc bS cS S wx h4 uX hor (hO.old ho) (hS.old ho)).mono fun e w' ⟨k, v, he, hN⟩ => by
  obtain ⟨b, c, rfl, q1, q2, hf⟩ := hN.facs2 (fun i _ => zaQ _ _ _ _ _ _)
  rw [hB]
  exact ⟨k, b, c, he, hN⟩
 have HTh : Hid (∀ wx ba ca bb cb bp np cp, Old w wx -> FacsIn wx ba n A -> FacsIn wx bb n B -> Calls prog 25 #[gv P Q G H a m cap, .slice bo n co, tk ba n ca Xc bb n cb Yc Zc bp np cp, dv bρ n cρ bR n cR bS n cS bT n cT bD nD cD] wx fun e w' => Old wx w' /\ ∃ b c, e = .returned (.slice b n c) /\ Nums w' wx.heap.size (.slice b n c) n Pp) := fun wx ba ca bb cb bp np cp ho ha hb => (rthird8_any P Q G H a m cap bo n co O ba ca A Xc bb cb B Yc Zc bp np cp bρ n cρ bR n cR bS n cS bT cT T bD nD cD wx h4 uX uY uZ hor (hO.old ho) ha hb (hT.old ho)).mono fun e w' ⟨k, v, he, hN⟩ => by
  obtain ⟨b, c, rfl, q1, q2, hf⟩ := hN.facs2 (fun i _ => zcc _ _ _ _ _ _ _ _ _ _ _ i)
  rw [hP]
  exact ⟨k, b, c, he, hN⟩
 have HAu : Hid (∀ i, U64 (A i)) := fun i => by rw [hA]; exact zaQ _ _ _ _ _ _
 have HBu : Hid (∀ i, U64 (B i)) := fun i => by rw [hB]; exact zaQ _ _ _ _ _ _
 have HPu : Hid (∀ i, U64 (Pp i)) := fun i => by rw [hP]; exact zcc _ _ _ _ _ _ _ _ _ _ _ i
 have hMu : ∀ j k, j < n -> k < 6 -> U64 (M j k) := fun j k hj hk => by rw [hM]; exact zdO _ _ _ _ _ _ _ j k
 have hck2 := hck
 unfold clmB at hck2
 rw [Bool.and_eq_true_iff, Bool.and_eq_true_iff, decide_eq_true_eq] at hck2
 have HCl : Hid (∀ wx bm cm ba ca bb cb bp cp, Old w wx -> BoxsIn wx bm n M -> FacsIn wx ba n A -> FacsIn wx bb n B -> FacsIn wx bp n Pp -> Calls prog 29 #[gv P Q G H a m cap, .int .u64 y, .slice bi n ci, .slice bm n cm, tk ba n ca Xc bb n cb Yc Zc bp n cp] wx (GivD wx true (4 * n + 6) (tgtT P Q G Xc Yc Zc n A B Pp (fun j w => C j (2 * w)) (fun j w => C j (2 * w + 1))) (fun _ => 7 * n + 3) (bas8 n Pp G H y (fun j w => M j (2 * w)) (fun j w => M j (2 * w + 1))))) := fun wx bm cm ba ca bb cb bp cp ho hb ha hbb hp => rclm8_yes P Q G H a m cap y bi ci C bm cm M ba ca A Xc bb cb B Yc Zc bp cp Pp n wx h1n hn h4 hy uX uY uZ (hC.old ho) hb ha hbb hp hck2.2.1 hck2.2.2
 have HTu : Hid (∀ j, U64 ((tgtT P Q G Xc Yc Zc n A B Pp (fun j w => C j (2 * w)) (fun j w => C j (2 * w + 1))) j)) := u64_tgt (fun i _ => HAu.out i) (fun i _ => HBu.out i) (fun i _ => HPu.out i)
 have HRu : Hid (∀ j, j < 4 * n + 6 -> ∀ k, U64 ((bas8 n Pp G H y (fun j w => M j (2 * w)) (fun j w => M j (2 * w + 1))) j k)) := u64_bas ⟨h4.g0, h4.g1⟩ ⟨h4.h0, h4.h1⟩ hy (fun i _ => HPu.out i) (fun i k hi hk => hMu i k hi hk)
 clear hck2
 have HEx : Hid (∀ wx ba ca bb cb bp np cp, Old w wx -> Calls prog 27 #[gv P Q G H a m cap, .slice bo n co, tk ba n ca Xc bb n cb Yc Zc bp np cp, dv bρ n cρ bR n cR bS n cS bT n cT bD nD cD] wx fun e w' => Old wx w' /\ ∃ v, e = .returned v /\ Nums w' wx.heap.size v (7 * n + 3) E) := fun wx ba ca bb cb bp np cp ho => (rexp8_yes P Q G H a m cap bo co O ba n ca Xc bb n cb Yc Zc bp np cp bρ cρ Rh bR cR R bS cS S bT cT T bD nD cD n wx (by have := hr.q1'; omega) ⟨h4.q0, h4.q1⟩ uX uY uZ hor (hO.old ho) (hρ.old ho) (hR.old ho) (hS.old ho) (hT.old ho)).mono fun e w' hg => by
  rw [hE]
  exact hg.list (by omega)
 have HEu : Hid (∀ i, i < 7 * n + 3 -> U64 (E i)) := fun i _ => by rw [hE]; exact u64_exF8 hr.q1' h4.q1 i
 have HPv : Hid (∀ wx bt ct b2 c2 BA Cc be ce, Old w wx -> ClaimIn wx bt (4 * n + 6) ct (tgtT P Q G Xc Yc Zc n A B Pp (fun j w => C j (2 * w)) (fun j w => C j (2 * w + 1))) b2 (4 * n + 6) c2 BA (fun _ => 7 * n + 3) Cc (bas8 n Pp G H y (fun j w => M j (2 * w)) (fun j w => M j (2 * w + 1))) -> FacsIn wx be (7 * n + 3) E -> 7 * n + 3 <= ce -> Calls prog 92 #[gv P Q G H a m cap, .string (strOfNums label), cv bt (4 * n + 6) ct b2 (4 * n + 6) c2, .slice be (7 * n + 3) ce, .slice bD nD cD] wx (GivesP wx true (4 * n + 6) K (7 * n + 3) Zf)) := fun wx bt ct b2 c2 BA Cc be ce ho hc he hce => by
  have h := rprove_any label P Q G H a m cap bt (4 * n + 6) ct (tgtT P Q G Xc Yc Zc n A B Pp (fun j w => C j (2 * w)) (fun j w => C j (2 * w + 1))) b2 (4 * n + 6) c2 BA (fun _ => 7 * n + 3) Cc (bas8 n Pp G H y (fun j w => M j (2 * w)) (fun j w => M j (2 * w + 1))) be (7 * n + 3) ce E bD nD cD D K hK wx h4 hlb hll (by omega) (by omega) (fun j _ => by show 7 * n + 3 <= 80; omega) (by omega) hc he (hD.old ho)
  rw [hpv, <- hZ] at h
  exact h
 obtain ⟨Tg, hTg⟩ : ∃ Tg, Tg = (tgtT P Q G Xc Yc Zc n A B Pp (fun j w => C j (2 * w)) (fun j w => C j (2 * w + 1))) := ⟨_, rfl⟩
 obtain ⟨Bg, hBg⟩ : ∃ Bg, Bg = (bas8 n Pp G H y (fun j w => M j (2 * w)) (fun j w => M j (2 * w + 1))) := ⟨_, rfl⟩
 rw [<- hTg, <- hBg] at HCl HPv
 rw [<- hTg] at HTu
 rw [<- hBg] at HRu
 clear hTg hBg hMu hck hpv hK hZ hE
 have HCh : Hid (∀ wx ba ca bb nb cb bm cm, nb <= 80 -> Old w wx -> BoxsIn wx bm n M -> FacsIn wx ba n A -> FacsIn wx bb nb B -> Calls prog 91 #[gv P Q G H a m cap, .string (strOfNums label), .int .u64 y, .slice bi n ci, .slice bm n cm, .agg #[.slice ba n ca, .slice bb nb cb, .slice none 0 0, .slice none 0 0, .slice none 0 0]] wx (Ret wx (.tuple #[.int .u64 Xc, .int .u64 (zaj label (namS 121 (morS (comS P Q G H y n C n M n A) nb B)) 6 Q), .int .u64 (zaj label (namS 122 (morS (comS P Q G H y n C n M n A) nb B)) 6 Q)]))) := fun wx ba ca bb nb cb bm cm h80 ho hb ha hbb => by
  rw [hXc, <- chx8_eq]
  exact rchal8_any P Q G H a m cap label y bi n ci C bm n cm M ba n ca A bb nb cb B none 0 0 none 0 0 none 0 0 wx h4 hlb hll hy (by omega) (by omega) (by omega) (by omega) (hC.old ho) hb ha hbb
 have HCh1 : Hid (∀ wx ba ca bm cm, Old w wx -> BoxsIn wx bm n M -> FacsIn wx ba n A -> Calls prog 91 #[gv P Q G H a m cap, .string (strOfNums label), .int .u64 y, .slice bi n ci, .slice bm n cm, .agg #[.slice ba n ca, .slice none 0 0, .slice none 0 0, .slice none 0 0, .slice none 0 0]] wx fun e w' => ∃ y1 z1, e = .returned (.tuple #[.int .u64 Xc, .int .u64 y1, .int .u64 z1]) /\ Old wx w') := fun wx ba ca bm cm ho hb ha => (HCh.out wx ba ca none 0 0 bm cm (by omega) ho hb ha (Or.inl rfl)).mono fun e w' h => ⟨_, _, h⟩
 have HCh2 : Hid (∀ wx ba ca bb cb bm cm, Old w wx -> BoxsIn wx bm n M -> FacsIn wx ba n A -> FacsIn wx bb n B -> Calls prog 91 #[gv P Q G H a m cap, .string (strOfNums label), .int .u64 y, .slice bi n ci, .slice bm n cm, .agg #[.slice ba n ca, .slice bb n cb, .slice none 0 0, .slice none 0 0, .slice none 0 0]] wx (Ret wx (.tuple #[.int .u64 Xc, .int .u64 Yc, .int .u64 Zc]))) := fun wx ba ca bb cb bm cm ho hb ha hbb => by
  have h := HCh.out wx ba ca bb n cb bm cm (by omega) ho hb ha hbb
  rw [chyz8_eq, chyz8_eq, <- hYc, <- hZc] at h
  exact h
 have HnD : Hid (nD = 7 * n + 3) := (zb6.1 hdr).2.2.2
 clear HCh hYc hZc hXc hM hA hB hP hmx hdr hor hC hO hρ hR hS hT hD uX uY uZ h4 hr hy hlb hll hcT hcD
 have HZ := lain3 w (gc P Q G H a m cap) (dvc bρ n cρ bR n cR bS n cS bT n cT bD nD cD) #[.slice none 0 0, .slice none 0 0, .slice none 0 0, .slice none 0 0, .slice none 0 0] 25 31 57
 have HG0 := fun w' ho => (HZ.then (W' := w') ho).row 0 (by simp)
 have HD0 := fun w' ho => (HZ.then (W' := w') ho).row 1 (by simp)
 have HS0 := fun w' ho => (HZ.then (W' := w') ho).row 2 (by simp)
 have HW0 : Hid (Old w (((w.alloc (.cells (gc P Q G H a m cap) 25)).alloc (.cells (dvc bρ n cρ bR n cR bS n cS bT n cT bD nD cD) 31)).alloc (.cells #[.slice none 0 0, .slice none 0 0, .slice none 0 0, .slice none 0 0, .slice none 0 0] 57))) := HZ.old
 clear HZ
 go_enter func32, ntmps32
 go_upto_region 1 with fail
 generalize ((w.alloc (.cells (gc P Q G H a m cap) 25)).alloc (.cells (dvc bρ n cρ bR n cR bS n cS bT n cT bD nD cD) 31)).alloc (.cells #[.slice none 0 0, .slice none 0 0, .slice none 0 0, .slice none 0 0, .slice none 0 0] 57) = W1 at *
 have HG : Hid (∀ wx, Old W1 wx -> wx.heap[w.heap.size]? = some (.cells (gc P Q G H a m cap) 25 (0, 0))) := HG0
 have HDd : Hid (∀ wx, Old W1 wx -> wx.heap[w.heap.size + 1]? = some (.cells (dvc bρ n cρ bR n cR bS n cS bT n cT bD nD cD) 31 (0, 0))) := HD0
 have HSh : Hid (∀ wx, Old W1 wx -> wx.heap[w.heap.size + 1 + 1]? = some (.cells #[.slice none 0 0, .slice none 0 0, .slice none 0 0, .slice none 0 0, .slice none 0 0] 57 (0, 0))) := HS0
 clear HG0 HD0 HS0
 obtain ⟨gb, hgb⟩ : ∃ gb, gb = w.heap.size := ⟨_, rfl⟩
 rw [<- hgb] at HG HDd HSh
 rw [<- hgb]
 have HGs : Hid (w.heap.size <= gb + 1 + 1) := by unfold Hid; omega
 clear hgb
 have HGc : Hid (∀ wx, Old W1 wx -> G5 wx (gb) P Q G H (.slice a m cap)) := fun wx ho => g5 (HG.out _ ho)
 have HDc : Hid (∀ wx, Old W1 wx -> wx.cell? ⟨gb + 1, 0, none⟩ = some (.slice bρ n cρ) /\ wx.cell? ⟨gb + 1, 1, none⟩ = some (.slice bR n cR) /\ wx.cell? ⟨gb + 1, 2, none⟩ = some (.slice bS n cS) /\ wx.cell? ⟨gb + 1, 3, none⟩ = some (.slice bT n cT) /\ wx.cell? ⟨gb + 1, 4, none⟩ = some (.slice bD nD cD)) := fun wx ho => g5 (HDd.out _ ho)
 obtain ⟨g0, g1, g2, g3, g4⟩ := HGc.out _ (Old.refl _)
 obtain ⟨d0, d1, d2, d3, d4⟩ := HDc.out _ (Old.refl _)
 go_upto_region 2 with (go_at_call 16; refine (HMx.out _ HW0.out).mono ?_; rintro e w2 ⟨o2, bm, cm, rfl, hbm⟩)
 clear g0 g1 g2 g3 g4 d0 d1 d2 d3 d4 HMx
 have HO2 : Hid (Old W1 w2) := o2
 have HB2 : Hid (BoxF w2 bm n M) := hbm
 clear o2 hbm
 obtain ⟨d0, d1, d2, d3, d4⟩ := HDc.out _ HO2.out
 have e1 : IntKind.i64.wrap (7 * (n : Int)) = 7 * (n : Int) := by rw [IntKind.wrap_i64]; omega
 have e2 : IntKind.i64.wrap (7 * (n : Int) + 3) = 7 * (n : Int) + 3 := by rw [IntKind.wrap_i64]; omega
 have e3 : (nD : Int) = 7 * (n : Int) + 3 := by have := HnD.out; omega
 go_upto_region 5 with fail
 clear d0 d1 d2 d3 d4 e1 e2 e3
 obtain ⟨g0, g1, g2, g3, g4⟩ := HGc.out _ HO2.out
 obtain ⟨d0, d1, d2, d3, d4⟩ := HDc.out _ HO2.out
 go_upto_region 6 with (go_at_call 21; refine (HFi.out _ (HW0.out.trans HO2.out)).mono ?_; rintro e w3 ⟨o3, ba, ca, rfl, hfa⟩)
 clear g0 g1 g2 g3 g4 d0 d1 d2 d3 d4 HFi
 have HO3 : Hid (Old W1 w3) := HO2.out.trans o3
 have HB3 : Hid (BoxF w3 bm n M) := HB2.out.old o3
 have HNa3 : Hid (Nums w3 w.heap.size (.slice ba n ca) n A) := hfa.mono (HW0.out.trans HO2.out).size
 have HO34 : Hid (Old w3 (w3.alloc (.cells #[.slice ba n ca, .slice none 0 0, .slice none 0 0, .slice none 0 0, .slice none 0 0] 57))) := (Old.refl _).alloc _
 have HR4 : Hid ((w3.alloc (.cells #[.slice ba n ca, .slice none 0 0, .slice none 0 0, .slice none 0 0, .slice none 0 0] 57)).heap[w3.heap.size]? = some (.cells #[.slice ba n ca, .slice none 0 0, .slice none 0 0, .slice none 0 0, .slice none 0 0] 57 (0, 0))) := heap_alloc_last _ _
 clear o3 hfa HB2 HO2
 generalize w3.alloc (.cells #[.slice ba n ca, .slice none 0 0, .slice none 0 0, .slice none 0 0, .slice none 0 0] 57) = w4 at *
 obtain ⟨sb, hsb⟩ : ∃ sb, sb = w3.heap.size := ⟨_, rfl⟩
 rw [<- hsb] at HR4
 rw [<- hsb]
 have Hsb : Hid (w3.heap.size <= sb) := by unfold Hid; omega
 clear hsb
 have HO4 : Hid (Old W1 w4) := HO3.out.trans HO34.out
 obtain ⟨g0, g1, g2, g3, g4⟩ := HGc.out _ HO4.out
 obtain ⟨s0, s1, s2, s3, s4⟩ := g5 HR4.out
 have HFa4 : Hid (FacsIn w4 ba n A) := zas (HNa3.out.old HO34.out) HAu.out
 go_upto_region 7 with (go_at_call 91; refine (HCh1.out _ ba ca bm cm (HW0.out.trans HO4.out) (HB3.out.old HO34.out).boxs HFa4.out).mono ?_; rintro e w5 ⟨y1, z1, rfl, o5⟩)
 clear g0 g1 g2 g3 g4 s0 s1 s2 s3 s4 HFa4 HCh1
 have HO35 : Hid (Old w3 w5) := HO34.out.trans o5
 have HR5 : Hid (w5.heap[sb]? = some (.cells #[.slice ba n ca, .slice none 0 0, .slice none 0 0, .slice none 0 0, .slice none 0 0] 57 (0, 0))) := (o5.block _ (zah HR4.out)).trans HR4.out
 have Hsb5 : Hid (sb < w5.heap.size) := zah HR5.out
 have H5s : Hid (w.heap.size <= w5.heap.size) := ((HW0.out.trans HO3.out).trans HO35.out).size
 clear o5 HR4 HO34 HO4
 obtain ⟨g0, g1, g2, g3, g4⟩ := HGc.out _ (HO3.out.trans HO35.out)
 obtain ⟨d0, d1, d2, d3, d4⟩ := HDc.out _ (HO3.out.trans HO35.out)
 go_upto_region 8 with (go_at_call 23; refine (HSe.out _ ((HW0.out.trans HO3.out).trans HO35.out)).mono ?_; rintro e w6 ⟨o6, bb, cb, rfl, hfb⟩; have hr6 := (o6.block _ Hsb5.out).trans HR5.out; have q1 : w6.cell? ⟨sb, 1, none⟩ = some (.slice none 0 0) := cell_of_row _ _ 1 _ _ (0, 0) hr6; have f1 : w6.frozen? ⟨sb, 1, none⟩ = false := zac hr6 1)
 clear g0 g1 g2 g3 g4 d0 d1 d2 d3 d4 q1 f1 HSe
 have HR7 : Hid ((w6.setCell ⟨sb, 1, none⟩ (.slice bb n cb)).heap[sb]? = some (.cells #[.slice ba n ca, .slice bb n cb, .slice none 0 0, .slice none 0 0, .slice none 0 0] 57 (0, 0))) := by
  have := zaq hr6 1 (.slice bb n cb)
  unfold Hid; simpa using this
 have HO37 : Hid (Old w3 (w6.setCell ⟨sb, 1, none⟩ (.slice bb n cb))) := (HO35.out.trans o6).setCell (p := ⟨sb, 1, none⟩) Hsb.out _
 have HNb7 : Hid (Nums (w6.setCell ⟨sb, 1, none⟩ (.slice bb n cb)) w5.heap.size (.slice bb n cb) n B) := ownsRow_setCell_below hfb (a := ⟨sb, 1, none⟩) Hsb5.out _
 clear hr6 o6 hfb HR5 HO35
 generalize w6.setCell ⟨sb, 1, none⟩ (.slice bb n cb) = w7 at *
 obtain ⟨g0, g1, g2, g3, g4⟩ := HGc.out _ (HO3.out.trans HO37.out)
 obtain ⟨s0, s1, s2, s3, s4⟩ := g5 HR7.out
 have HFa7 : Hid (FacsIn w7 ba n A) := zas (HNa3.out.old HO37.out) HAu.out
 have HFb7 : Hid (FacsIn w7 bb n B) := zas HNb7.out HBu.out
 go_upto_region 9 with (go_at_call 91; refine (HCh2.out _ ba ca bb cb bm cm ((HW0.out.trans HO3.out).trans HO37.out) (HB3.out.old HO37.out).boxs HFa7.out HFb7.out).mono ?_; rintro e w8 ⟨rfl, o8⟩)
 clear g0 g1 g2 g3 g4 s0 s1 s2 s3 s4 HFa7 HFb7 HCh2
 have HR8 : Hid (w8.heap[sb]? = some (.cells #[.slice ba n ca, .slice bb n cb, .slice none 0 0, .slice none 0 0, .slice none 0 0] 57 (0, 0))) := (o8.block _ (zah HR7.out)).trans HR7.out
 have s0 : w8.cell? ⟨sb, 0, none⟩ = some (.slice ba n ca) := cell_of_row _ _ 0 _ _ (0, 0) HR8.out
 have s1 : w8.cell? ⟨sb, 1, none⟩ = some (.slice bb n cb) := cell_of_row _ _ 1 _ _ (0, 0) HR8.out
 go_upto_region 10 with fail
 clear s0 s1
 have HO89 : Hid (Old w8 (w8.alloc (.cells (tkc ba n ca Xc bb n cb Yc Zc none 0 0) 41))) := (Old.refl _).alloc _
 have HO39 : Hid (Old w3 (w8.alloc (.cells (tkc ba n ca Xc bb n cb Yc Zc none 0 0) 41))) := (HO37.out.trans o8).trans HO89.out
 have HNb9 : Hid (Nums (w8.alloc (.cells (tkc ba n ca Xc bb n cb Yc Zc none 0 0) 41)) w5.heap.size (.slice bb n cb) n B) := HNb7.out.old (o8.trans HO89.out)
 have HR9 : Hid ((w8.alloc (.cells (tkc ba n ca Xc bb n cb Yc Zc none 0 0) 41)).heap[sb]? = some (.cells #[.slice ba n ca, .slice bb n cb, .slice none 0 0, .slice none 0 0, .slice none 0 0] 57 (0, 0))) := (HO89.out.block _ (zah HR8.out)).trans HR8.out
 have HQ9 : Hid ((w8.alloc (.cells (tkc ba n ca Xc bb n cb Yc Zc none 0 0) 41)).heap[w8.heap.size]? = some (.cells (tkc ba n ca Xc bb n cb Yc Zc none 0 0) 41 (0, 0))) := heap_alloc_last _ _
 have Htb3 : Hid (w3.heap.size <= w8.heap.size) := (HO37.out.trans o8).size
 have Hst : Hid (sb ≠ w8.heap.size) := Nat.ne_of_lt (zah HR8.out)
 clear o8 HR7 HR8 HNb7 HO37 HO89
 generalize w8.alloc (.cells (tkc ba n ca Xc bb n cb Yc Zc none 0 0) 41) = w9 at *
 generalize w8.heap.size = tb at *
 have Htb9 : Hid (tb < w9.heap.size) := zah HQ9.out
 have Hsb9 : Hid (sb < w9.heap.size) := zah HR9.out
 have H9s : Hid (w.heap.size <= w9.heap.size) := ((HW0.out.trans HO3.out).trans HO39.out).size
 obtain ⟨g0, g1, g2, g3, g4⟩ := HGc.out _ (HO3.out.trans HO39.out)
 obtain ⟨d0, d1, d2, d3, d4⟩ := HDc.out _ (HO3.out.trans HO39.out)
 obtain ⟨t0, t1, t2, t3, t4, t5⟩ := g6 HQ9.out
 have HFa9 : Hid (FacsIn w9 ba n A) := zas (HNa3.out.old HO39.out) HAu.out
 have HFb9 : Hid (FacsIn w9 bb n B) := zas HNb9.out HBu.out
 go_upto_region 11 with (go_at_call 25; refine (HTh.out _ _ _ _ _ _ _ _ ((HW0.out.trans HO3.out).trans HO39.out) HFa9.out HFb9.out).mono ?_; rintro e wa ⟨oa, bp, cp, rfl, hfp⟩; have hra := (oa.block _ Hsb9.out).trans HR9.out; have q1 : wa.cell? ⟨sb, 2, none⟩ = some (.slice none 0 0) := cell_of_row _ _ 2 _ _ (0, 0) hra; have f1 : wa.frozen? ⟨sb, 2, none⟩ = false := zac hra 2)
 clear g0 g1 g2 g3 g4 d0 d1 d2 d3 d4 t0 t1 t2 t3 t4 t5 q1 f1 HFa9 HFb9 HTh
 have HRb : Hid ((wa.setCell ⟨sb, 2, none⟩ (.slice bp n cp)).heap[sb]? = some (.cells #[.slice ba n ca, .slice bb n cb, .slice bp n cp, .slice none 0 0, .slice none 0 0] 57 (0, 0))) := by
  have := zaq hra 2 (.slice bp n cp)
  unfold Hid; simpa using this
 have HQb : Hid ((wa.setCell ⟨sb, 2, none⟩ (.slice bp n cp)).heap[tb]? = some (.cells (tkc ba n ca Xc bb n cb Yc Zc none 0 0) 41 (0, 0))) := by
  have h := (oa.block _ Htb9.out).trans HQ9.out
  exact (Below.heap_setCell _ ⟨sb, 2, none⟩ _ _ (Ne.symm Hst.out)).trans h
 have HO3b : Hid (Old w3 (wa.setCell ⟨sb, 2, none⟩ (.slice bp n cp))) := (HO39.out.trans oa).setCell (p := ⟨sb, 2, none⟩) Hsb.out _
 have HNbb : Hid (Nums (wa.setCell ⟨sb, 2, none⟩ (.slice bp n cp)) w5.heap.size (.slice bb n cb) n B) := ownsRow_setCell_below (HNb9.out.old oa) (a := ⟨sb, 2, none⟩) Hsb5.out _
 have HNpb : Hid (Nums (wa.setCell ⟨sb, 2, none⟩ (.slice bp n cp)) w9.heap.size (.slice bp n cp) n Pp) := ownsRow_setCell_below hfp (a := ⟨sb, 2, none⟩) Hsb9.out _
 clear hra oa hfp HR9 HQ9 HO39 HNb9
 generalize wa.setCell ⟨sb, 2, none⟩ (.slice bp n cp) = wb at *
 have s2 : wb.cell? ⟨sb, 2, none⟩ = some (.slice bp n cp) := cell_of_row _ _ 2 _ _ (0, 0) HRb.out
 have q1 : wb.cell? ⟨tb, 5, none⟩ = some (.slice none 0 0) := cell_of_row _ _ 5 _ _ (0, 0) HQb.out
 have f1 : wb.frozen? ⟨tb, 5, none⟩ = false := zac HQb.out 5
 have HRc : Hid ((wb.setCell ⟨tb, 5, none⟩ (.slice bp n cp)).heap[sb]? = some (.cells #[.slice ba n ca, .slice bb n cb, .slice bp n cp, .slice none 0 0, .slice none 0 0] 57 (0, 0))) := (Below.heap_setCell _ ⟨tb, 5, none⟩ _ _ Hst.out).trans HRb.out
 have HQc : Hid ((wb.setCell ⟨tb, 5, none⟩ (.slice bp n cp)).heap[tb]? = some (.cells (tkc ba n ca Xc bb n cb Yc Zc bp n cp) 41 (0, 0))) := by
  have := zaq HQb.out 5 (.slice bp n cp)
  unfold Hid; simpa using this
 have HO3c : Hid (Old w3 (wb.setCell ⟨tb, 5, none⟩ (.slice bp n cp))) := HO3b.out.setCell (p := ⟨tb, 5, none⟩) Htb3.out _
 have HNbc : Hid (Nums (wb.setCell ⟨tb, 5, none⟩ (.slice bp n cp)) w5.heap.size (.slice bb n cb) n B) := own_oth8 HNbb.out (p := ⟨tb, 5, none⟩) (own_ne8 (by decide) HNbb.out HQb.out) _
 have HNpc : Hid (Nums (wb.setCell ⟨tb, 5, none⟩ (.slice bp n cp)) w9.heap.size (.slice bp n cp) n Pp) := ownsRow_setCell_below HNpb.out (a := ⟨tb, 5, none⟩) Htb9.out _
 clear HRb HQb HO3b HNbb HNpb
 go_upto_region 12 with fail
 clear s2 q1 f1
 generalize wb.setCell ⟨tb, 5, none⟩ (.slice bp n cp) = wc at *
 have HOc : Hid (Old W1 wc) := HO3.out.trans HO3c.out
 obtain ⟨g0, g1, g2, g3, g4⟩ := HGc.out _ HOc.out
 obtain ⟨t0, t1, t2, t3, t4, t5⟩ := g6 HQc.out
 have HFac : Hid (FacsIn wc ba n A) := zas (HNa3.out.old HO3c.out) HAu.out
 have HFbc : Hid (FacsIn wc bb n B) := zas HNbc.out HBu.out
 have HFpc : Hid (FacsIn wc bp n Pp) := zas HNpc.out HPu.out
 go_upto_region 13 with (go_at_call 29; refine (HCl.out _ _ cm _ _ _ _ _ _ (HW0.out.trans HOc.out) (HB3.out.old HO3c.out).boxs HFac.out HFbc.out HFpc.out).mono ?_; intro e we hd; obtain ⟨bt, ct, b2, c2, BA, Cc, rfl, oe, hcl⟩ := GivD.made hd (fun j _ => HTu.out j) (fun j hj i _ => HRu.out j hj i))
 clear t0 t1 t2 t3 t4 t5 g0 g1 g2 g3 g4 hd HFac HFbc HFpc HTu HRu HCl HGc HDc
 have HOe : Old we (we.alloc (.cells #[.slice bt (4 * n + 6) ct, .slice b2 (4 * n + 6) c2] 50)) := (Old.refl _).alloc _
 have HOcf : Hid (Old wc (we.alloc (.cells #[.slice bt (4 * n + 6) ct, .slice b2 (4 * n + 6) c2] 50))) := oe.trans HOe
 have HCf : Hid (ClaimIn (we.alloc (.cells #[.slice bt (4 * n + 6) ct, .slice b2 (4 * n + 6) c2] 50)) bt (4 * n + 6) ct Tg b2 (4 * n + 6) c2 BA (fun _ => 7 * n + 3) Cc Bg) := hcl.old HOe
 have HRf : Hid ((we.alloc (.cells #[.slice bt (4 * n + 6) ct, .slice b2 (4 * n + 6) c2] 50)).heap[we.heap.size]? = some (.cells #[.slice bt (4 * n + 6) ct, .slice b2 (4 * n + 6) c2] 50 (0, 0))) := heap_alloc_last _ _
 clear HOe hcl oe
 generalize we.alloc (.cells #[.slice bt (4 * n + 6) ct, .slice b2 (4 * n + 6) c2] 50) = wf at *
 generalize we.heap.size = lb8 at *
 have HGf : Hid (∀ wx, Old wf wx -> wx.heap[gb]? = some (.cells (gc P Q G H a m cap) 25 (0, 0))) := fun wx ho => HG.out wx ((HOc.out.trans HOcf.out).trans ho)
 have HDf : Hid (∀ wx, Old wf wx -> wx.heap[gb + 1]? = some (.cells (dvc bρ n cρ bR n cR bS n cS bT n cT bD nD cD) 31 (0, 0))) := fun wx ho => HDd.out wx ((HOc.out.trans HOcf.out).trans ho)
 have HTf : Hid (∀ wx, Old wf wx -> wx.heap[tb]? = some (.cells (tkc ba n ca Xc bb n cb Yc Zc bp n cp) 41 (0, 0))) := fun wx ho => ((HOcf.out.trans ho).block _ (zah HQc.out)).trans HQc.out
 have HCr : Hid (∀ wx, Old wf wx -> wx.heap[lb8]? = some (.cells #[.slice bt (4 * n + 6) ct, .slice b2 (4 * n + 6) c2] 50 (0, 0))) := fun wx ho => (ho.block _ (zah HRf.out)).trans HRf.out
 refine za3 (Rl := OldT 55) 17 [.k (gv P Q G H a m cap), .k (.string (strOfNums label)), .k (cv bt (4 * n + 6) ct b2 (4 * n + 6) c2), .k (gv P Q G H a m cap), .k (.slice bo n co), .k (tk ba n ca Xc bb n cb Yc Zc bp n cp), .k (dv bρ n cρ bR n cR bS n cS bT n cT bD nD cD), numE (by decide) wf.heap.size (7 * n + 3) E, .k (.pointer (some ⟨gb + 1, 4, none⟩)), .k (.slice bD nD cD), prP wf.heap.size (4 * n + 6) K (7 * n + 3) Zf (fun a => .tuple #[a, .bool true]), prP wf.heap.size (4 * n + 6) K (7 * n + 3) Zf (fun a => .tuple #[a, .bool true]), prP wf.heap.size (4 * n + 6) K (7 * n + 3) Zf id, .k (.bool true), varE 55 2 wf.heap.size, putE 55 14 12 wf.heap.size, .k (.bool true)] (Old wf) (by kernel_rfl) (by kernel_rfl) rfl (by kernel_rfl) ((Old.refl _).drew) ?st ?_
 case st =>
  refine .c (stsy underlying25 HGf.out) <| .c stpy <| .c (stsy underlying50 HCr.out) <| .c (stsy underlying25 HGf.out) <| .c stpy <| .c (stsy underlying41 HTf.out) <| .c (stsy underlying31 HDf.out) <| .c (stCy (args := fun t => #[gv P Q G H a m cap, .slice bo n co, tk ba n ca Xc bb n cb Yc Zc bp n cp, dv bρ n cρ bR n cR bS n cS bT n cT bD nD cD]) old_R func27 fun t wx hR hd => ?_) <| .c stpy <| .c (stfy 4 underlying29 HDf.out) <| .c (stCy (args := fun t => #[gv P Q G H a m cap, .string (strOfNums label), cv bt (4 * n + 6) ct b2 (4 * n + 6) c2, t 7, .slice bD nD cD]) old_R func92 fun t wx hR hd => ?_) <| .c (stxy fun t wx hR hd => ⟨t 10, by kernel_rfl, hd 10 (by kernel_rfl)⟩) <| .c (stxy fun t wx hR hd => ?_) <| .c (stzy fun t wx hR hd => ?_) <| .c (stmy (ob := fun _ => .cells #[.slice none 0 0, .slice none 0 0] 55) (v := fun s => .pointer (some ⟨s, 0, none⟩)) old_R fun t wx hR hd => ⟨_, rfl, hR.size, _, heap_alloc_last _ _, rfl⟩) <| .c (stPy (n := 2) (fun _ _ => True) (fun w g cells h hg => h.setRow hg cells) fun t wx hR hd => ?_) <| .c stpy .n
  ·exact (HEx.out wx ba ca bb cb bp n cp (HW0.out.trans ((HOc.out.trans HOcf.out).trans hR))).mono fun r w' ⟨o, v, e, hN⟩ => ⟨_, e, o, hN.mono hR.size⟩
  ·have hN : Nums wx wf.heap.size (t 7) (7 * n + 3) E := hd 7 (by kernel_rfl)
   obtain ⟨be, ce, e7, q1, q2, hf⟩ := hN.facs2 (fun i hi => HEu.out i hi)
   rw [e7]
   refine (HPv.out wx bt ct b2 c2 BA Cc be ce (HW0.out.trans ((HOc.out.trans HOcf.out).trans hR)) (HCf.out.old hR) hf q1).mono ?_
   rintro e wg ⟨og, v, u, rfl, N1, N2⟩
   simp only [if_true] at N1 N2
   obtain ⟨bk, ck, rfl⟩ := zau N1
   obtain ⟨bz, cz, rfl⟩ := zau N2
   exact ⟨_, rfl, og, bk, ck, bz, cz, rfl, N1.mono hR.size, N2.mono hR.size⟩
  ·obtain ⟨bk, ck, bz, cz, e, N1, N2⟩ : ∃ bk ck bz cz, t 11 = .tuple #[.agg #[.slice bk (4 * n + 6) ck, .slice bz (7 * n + 3) cz], .bool true] /\ Nums wx wf.heap.size (.slice bk (4 * n + 6) ck) (4 * n + 6) K /\ Nums wx wf.heap.size (.slice bz (7 * n + 3) cz) (7 * n + 3) Zf := hd 11 (by kernel_rfl)
   exact ⟨_, zaS (Eq.trans (b := t 11) (by kernel_rfl) e) rfl, bk, ck, bz, cz, rfl, N1, N2⟩
  ·obtain ⟨bk, ck, bz, cz, e, N1, N2⟩ : ∃ bk ck bz cz, t 11 = .tuple #[.agg #[.slice bk (4 * n + 6) ck, .slice bz (7 * n + 3) cz], .bool true] /\ Nums wx wf.heap.size (.slice bk (4 * n + 6) ck) (4 * n + 6) K /\ Nums wx wf.heap.size (.slice bz (7 * n + 3) cz) (7 * n + 3) Zf := hd 11 (by kernel_rfl)
   exact zaS (Eq.trans (b := t 11) (by kernel_rfl) e) rfl
  ·obtain ⟨bk, ck, bz, cz, e12, _⟩ : ∃ bk ck bz cz, t 12 = .agg #[.slice bk (4 * n + 6) ck, .slice bz (7 * n + 3) cz] /\ Nums wx wf.heap.size (.slice bk (4 * n + 6) ck) (4 * n + 6) K /\ Nums wx wf.heap.size (.slice bz (7 * n + 3) cz) (7 * n + 3) Zf := hd 12 (by kernel_rfl)
   obtain ⟨b, e14, hb, cs, hcs, hs⟩ : ∃ b, t 14 = .pointer (some ⟨b, 0, none⟩) /\ wf.heap.size <= b /\ ∃ cs, wx.heap[b]? = some (.cells cs 55 (0, 0)) /\ cs.size = 2 := hd 14 (by kernel_rfl)
   exact ⟨b, _, cs, e14, e12, hb, hcs, hs, rfl, by simp [Value.oneCell']⟩
 intro t wx hR hk
 simp only [fill2, Ent2.val, numE, prP, varE, putE, List.set_cons_zero, List.set_cons_succ, List.drop_succ_cons, List.drop_zero, List.drop_nil]
 have HOw : Hid (Old wf wx) := hR
 obtain ⟨pb, csp, e15, hpb, hRp⟩ : ∃ b cs, [t 14, t 12] = [.pointer (some ⟨b, 0, none⟩), .agg cs] /\ wf.heap.size <= b /\ wx.heap[b]? = some (.cells cs 55 (0, 0)) := hk 15 (by omega)
 obtain ⟨bk, ck, bz, cz, e12, N1, N2⟩ : ∃ bk ck bz cz, t 12 = .agg #[.slice bk (4 * n + 6) ck, .slice bz (7 * n + 3) cz] /\ Nums wx wf.heap.size (.slice bk (4 * n + 6) ck) (4 * n + 6) K /\ Nums wx wf.heap.size (.slice bz (7 * n + 3) cz) (7 * n + 3) Zf := hk 12 (by omega)
 rw [e12] at e15
 have e14 : t 14 = .pointer (some ⟨pb, 0, none⟩) := by injection e15
 have ecs : csp = #[.slice bk (4 * n + 6) ck, .slice bz (7 * n + 3) cz] := by
  injection e15 with _ e15
  injection e15 with e15 _
  injection e15 with e15
  exact e15.symm
 subst ecs
 rw [e14]
 clear e14 e15 e12 hk
 have HOh : Hid (Old wc wx) := HOcf.out.trans hR
 have hrs := (HOh.out.block _ (zah HRc.out)).trans HRc.out
 have Hsf : Hid (sb < wf.heap.size) := Nat.lt_of_lt_of_le (zah HRc.out) HOcf.out.size
 have Hwf : Hid (w.heap.size <= wf.heap.size) := ((HW0.out.trans HOc.out).trans HOcf.out).size
 have p0 : wx.cell? ⟨pb, 0, none⟩ = some (.slice bk (4 * n + 6) ck) := cell_of_row _ _ 0 _ _ (0, 0) hRp
 have p1 : wx.cell? ⟨pb, 1, none⟩ = some (.slice bz (7 * n + 3) cz) := cell_of_row _ _ 1 _ _ (0, 0) hRp
 have q3 : wx.cell? ⟨sb, 3, none⟩ = some (.slice none 0 0) := cell_of_row _ _ 3 _ _ (0, 0) hrs
 have q4 : wx.cell? ⟨sb, 4, none⟩ = some (.slice none 0 0) := cell_of_row _ _ 4 _ _ (0, 0) hrs
 have f3 : wx.frozen? ⟨sb, 3, none⟩ = false := zac hrs 3
 have f4 : wx.frozen? ⟨sb, 4, none⟩ = false := zac hrs 4
 obtain ⟨VK, hVK⟩ : ∃ VK, VK = Value.slice bk (4 * n + 6) ck := ⟨_, rfl⟩
 obtain ⟨VZ, hVZ⟩ : ∃ VZ, VZ = Value.slice bz (7 * n + 3) cz := ⟨_, rfl⟩
 have HRy : Hid (((wx.setCell ⟨sb, 3, none⟩ (.slice bk (4 * n + 6) ck)).setCell ⟨sb, 4, none⟩ (.slice bz (7 * n + 3) cz)).heap[sb]? = some (.cells #[.slice ba n ca, .slice bb n cb, .slice bp n cp, .slice bk (4 * n + 6) ck, .slice bz (7 * n + 3) cz] 57 (0, 0))) := by
  have := zaq (zaq hrs 3 (.slice bk (4 * n + 6) ck)) 4 (.slice bz (7 * n + 3) cz)
  unfold Hid; simpa using this
 have HO3y : Hid (Old w3 ((wx.setCell ⟨sb, 3, none⟩ (.slice bk (4 * n + 6) ck)).setCell ⟨sb, 4, none⟩ (.slice bz (7 * n + 3) cz))) := ((HO3c.out.trans HOh.out).setCell (p := ⟨sb, 3, none⟩) Hsb.out _).setCell (p := ⟨sb, 4, none⟩) Hsb.out _
 have HNby : Hid (Nums ((wx.setCell ⟨sb, 3, none⟩ (.slice bk (4 * n + 6) ck)).setCell ⟨sb, 4, none⟩ (.slice bz (7 * n + 3) cz)) w5.heap.size (.slice bb n cb) n B) := ownsRow_setCell_below (ownsRow_setCell_below (HNbc.out.old HOh.out) (a := ⟨sb, 3, none⟩) Hsb5.out _) (a := ⟨sb, 4, none⟩) Hsb5.out _
 have HNpy : Hid (Nums ((wx.setCell ⟨sb, 3, none⟩ (.slice bk (4 * n + 6) ck)).setCell ⟨sb, 4, none⟩ (.slice bz (7 * n + 3) cz)) w9.heap.size (.slice bp n cp) n Pp) := ownsRow_setCell_below (ownsRow_setCell_below (HNpc.out.old HOh.out) (a := ⟨sb, 3, none⟩) Hsb9.out _) (a := ⟨sb, 4, none⟩) Hsb9.out _
 have HNky : Hid (Nums ((wx.setCell ⟨sb, 3, none⟩ (.slice bk (4 * n + 6) ck)).setCell ⟨sb, 4, none⟩ (.slice bz (7 * n + 3) cz)) wf.heap.size (.slice bk (4 * n + 6) ck) (4 * n + 6) K) := ownsRow_setCell_below (ownsRow_setCell_below N1 (a := ⟨sb, 3, none⟩) Hsf.out _) (a := ⟨sb, 4, none⟩) Hsf.out _
 have HNzy : Hid (Nums ((wx.setCell ⟨sb, 3, none⟩ (.slice bk (4 * n + 6) ck)).setCell ⟨sb, 4, none⟩ (.slice bz (7 * n + 3) cz)) wf.heap.size (.slice bz (7 * n + 3) cz) (7 * n + 3) Zf) := ownsRow_setCell_below (ownsRow_setCell_below N2 (a := ⟨sb, 3, none⟩) Hsf.out _) (a := ⟨sb, 4, none⟩) Hsf.out _
 clear hVK hVZ N1 N2 hRp hpb hR hrs HGf HDf HCr HEx HCf HRf HPv HOw HTf HEu HRc HQc HNbc HNpc HOh HOcf HO3c
 clear VK VZ
 go_upto_region 15 with fail
 clear p0 p1 q3 q4 f3 f4
 generalize (wx.setCell ⟨sb, 3, none⟩ (.slice bk (4 * n + 6) ck)).setCell ⟨sb, 4, none⟩ (.slice bz (7 * n + 3) cz) = wy at *
 have HG0w : Hid (w.heap.size <= gb + 1 + 1) := HGs.out
 have Hne : Hid (gb + 1 + 1 ≠ sb) := by
  have h1 := zah (HSh.out w3 HO3.out)
  have h2 := Hsb.out
  unfold Hid
  omega
 have HSk : Hid (∀ wz, (Old w wz /\ OldT 57 wy wz /\ wz.heap[sb]? = some (.cells #[.slice ba n ca, .slice bb n cb, .slice bp n cp, .slice bk (4 * n + 6) ck, .slice bz (7 * n + 3) cz] 57 (0, 0))) -> ∃ cs, wz.heap[gb + 1 + 1]? = some (.cells cs 57 (0, 0)) /\ cs.size = 5) := fun wz ho => ho.2.1.kind ⟨_, HSh.out _ (HO3.out.trans HO3y.out), rfl⟩
 have HRR : Hid (∀ wz, (Old w wz /\ OldT 57 wy wz /\ wz.heap[sb]? = some (.cells #[.slice ba n ca, .slice bb n cb, .slice bp n cp, .slice bk (4 * n + 6) ck, .slice bz (7 * n + 3) cz] 57 (0, 0))) -> ∀ c : Array Value, c.size = 5 -> Old w (wz.setRow (gb + 1 + 1) c) /\ OldT 57 wy (wz.setRow (gb + 1 + 1) c) /\ (wz.setRow (gb + 1 + 1) c).heap[sb]? = some (.cells #[.slice ba n ca, .slice bb n cb, .slice bp n cp, .slice bk (4 * n + 6) ck, .slice bz (7 * n + 3) cz] 57 (0, 0))) := fun wz ho c hc => ⟨ho.1.setRow HG0w.out _, (by
  obtain ⟨cs, hcs, hs⟩ := HSk.out _ ho
  exact ho.2.1.trans (.setRow hcs (hc.trans hs.symm))), (by
  have hne := Hne.out
  simp only [World.setRow]
  rw [Array.getElem?_modify, if_neg hne]
  exact ho.2.2)⟩
 have HW00 : Hid (Old w wy) := (HW0.out.trans HO3.out).trans HO3y.out
 refine za3 (Rl := OldT 57) 5 [.k (.slice bm n cm), .k (.agg #[.slice ba n ca, .slice bb n cb, .slice bp n cp, .slice bk (4 * n + 6) ck, .slice bz (7 * n + 3) cz]), .k (.slice bm n cm), rowE 57 (gb + 1 + 1) #[.slice ba n ca, .slice bb n cb, .slice bp n cp, .slice bk (4 * n + 6) ck, .slice bz (7 * n + 3) cz], .k (.bool true)] (fun wz => Old w wz /\ OldT 57 wy wz /\ wz.heap[sb]? = some (.cells #[.slice ba n ca, .slice bb n cb, .slice bp n cp, .slice bk (4 * n + 6) ck, .slice bz (7 * n + 3) cz] 57 (0, 0))) (by kernel_rfl) (by kernel_rfl) rfl (by kernel_rfl) (⟨HW00.out.drew, OldT.of (Old.refl _).drew, HRy.out⟩) ?st ?_
 case st =>
  refine .c stpy <| .c (stsy underlying57 (fun wz ho => ho.2.2)) <| .c stpy <| .c (stQy (n := 5) (fun wz ho => HRR.out wz ho _ rfl) (fun wz ho => HSk.out wz ho)) <| .c stpy .n
 intro t wx_1 hR hk
 simp only [fill2, Ent2.val, rowE, List.set_cons_zero, List.set_cons_succ, List.drop_succ_cons, List.drop_zero, List.drop_nil]
 have HRz : Hid (wx_1.heap[gb + 1 + 1]? = some (.cells #[.slice ba n ca, .slice bb n cb, .slice bp n cp, .slice bk (4 * n + 6) ck, .slice bz (7 * n + 3) cz] 57 (0, 0))) := hk 3 (by omega)
 have hOx : OldT 57 wy wx_1 := hR.2.1
 have HG : Hid (GivS w true n M A B Pp (4 * n + 6) K (7 * n + 3) Zf (.returned (.tuple #[.slice bm n cm, .agg #[.slice ba n ca, .slice bb n cb, .slice bp n cp, .slice bk (4 * n + 6) ck, .slice bz (7 * n + 3) cz], .bool true])) wx_1) :=
  ⟨hR.1, _, _, _, _, _, _, _, rfl, (HB3.out.old HO3y.out).oldT (by decide) hOx, (HNa3.out.old HO3y.out).oldT (by decide) hOx, (HNby.out.oldT (by decide) hOx).mono H5s.out, (HNpy.out.oldT (by decide) hOx).mono H9s.out, (HNky.out.oldT (by decide) hOx).mono Hwf.out, (HNzy.out.oldT (by decide) hOx).mono Hwf.out⟩
 clear hR hk hOx
 go_wp2_with fail
 exact bodyPost_ret (zaU (b := gb + 1 + 1) rfl rfl rfl rfl (run_loadVar_row _ _ _ _ _ (0, 0) _ HRz.out underlying57 rfl zaX)) rfl HG.out
end
section
open Go Go.RowKit
theorem rpro_no (P Q G H : Int) (a : OA) (m cap : Nat) (label : List Int) (y : Int) (bi : OA) (l ci : Nat) (C : NN) (bo : OA) (no co : Nat) (O : NI) (bρ : OA) (nρ cρ : Nat) (Rh : NN) (bR : OA) (nR cR : Nat) (bS : OA) (nS cS : Nat) (bT : OA) (nT cT : Nat) (bD : OA) (nD cD : Nat) (M : NN) (A B Pp : NI) (nt : Nat) (K : NI) (nz : Nat) (Zf : NI) (w : World) (h4 : Four P Q G H) (hr : Righ P Q G) (hy : U64 y) (ml : l <= 80) (mo : no <= 80) (mρ : nρ <= 80) (hC : BoxsIn w bi l C) (hO : IntsIn w bo no O) (hρ : RhoIn w bρ nρ Rh) (hok : (mixB P Q y l C no O nρ && drwB l nR nS nT nD) = false) :
  Calls prog 32 #[gv P Q G H a m cap, .string (strOfNums label), .int .u64 y, .slice bi l ci, .slice bo no co, dv bρ nρ cρ bR nR cR bS nS cS bT nT cT bD nD cD] w (GivS w (mixB P Q y l C no O nρ && drwB l nR nS nT nD) l M A B Pp nt K nz Zf) := by
 have HMx : Hid (∀ wx, Old w wx -> Calls prog 16 #[gv P Q G H a m cap, .int .u64 y, .slice bi l ci, .slice bo no co, .slice bρ nρ cρ] wx fun e w' => Old wx w' /\ ∃ b n c, e = .returned (.tuple #[.slice b n c, .bool (mixB P Q y l C no O nρ)])) := fun wx ho => (rmix8_any P Q G H a m cap y bi l ci C bo no co O bρ nρ cρ Rh wx h4 hr hy (by omega) (by omega) (by omega) (hC.old ho) (hO.old ho) (hρ.old ho)).mono fun e w' h => by
  obtain ⟨k, b, c, he, _⟩ := h
  exact ⟨k, _, _, _, he⟩
 have HNo : Hid ((mixB P Q y l C no O nρ && drwB l nR nS nT nD) = false) := hok
 have hl8 : mixB P Q y l C no O nρ = true -> l <= 8 := fun h => by
  unfold mixB at h
  simp only [Bool.and_eq_true_iff, decide_eq_true_eq] at h
  exact (zaK.1 h.2.2.2.1).1.2
 have hdb : mixB P Q y l C no O nρ = true -> ¬ (nR = l /\ nS = l /\ nT = l /\ nD = 7 * l + 3) := fun h hc => by
  rw [h, Bool.true_and, zb6.2 hc] at hok
  cases hok
 clear hC hO hρ h4 hr hy hok ml mo mρ
 generalize mixB P Q y l C no O nρ = mb at *
 have HZ := lain3 w (gc P Q G H a m cap) (dvc bρ nρ cρ bR nR cR bS nS cS bT nT cT bD nD cD) #[.slice none 0 0, .slice none 0 0, .slice none 0 0, .slice none 0 0, .slice none 0 0] 25 31 57
 have HG0 := fun w' ho => (HZ.then (W' := w') ho).row 0 (by simp)
 have HD0 := fun w' ho => (HZ.then (W' := w') ho).row 1 (by simp)
 have HS0 := fun w' ho => (HZ.then (W' := w') ho).row 2 (by simp)
 have HW0 : Hid (Old w (((w.alloc (.cells (gc P Q G H a m cap) 25)).alloc (.cells (dvc bρ nρ cρ bR nR cR bS nS cS bT nT cT bD nD cD) 31)).alloc (.cells #[.slice none 0 0, .slice none 0 0, .slice none 0 0, .slice none 0 0, .slice none 0 0] 57))) := HZ.old
 clear HZ
 go_enter func32, ntmps32
 go_upto_region 1 with fail
 generalize ((w.alloc (.cells (gc P Q G H a m cap) 25)).alloc (.cells (dvc bρ nρ cρ bR nR cR bS nS cS bT nT cT bD nD cD) 31)).alloc (.cells #[.slice none 0 0, .slice none 0 0, .slice none 0 0, .slice none 0 0, .slice none 0 0] 57) = W1 at *
 have HG : Hid (∀ wx, Old W1 wx -> wx.heap[w.heap.size]? = some (.cells (gc P Q G H a m cap) 25 (0, 0))) := HG0
 have HDd : Hid (∀ wx, Old W1 wx -> wx.heap[w.heap.size + 1]? = some (.cells (dvc bρ nρ cρ bR nR cR bS nS cS bT nT cT bD nD cD) 31 (0, 0))) := HD0
 have HSh : Hid (∀ wx, Old W1 wx -> wx.heap[w.heap.size + 1 + 1]? = some (.cells #[.slice none 0 0, .slice none 0 0, .slice none 0 0, .slice none 0 0, .slice none 0 0] 57 (0, 0))) := HS0
 clear HG0 HD0 HS0
 obtain ⟨gb, hgb⟩ : ∃ gb, gb = w.heap.size := ⟨_, rfl⟩
 rw [<- hgb] at HG HDd HSh
 rw [<- hgb]
 have HGs : Hid (w.heap.size <= gb + 1 + 1) := by unfold Hid; omega
 clear hgb
 have HGc : Hid (∀ wx, Old W1 wx -> G5 wx (gb) P Q G H (.slice a m cap)) := fun wx ho => g5 (HG.out _ ho)
 have HDc : Hid (∀ wx, Old W1 wx -> wx.cell? ⟨gb + 1, 0, none⟩ = some (.slice bρ nρ cρ) /\ wx.cell? ⟨gb + 1, 1, none⟩ = some (.slice bR nR cR) /\ wx.cell? ⟨gb + 1, 2, none⟩ = some (.slice bS nS cS) /\ wx.cell? ⟨gb + 1, 3, none⟩ = some (.slice bT nT cT) /\ wx.cell? ⟨gb + 1, 4, none⟩ = some (.slice bD nD cD)) := fun wx ho => g5 (HDd.out _ ho)
 have HSc : Hid (∀ wx, Old W1 wx -> (wx.cell? ⟨gb + 1 + 1, 0, none⟩ = some (.slice none 0 0) /\ wx.cell? ⟨gb + 1 + 1, 1, none⟩ = some (.slice none 0 0) /\ wx.cell? ⟨gb + 1 + 1, 2, none⟩ = some (.slice none 0 0) /\ wx.cell? ⟨gb + 1 + 1, 3, none⟩ = some (.slice none 0 0) /\ wx.cell? ⟨gb + 1 + 1, 4, none⟩ = some (.slice none 0 0)) /\ ∀ j, wx.frozen? ⟨gb + 1 + 1, j, none⟩ = false) := fun wx ho => ⟨g5 (HSh.out _ ho), fun j => zac (HSh.out _ ho) j⟩
 obtain ⟨g0, g1, g2, g3, g4⟩ := HGc.out _ (Old.refl _)
 obtain ⟨d0, d1, d2, d3, d4⟩ := HDc.out _ (Old.refl _)
 go_upto_region 2 with (go_at_call 16; refine (HMx.out _ HW0.out).mono ?_; rintro e w2 ⟨o2, bm, nm, cm, rfl⟩)
 clear g0 g1 g2 g3 g4 d0 d1 d2 d3 d4 HMx
 have HO2 : Hid (Old W1 w2) := o2
 clear o2
 obtain ⟨d0, d1, d2, d3, d4⟩ := HDc.out _ HO2.out
 cases mb with
 | false =>
  clear hl8 hdb
  go_upto_region 4 with fail
  clear d0 d1 d2 d3 d4
  obtain ⟨⟨s0, s1, s2, s3, s4⟩, hf⟩ := HSc.out _ HO2.out
  have f0 := hf 0
  have f1 := hf 1
  have f2 := hf 2
  have f3 := hf 3
  have f4 := hf 4
  clear hf
  go_wp2_with fail
  exact bodyPost_ret (zaU (b := gb + 1 + 1) rfl rfl rfl rfl (zbC (HSh.out _ HO2.out) underlying57 zaX)) rfl (zcY HNo.out ((HW0.out.trans HO2.out).five HGs.out _ _ _ _ _))
 | true =>
  have h8 := hl8 rfl
  have hd := hdb rfl
  clear hl8 hdb
  have e1 : IntKind.i64.wrap (7 * (l : Int)) = 7 * (l : Int) := by rw [IntKind.wrap_i64]; omega
  have e2 : IntKind.i64.wrap (7 * (l : Int) + 3) = 7 * (l : Int) + 3 := by rw [IntKind.wrap_i64]; omega
  by_cases c0 : nR = l
  rotate_left
  ·have k0 : ¬ (nR : Int) = (l : Int) := by omega
   clear hd
   go_upto_region 4 with fail
   clear d0 d1 d2 d3 d4
   obtain ⟨⟨s0, s1, s2, s3, s4⟩, hf⟩ := HSc.out _ HO2.out
   have f0 := hf 0
   have f1 := hf 1
   have f2 := hf 2
   have f3 := hf 3
   have f4 := hf 4
   clear hf
   go_wp2_with fail
   exact bodyPost_ret (zaU (b := gb + 1 + 1) rfl rfl rfl rfl (zbC (HSh.out _ HO2.out) underlying57 zaX)) rfl (zcY HNo.out ((HW0.out.trans HO2.out).five HGs.out _ _ _ _ _))
  have k0 : (nR : Int) = (l : Int) := by omega
  by_cases c1 : nS = l
  rotate_left
  ·have k1 : ¬ (nS : Int) = (l : Int) := by omega
   clear hd
   go_upto_region 4 with fail
   clear d0 d1 d2 d3 d4
   obtain ⟨⟨s0, s1, s2, s3, s4⟩, hf⟩ := HSc.out _ HO2.out
   have f0 := hf 0
   have f1 := hf 1
   have f2 := hf 2
   have f3 := hf 3
   have f4 := hf 4
   clear hf
   go_wp2_with fail
   exact bodyPost_ret (zaU (b := gb + 1 + 1) rfl rfl rfl rfl (zbC (HSh.out _ HO2.out) underlying57 zaX)) rfl (zcY HNo.out ((HW0.out.trans HO2.out).five HGs.out _ _ _ _ _))
  have k1 : (nS : Int) = (l : Int) := by omega
  by_cases c2 : nT = l
  rotate_left
  ·have k2 : ¬ (nT : Int) = (l : Int) := by omega
   clear hd
   go_upto_region 4 with fail
   clear d0 d1 d2 d3 d4
   obtain ⟨⟨s0, s1, s2, s3, s4⟩, hf⟩ := HSc.out _ HO2.out
   have f0 := hf 0
   have f1 := hf 1
   have f2 := hf 2
   have f3 := hf 3
   have f4 := hf 4
   clear hf
   go_wp2_with fail
   exact bodyPost_ret (zaU (b := gb + 1 + 1) rfl rfl rfl rfl (zbC (HSh.out _ HO2.out) underlying57 zaX)) rfl (zcY HNo.out ((HW0.out.trans HO2.out).five HGs.out _ _ _ _ _))
  have k2 : (nT : Int) = (l : Int) := by omega
  have k3 : ¬ (nD : Int) = 7 * (l : Int) + 3 := by
   have : ¬ nD = 7 * l + 3 := fun h => hd ⟨c0, c1, c2, h⟩
   omega
  clear hd c0 c1 c2
  go_upto_region 4 with fail
  clear d0 d1 d2 d3 d4
  obtain ⟨⟨s0, s1, s2, s3, s4⟩, hf⟩ := HSc.out _ HO2.out
  have f0 := hf 0
  have f1 := hf 1
  have f2 := hf 2
  have f3 := hf 3
  have f4 := hf 4
  clear hf
  go_wp2_with fail
  exact bodyPost_ret (zaU (b := gb + 1 + 1) rfl rfl rfl rfl (zbC (HSh.out _ HO2.out) underlying57 zaX)) rfl (zcY HNo.out ((HW0.out.trans HO2.out).five HGs.out _ _ _ _ _))
theorem zd1 (P Q G H : Int) (a : OA) (m cap : Nat) (label : List Int) (y : Int) (bi : OA) (l ci : Nat) (C : NN) (bo : OA) (no co : Nat) (O : NI) (bρ : OA) (nρ cρ : Nat) (Rh : NN) (bR : OA) (nR cR : Nat) (R : NI) (bS : OA) (nS cS : Nat) (S : NI) (bT : OA) (nT cT : Nat) (T : NI) (bD : OA) (nD cD : Nat) (D : NI) (w : World) (h4 : Four P Q G H) (hr : Righ P Q G) (hin : inI P Q H = true) (hy : U64 y) (hlb : Bts label) (hll : label.length <= 1000) (ml : l <= 80) (mo : no <= 80) (mρ : nρ <= 80) (hcT : nT <= cT /\ cT <= 9223372036854775807) (hcD : nD <= cD)
  (hC : BoxsIn w bi l C) (hO : IntsIn w bo no O) (hρ : RhoIn w bρ nρ Rh) (hR : FacsIn w bR nR R) (hS : FacsIn w bS nS S) (hT : FacsIn w bT nT T) (hD : FacsIn w bD nD D) :
  Calls prog 32 #[gv P Q G H a m cap, .string (strOfNums label), .int .u64 y, .slice bi l ci, .slice bo no co, dv bρ nρ cρ bR nR cR bS nS cS bT nT cT bD nD cD] w (GivS w (mixB P Q y l C no O nρ && drwB l nR nS nT nD) l (mixC P Q G y C O Rh) (aF P Q G H O R) (mxB P Q G H label y l C O Rh R S) (mxP P Q G H label y l C O Rh R S T) (4 * l + 6) (mxK P Q G H label y l C O Rh R S T D) (7 * l + 3) (mxZ P Q G H label y l C O Rh R S T D)) := by
 cases hok : (mixB P Q y l C no O nρ && drwB l nR nS nT nD) with
 | false =>
  rw [<- hok]
  exact rpro_no P Q G H a m cap label y bi l ci C bo no co O bρ nρ cρ Rh bR nR cR bS nS cS bT nT cT bD nD cD _ _ _ _ _ _ _ _ w h4 hr hy ml mo mρ hC hO hρ hok
 | true =>
  obtain ⟨hm, hd⟩ := Bool.and_eq_true_iff.1 hok
  obtain ⟨e1, e2, e3, e4⟩ := zb6.1 hd
  have hm' := hm
  unfold mixB at hm'
  simp only [Bool.and_eq_true_iff, decide_eq_true_eq] at hm'
  obtain ⟨e5, e6, h3, h5, h6⟩ := hm'
  have hor := (zdP.1 hm).2.2.1
  subst e1 e2 e3 e5 e6
  have M := mix8_of hr hin hm hρ hR hS hT
  have uY : U64 (mxC 121 P Q G H label y nρ C O Rh R S) := by unfold mxC chYZ; exact zat _ _ _ _
  have uZ : U64 (mxC 122 P Q G H label y nρ C O Rh R S) := by unfold mxC chYZ; exact zat _ _ _ _
  have hsz := (M.claim (mxX P Q G H label y nρ C O Rh R) uY.1 uZ.1).size
  exact rpro_any P Q G H a m cap label y bi ci C bo co O bρ cρ Rh bR cR R bS cS S bT cT T bD nD cD D nρ (mxX P Q G H label y nρ C O Rh R) (mxC 121 P Q G H label y nρ C O Rh R S) (mxC 122 P Q G H label y nρ C O Rh R S) (aF P Q G H O R) (mxB P Q G H label y nρ C O Rh R S) (mxP P Q G H label y nρ C O Rh R S T) (mixC P Q G y C O Rh) (mxE P Q G H label y nρ C O Rh R S T) (mxK P Q G H label y nρ C O Rh R S T D) (mxZ P Q G H label y nρ C O Rh R S T D) w M.n1 M.n8 h4 hr hy hlb hll hcT hcD hC hO hρ hR hS hT hD hm hd hor rfl rfl rfl rfl rfl rfl rfl rfl (congrArg (fun z => fun j => imI P Q (mxS P Q G H label y nρ C O Rh R S T j) D z) hsz.symm) rfl (M.clm _ uY.1 uZ.1) (M.prov _ uY.1 uZ.1 e4)
end
section
open Go.RowKit
theorem zbY {n : Nat} {X : NI} : sameB n X n X = true := by unfold sameB; simp
theorem zeB (ba1 : OA) (na ca1 : Nat) (ba2 : OA) (ca2 : Nat) (Xa : NI) (bb1 : OA) (nb cb1 : Nat) (bb2 : OA) (cb2 : Nat) (Xb : NI) (bp1 : OA) (np cp1 : Nat) (bp2 : OA) (cp2 : Nat) (Xp : NI) (bk1 : OA) (nk ck1 : Nat) (bk2 : OA) (ck2 : Nat) (Xk : NI) (bz1 : OA) (nz cz1 : Nat) (bz2 : OA) (cz2 : Nat) (Xz : NI) (w : World) (ma : na <= 9223372036854775807) (mb : nb <= 9223372036854775807) (mp : np <= 9223372036854775807) (mk : nk <= 9223372036854775807) (mz : nz <= 9223372036854775807) (ha1 : FacsIn w ba1 na Xa) (ha2 : FacsIn w ba2 na Xa) (hb1 : FacsIn w bb1 nb Xb) (hb2 : FacsIn w bb2 nb Xb) (hp1 : FacsIn w bp1 np Xp) (hp2 : FacsIn w bp2 np Xp) (hk1 : FacsIn w bk1 nk Xk) (hk2 : FacsIn w bk2 nk Xk) (hz1 : FacsIn w bz1 nz Xz) (hz2 : FacsIn w bz2 nz Xz) :
  Calls prog 33 #[.agg #[.slice ba1 na ca1, .slice bb1 nb cb1, .slice bp1 np cp1, .slice bk1 nk ck1, .slice bz1 nz cz1], .agg #[.slice ba2 na ca2, .slice bb2 nb cb2, .slice bp2 np cp2, .slice bk2 nk ck2, .slice bz2 nz cz2]] w (Ret w (.bool true)) := by
 have HSa : Hid (∀ wx, Old w wx -> Calls prog 19 #[.slice ba1 na ca1, .slice ba2 na ca2] wx (Ret wx (.bool true))) := fun wx ho => by
  have h := zcf ba1 na ca1 Xa ba2 na ca2 Xa wx ma (ha1.old ho) (ha2.old ho)
  rw [zbY] at h
  exact h
 have HSb : Hid (∀ wx, Old w wx -> Calls prog 19 #[.slice bb1 nb cb1, .slice bb2 nb cb2] wx (Ret wx (.bool true))) := fun wx ho => by
  have h := zcf bb1 nb cb1 Xb bb2 nb cb2 Xb wx mb (hb1.old ho) (hb2.old ho)
  rw [zbY] at h
  exact h
 have HSp : Hid (∀ wx, Old w wx -> Calls prog 19 #[.slice bp1 np cp1, .slice bp2 np cp2] wx (Ret wx (.bool true))) := fun wx ho => by
  have h := zcf bp1 np cp1 Xp bp2 np cp2 Xp wx mp (hp1.old ho) (hp2.old ho)
  rw [zbY] at h
  exact h
 have HSz : Hid (∀ wx, Old w wx -> Calls prog 93 #[cv bk1 nk ck1 bz1 nz cz1, cv bk2 nk ck2 bz2 nz cz2] wx (Ret wx (.bool true))) := fun wx ho => by
  have h := rsame7_any bk1 nk ck1 Xk bz1 nz cz1 Xz bk2 nk ck2 Xk bz2 nz cz2 Xz wx mk mz (hk1.old ho) (hz1.old ho) (hk2.old ho) (hz2.old ho)
  rw [zbY, zbY] at h
  exact h
 clear ha1 ha2 hb1 hb2 hp1 hp2 hk1 hk2 hz1 hz2
 have HZ := lain2 w #[.slice ba1 na ca1, .slice bb1 nb cb1, .slice bp1 np cp1, .slice bk1 nk ck1, .slice bz1 nz cz1] #[.slice ba2 na ca2, .slice bb2 nb cb2, .slice bp2 np cp2, .slice bk2 nk ck2, .slice bz2 nz cz2] 57 57
 have HG0 := fun w' ho => (HZ.then (W' := w') ho).row 0 (by simp)
 have HT0 := fun w' ho => (HZ.then (W' := w') ho).row 1 (by simp)
 have HW0 : Hid (Old w ((w.alloc (.cells #[.slice ba1 na ca1, .slice bb1 nb cb1, .slice bp1 np cp1, .slice bk1 nk ck1, .slice bz1 nz cz1] 57)).alloc (.cells #[.slice ba2 na ca2, .slice bb2 nb cb2, .slice bp2 np cp2, .slice bk2 nk ck2, .slice bz2 nz cz2] 57))) := HZ.old
 clear HZ
 go_enter func33, ntmps33
 go_upto_region 1 with fail
 generalize ((w.alloc (.cells #[.slice ba1 na ca1, .slice bb1 nb cb1, .slice bp1 np cp1, .slice bk1 nk ck1, .slice bz1 nz cz1] 57)).alloc (.cells #[.slice ba2 na ca2, .slice bb2 nb cb2, .slice bp2 np cp2, .slice bk2 nk ck2, .slice bz2 nz cz2] 57)) = W at *
 have HG : ∀ wx, Old W wx -> wx.heap[w.heap.size]? = some (.cells #[.slice ba1 na ca1, .slice bb1 nb cb1, .slice bp1 np cp1, .slice bk1 nk ck1, .slice bz1 nz cz1] 57 (0, 0)) := HG0
 have HT : ∀ wx, Old W wx -> wx.heap[w.heap.size + 1]? = some (.cells #[.slice ba2 na ca2, .slice bb2 nb cb2, .slice bp2 np cp2, .slice bk2 nk ck2, .slice bz2 nz cz2] 57 (0, 0)) := HT0
 clear HG0 HT0
 generalize w.heap.size = gb at *
 have HC : Hid (∀ wx, Old W wx -> wx.cell? ⟨gb, 0, none⟩ = some (.slice ba1 na ca1) /\ wx.cell? ⟨gb + 1, 0, none⟩ = some (.slice ba2 na ca2) /\ wx.cell? ⟨gb, 1, none⟩ = some (.slice bb1 nb cb1) /\ wx.cell? ⟨gb + 1, 1, none⟩ = some (.slice bb2 nb cb2) /\ wx.cell? ⟨gb, 2, none⟩ = some (.slice bp1 np cp1) /\ wx.cell? ⟨gb + 1, 2, none⟩ = some (.slice bp2 np cp2) /\ wx.cell? ⟨gb, 3, none⟩ = some (.slice bk1 nk ck1) /\ wx.cell? ⟨gb + 1, 3, none⟩ = some (.slice bk2 nk ck2) /\ wx.cell? ⟨gb, 4, none⟩ = some (.slice bz1 nz cz1) /\ wx.cell? ⟨gb + 1, 4, none⟩ = some (.slice bz2 nz cz2)) := fun wx ho => ⟨cell_of_row _ _ 0 _ _ (0, 0) (HG _ ho), cell_of_row _ _ 0 _ _ (0, 0) (HT _ ho), cell_of_row _ _ 1 _ _ (0, 0) (HG _ ho), cell_of_row _ _ 1 _ _ (0, 0) (HT _ ho), cell_of_row _ _ 2 _ _ (0, 0) (HG _ ho), cell_of_row _ _ 2 _ _ (0, 0) (HT _ ho), cell_of_row _ _ 3 _ _ (0, 0) (HG _ ho), cell_of_row _ _ 3 _ _ (0, 0) (HT _ ho), cell_of_row _ _ 4 _ _ (0, 0) (HG _ ho), cell_of_row _ _ 4 _ _ (0, 0) (HT _ ho)⟩
 clear HG HT
 obtain ⟨q0, q1, q2, q3, q4, q5, q6, q7, q8, q9⟩ := HC.out _ (Old.refl _)
 go_wp2_with (first
  | (have hg := o3; go_at_call 93; refine (HSz.out _ (((HW0.out.trans o1).trans o2).trans o3)).mono ?_; rintro e w4 ⟨rfl, o4⟩)
  | (have hg := o2; go_at_call 19; refine (HSp.out _ ((HW0.out.trans o1).trans o2)).mono ?_; rintro e w3 ⟨rfl, o3⟩; clear q0 q1 q2 q3 q4 q5 q6 q7 q8 q9 hg; obtain ⟨q0, q1, q2, q3, q4, q5, q6, q7, q8, q9⟩ := HC.out _ ((o1.trans o2).trans o3))
  | (have hg := o1; go_at_call 19; refine (HSb.out _ (HW0.out.trans o1)).mono ?_; rintro e w2 ⟨rfl, o2⟩; clear q0 q1 q2 q3 q4 q5 q6 q7 q8 q9 hg; obtain ⟨q0, q1, q2, q3, q4, q5, q6, q7, q8, q9⟩ := HC.out _ (o1.trans o2))
  | (go_at_call 19; refine (HSa.out _ HW0.out).mono ?_; rintro e w1 ⟨rfl, o1⟩; clear q0 q1 q2 q3 q4 q5 q6 q7 q8 q9; obtain ⟨q0, q1, q2, q3, q4, q5, q6, q7, q8, q9⟩ := HC.out _ o1))
 go_ret
 exact ⟨rfl, (((HW0.out.trans o1).trans o2).trans o3).trans o4⟩
end
end Go.Proofs.YtlnmjbbpenhdbaaGreat
