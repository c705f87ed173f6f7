/-
  What the proof needs, part 13.
-/
import Derived.Test.YtlnmjbbpenhdbaaGreatKp08
namespace Go.Proofs.YtlnmjbbpenhdbaaGreat
open Tryz
open List renaming drop_succ_cons → zd1, drop_zero → zd0
open Tryz renaming underlying5 → U5, underlying9 → U9, underlying143 → U143, underlying152 → U152, underlying164 → U164, underlying175 → U175
set_option linter.unusedSimpArgs false
set_option linter.unusedVariables false
set_option maxRecDepth 100000
set_option maxHeartbeats 32000000
section
open Go.RowKit
def packL (F : NI) : Nat -> List Int
 | 0 => []
 | i + 1 => packL F i ++ zap (F i) 8
theorem zar (F : NI) : ∀ n, (packL F n).length = 8 * n
 | 0 => rfl
 | n + 1 => by
  show (packL F n ++ zap (F n) 8).length = _
  rw [List.length_append, zar F n, zal]
  omega
theorem zaU (F : NI) : ∀ n, Bts (packL F n)
 | 0 => fun x hx => by cases hx
 | n + 1 => zdv (zaU F n) (zbt _ _)
theorem zaJ (b : OA) (n cap : Nat) (F : NI) (w : World) (hn : n <= 1000) (h : FacsIn w b n F) :
  Calls prog 130 #[.slice b n cap] w fun e w' => e = .returned (.string (strOfNums (packL F n))) /\ Old w w' := by
 have HX : Hid (FacsIn w b n F) := h
 have HBy : Hid (∀ i wx, i < n -> Calls prog 148 #[.int .u64 (F i), .int .i64 8] wx fun e w' => e = .returned (.string (strOfNums (zap (F i) 8))) /\ Old wx w') := fun i wx hi => (zcn (F i) 8 wx (h.u64 i hi).1 (h.u64 i hi).2 (by omega) (by omega)).mono fun e w' ⟨h1, h2⟩ => ⟨h1, Old.ofBelow h2⟩
 clear h
 have hadd : ∀ xs ys : List Int, strOfNums xs ++ strOfNums ys = strOfNums (xs ++ ys) := zc0
 have hsz : ∀ xs : List Int, (strOfNums xs).size = xs.length := strOfNums_size
 go_enter func130, ntmps130
 go_wp2_with fail
 go_loopw [3, 4] (fun sv iv wx => ∃ i : Nat, iv = .int .i64 (i : Int) /\ i <= n /\ sv = .string (strOfNums (packL F i)) /\ Hid (Old w wx)) (fun _ iv _ => n - (intOf iv).toNat)
 case atStart => exact ⟨0, rfl, Nat.zero_le _, rfl, Old.refl _⟩
 case round =>
  obtain ⟨i, rfl, hi, rfl, HO⟩ := hrel
  by_cases hlt : i < n
  ·rcases HX.out.old HO.out with h0 | ⟨bx, ox, hqx, _, hrx⟩
   ·omega
   have cx := (hrx i hlt).1
   clear hrx
   subst hqx
   have HC : Hid (∀ wx, Calls prog 148 #[.int .u64 (F i), .int .i64 8] wx fun e w' => e = .returned (.string (strOfNums (zap (F i) 8))) /\ Old wx w') := fun wx => HBy.out i wx hlt
   have zl := zar F i
   have z8 := zal (F i) 8
   have l1 : 8 * i + 8 <= 9223372036854775807 := by omega
   have l2 : ¬ 9223372036854775807 < 8 * i + 8 := by omega
   have l3 : 8 * i <= 9223372036854775799 := by omega
   have l4 : ¬ 9223372036854775799 < 8 * i := by omega
   have HP : Hid (packL F (i + 1) = packL F i ++ zap (F i) 8) := rfl
   go_wp2_with (go_at_call 148; refine (HC.out _).mono ?_; rintro e w2 ⟨rfl, o2⟩)
   go_roundw
   case rel => exact ⟨i + 1, by first | exact zab i | exact zdd i, by omega, by rw [HP.out], HO.out.trans o2⟩
   case measure => simp [intOf]; omega
  ·have he : n = i := by omega
   subst he
   go_wp2_with fail
   go_ret
   exact ⟨rfl, HO.out⟩
def four4 (P Q G H : Int) : Nat -> Int
 | 0 => P
 | 1 => Q
 | 2 => G
 | _ => H
def partS (P Q G H : Int) (nt : Nat) (T : NI) (nb : Nat) (L : Nat -> Nat) (B : NN) (nk : Nat) (K : NI) : Nat -> List Int
 | 0 => packL (four4 P Q G H) 4
 | 1 => packL T nt
 | i + 2 => if i < nb then packL (B i) (L i) else packL K nk
def chI (label : List Int) (P Q G H : Int) (nt : Nat) (T : NI) (nb : Nat) (L : Nat -> Nat) (B : NN) (nk : Nat) (K : NI) : Int := zaj label (partS P Q G H nt T nb L B nk K) (nb + 3) Q
theorem partS_bd (P Q G H : Int) (nt : Nat) (T : NI) (nb : Nat) (L : Nat -> Nat) (B : NN) (nk : Nat) (K : NI) : ∀ i, Bts (partS P Q G H nt T nb L B nk K i)
 | 0 => zaU _ _
 | 1 => zaU _ _
 | i + 2 => by
  show Bts (if i < nb then packL (B i) (L i) else packL K nk)
  split <;> exact zaU _ _
theorem partS_len (P Q G H : Int) {nt : Nat} (T : NI) {nb : Nat} {L : Nat -> Nat} (B : NN) {nk : Nat} (K : NI) (h1 : nt <= 80) (h2 : ∀ j, j < nb -> L j <= 80) (h3 : nk <= 80) : ∀ i, (partS P Q G H nt T nb L B nk K i).length <= 640
 | 0 => by show (packL (four4 P Q G H) 4).length <= 640; rw [zar]; omega
 | 1 => by show (packL T nt).length <= 640; rw [zar]; omega
 | i + 2 => by
  show (if i < nb then packL (B i) (L i) else packL K nk).length <= 640
  split
  ·rename_i h; rw [zar]; have := h2 i h; omega
  ·rw [zar]; omega
theorem numL_le {label : List Int} {S : Nat -> List Int} (h : ∀ i, (S i).length <= 640) : ∀ n, (numL label S n).length <= 8 + label.length + 648 * n
 | 0 => by show (zap label.length 8 ++ label).length <= _; rw [List.length_append, zal]; omega
 | n + 1 => by rw [zbm]; have := numL_le (label := label) h n; have := h n; omega
theorem partS_row {P Q G H : Int} {nt : Nat} {T : NI} {nb : Nat} {L : Nat -> Nat} {B : NN} {nk : Nat} {K : NI} {i : Nat} (h : i < nb) : partS P Q G H nt T nb L B nk K (i + 2) = packL (B i) (L i) := if_pos h
theorem zfh {P Q G H : Int} {nt : Nat} {T : NI} {nb : Nat} {L : Nat -> Nat} {B : NN} {nk : Nat} {K : NI} : partS P Q G H nt T nb L B nk K (nb + 2) = packL K nk := if_neg (Nat.lt_irrefl _)
theorem facs_four (w : World) (P Q G H : Int) (t : TypeId) (h4 : Four P Q G H) : FacsIn (w.alloc (.cells #[.int .u64 P, .int .u64 Q, .int .u64 G, .int .u64 H] t)) (some ⟨w.heap.size, 0, none⟩) 4 (four4 P Q G H) := by
 refine Or.inr ⟨_, _, rfl, by simp, fun j hj => ?_⟩
 match j, hj with
 | 0, _ => exact ⟨(World.cell?_alloc_mark w _ t (0, 0) 0).trans rfl, h4.p0, h4.p1⟩
 | 1, _ => exact ⟨(World.cell?_alloc_mark w _ t (0, 0) 1).trans rfl, h4.q0, h4.q1⟩
 | 2, _ => exact ⟨(World.cell?_alloc_mark w _ t (0, 0) 2).trans rfl, h4.g0, h4.g1⟩
 | 3, _ => exact ⟨(World.cell?_alloc_mark w _ t (0, 0) 3).trans rfl, h4.h0, h4.h1⟩
theorem Old.drewAlloc (w : World) (o : Obj) : Old (w.alloc o) (w.drew.alloc o) := ⟨rfl, rfl, Nat.le_refl _, fun _ _ => rfl⟩
theorem strs_two (w : World) (base : Nat) (S : Nat -> List Int) (hb : base <= w.heap.size) : (w.alloc (.cells #[.string (strOfNums (S 0)), .string (strOfNums (S 1))] 9)).ownsRow base 9 1 (.slice (some ⟨w.heap.size, 0, none⟩) 2 2) 2 (zah S 2) :=
 ⟨by simp [zah], Or.inr ⟨w.heap.size, 2, _, rfl, hb, heap_alloc_last w _, by omega, by unfold maxLen; omega, by simp, by simp [zah, List.range_succ]⟩⟩
theorem rchal_any (label : List Int) (P Q G H : Int) (a : OA) (n cap : Nat) (bt : OA) (nt ct : Nat) (T : NI) (bb : OA) (nb cb : Nat) (BA : Nat -> Option Addr) (L C : Nat -> Nat) (B : NN) (bk : OA) (nk ck : Nat) (K : NI) (w : World) (h4 : Four P Q G H) (hlb : Bts label) (hll : label.length <= 1000) (mt : nt <= 80) (mb : nb <= 80) (mL : ∀ j, j < nb -> L j <= 80) (mk : nk <= 80) (hC : ClaimIn w bt nt ct T bb nb cb BA L C B) (hK : FacsIn w bk nk K) :
  Calls prog 135 #[gv P Q G H a n cap, .string (strOfNums label), cv bt nt ct bb nb cb, .slice bk nk ck] w fun e w' => e = .returned (.int .u64 (chI label P Q G H nt T nb L B nk K)) /\ Old w w' := by
 have HZ := lain2 w (gc P Q G H a n cap) (cc bt nt ct bb nb cb) 25 50
 have HT : Hid (∀ w', Old ((w.alloc (.cells (gc P Q G H a n cap) 25)).alloc (.cells (cc bt nt ct bb nb cb) 50)) w' -> G6 w' (w.heap.size) P Q G H (.slice a n cap) (w'.cell? ⟨w.heap.size + 1, 0, none⟩ = some (.slice bt nt ct) /\ w'.cell? ⟨w.heap.size + 1, 1, none⟩ = some (.slice bb nb cb))) := fun w' ho => by
  have h := HZ.then ho
  exact ⟨h.cell 0 0 (by simp) rfl, h.cell 0 1 (by simp) rfl, h.cell 0 2 (by simp) rfl, h.cell 0 3 (by simp) rfl, h.cell 0 4 (by simp) rfl, h.cell 1 0 (by simp) rfl, h.cell 1 1 (by simp) rfl⟩
 obtain ⟨S, hS⟩ : ∃ S : Nat -> List Int, S = partS P Q G H nt T nb L B nk K := ⟨_, rfl⟩
 have HSb : Hid (∀ i, Bts (S i)) := fun i => by rw [hS]; exact partS_bd _ _ _ _ _ _ _ _ _ _ _ i
 have hlen : ∀ i, (S i).length <= 640 := fun i => by rw [hS]; exact partS_len P Q G H T B K mt mL mk i
 have HN4 : Hid (∀ (wx wy : World) (t : TypeId), Old (wx.alloc (.cells #[.int .u64 P, .int .u64 Q, .int .u64 G, .int .u64 H] t)) wy -> Calls prog 130 #[.slice (some ⟨wx.heap.size, 0, none⟩) 4 4] wy fun e w' => e = .returned (.string (strOfNums (S 0))) /\ Old wy w') := fun wx wy t ho => (zaJ _ 4 4 (four4 P Q G H) wy (by omega) ((facs_four wx P Q G H t h4).old ho)).mono fun e w' ⟨h, k⟩ => ⟨by rw [h, hS]; rfl, k⟩
 have HNt : Hid (∀ wx, Old w wx -> Calls prog 130 #[.slice bt nt ct] wx fun e w' => e = .returned (.string (strOfNums (S 1))) /\ Old wx w') := fun wx ho => (zaJ bt nt ct T wx (by omega) (hC.tar.old ho)).mono fun e w' ⟨h, k⟩ => ⟨by rw [h, hS]; rfl, k⟩
 have HNr : Hid (∀ j wx, j < nb -> Old w wx -> Calls prog 130 #[.slice (BA j) (L j) (C j)] wx fun e w' => e = .returned (.string (strOfNums (S (j + 2)))) /\ Old wx w') := fun j wx hj ho => (zaJ (BA j) (L j) (C j) (B j) wx (by have := mL j hj; omega) ((hC.bas.facs hj).old ho)).mono fun e w' ⟨h, k⟩ => ⟨by rw [h, hS, partS_row hj], k⟩
 have HNk : Hid (∀ wx, Old w wx -> Calls prog 130 #[.slice bk nk ck] wx fun e w' => e = .returned (.string (strOfNums (S (nb + 2)))) /\ Old wx w') := fun wx ho => (zaJ bk nk ck K wx (by omega) (hK.old ho)).mono fun e w' ⟨h, k⟩ => ⟨by rw [h, hS, zfh], k⟩
 have HNu : Hid (∀ b c wx, StrsIn wx b (nb + 3) S -> Calls prog 132 #[.string (strOfNums label), .slice b (nb + 3) c, .int .u64 Q] wx fun e w' => e = .returned (.int .u64 (chI label P Q G H nt T nb L B nk K)) /\ Old wx w') := fun b c wx hs => (zeO label b (nb + 3) c S Q wx hlb hs (by omega) (by have := numL_le (label := label) hlen (nb + 3); omega) h4.q0 h4.q1).mono fun e w' ⟨h, k⟩ => ⟨by rw [h, hS]; rfl, k⟩
 have HB := hid hC.bas
 generalize chI label P Q G H nt T nb L B nk K = R at *
 clear hS hlen h4 hlb hll mL mk hC hK mt
 obtain ⟨i0, hi0, hz0, hz1, hz2⟩ := info_parts strinfo
 go_enter func135, ntmps135
 go_upto_region 1 with fail
 have HW0 := hid HZ.old
 generalize hW : (w.alloc (.cells (gc P Q G H a n cap) 25)).alloc (.cells (cc bt nt ct bb nb cb) 50) = W at *
 clear hW
 obtain ⟨d0, d1, d2, d3, d4, z0, z1⟩ := HT.out _ (Old.refl _)
 have hd : Old W W.drew := (Old.refl W).drew
 go_region_held3 (fun w' => w'.cell? ⟨w.heap.size, 0, none⟩ = some (.int .u64 P) /\ w'.cell? ⟨w.heap.size, 1, none⟩ = some (.int .u64 Q) /\ w'.cell? ⟨w.heap.size, 2, none⟩ = some (.int .u64 G) /\ w'.cell? ⟨w.heap.size, 3, none⟩ = some (.int .u64 H) /\ w'.cell? ⟨w.heap.size, 4, none⟩ = some (.slice a n cap) /\ w'.cell? ⟨w.heap.size + 1, 0, none⟩ = some (.slice bt nt ct) /\ w'.cell? ⟨w.heap.size + 1, 1, none⟩ = some (.slice bb nb cb)) (first | exact HT.out _ (h4.alloc _) | exact HT.out _ (hT.alloc _) | exact HT.out _ h4 | exact HT.out _ hT | exact HT.out _ (hd.alloc _) | exact HT.out _ hd) (first
  | (go_at_call_of 130 (Value.slice bt nt ct); refine (HNt.out _ (by first | exact HW0.out.trans h4 | exact HW0.out.trans (hd.alloc _) | exact HW0.out.trans hd)).mono ?_; rintro e wT ⟨rfl, oT⟩; have hT : Old W wT := (by first | exact h4.trans oT | exact (hd.alloc _).trans oT | exact hd.trans oT))
  | (go_at_call 130; refine (HN4.out _ _ _ (by first | exact Old.refl _ | exact oT | exact Old.drewAlloc _ _ | exact (Old.drewAlloc _ _).trans oT)).mono ?_; rintro e w4 ⟨rfl, o4⟩; have h4 : Old W w4 := (by first | exact (hT.alloc _).trans o4 | exact hT.trans o4 | exact (hd.alloc _).trans o4)))
 have HOw := hid (strs_two wT W.heap.size S hT.size)
 have HWl : Hid (Old W (wT.alloc (.cells #[.string (strOfNums (S 0)), .string (strOfNums (S 1))] 9))) := hT.alloc _
 generalize wT.alloc (.cells #[.string (strOfNums (S 0)), .string (strOfNums (S 1))] 9) = Wl at *
 clear d0 d1 d2 d3 d4 z0 z1
 go_upto_region 3 with fail
 go_loopw [9, 10] (fun pv iv wx => ∃ i : Nat, iv = .int .i64 (i : Int) /\ i <= nb /\ Hid (wx.ownsRow W.heap.size 9 1 pv (i + 2) (zah S (i + 2))) /\ Hid (Old W wx)) (fun _ iv _ => nb - (intOf iv).toNat)
 case atStart => exact ⟨0, rfl, Nat.zero_le _, HOw, HWl⟩
 case round =>
  obtain ⟨i, rfl, hi, HP, HW⟩ := hrel
  obtain ⟨d0, d1, d2, d3, d4, z0, z1⟩ := HT.out _ HW.out
  by_cases hlt : i < nb
  ·rcases HB.out with h0 | ⟨bx, ox, hqx, _, hrx⟩
   ·omega
   have cx := (HW0.out.trans HW.out).cellOf (hrx i hlt).1
   clear hrx
   subst hqx
   have HC := hid (HNr.out i wr hlt (HW0.out.trans HW.out))
   generalize hsi : S (i + 2) = Si at *
   have HSi := hid hsi
   clear hsi
   go_wp2_with (first
    | (go_at_call 130; refine HC.out.mono ?_; rintro e w1 ⟨rfl, o1⟩; have hs1 := (HW.out.trans o1).size)
    | (at_builtin; refine wpList_append_own _ rfl _ _ 143 rfl W.heap.size 9 i0 (.string ⟨#[]⟩) 1 16 U143 hi0 hz0 hz1 hz2 rfl (by decide) _ _ _ rfl ((zbr HP.out o1).alloc _) ⟨w1.heap.size, 0, none⟩ 1 1 [.string (strOfNums Si)] rfl rfl ?c1 ?c2 ?c3 ?c4 ?c5 ?_))
   case c1 => exact cell_one_new _ _ _
   case c2 => intro u hu; simp at hu; subst hu; rfl
   case c3 => unfold maxLen; omega
   case c4 => omega
   case c5 => simp; omega
   intro v' w2 hown' hgrow _
   have ho2 := hid (zcj (HW.out.trans o1) (zbr HP.out o1) hgrow)
   have hw2 : Hid (w2.ownsRow W.heap.size 9 1 v' (i + 1 + 2) (zah S (i + 1 + 2))) := by
    have e : zah S (i + 1 + 2) = zah S (i + 2) ++ [.string (strOfNums Si)] := by rw [<- HSi.out]; exact zbC S (i + 2)
    unfold Hid
    rw [e]
    exact hown'
   clear hown' hgrow
   go_wp2_with fail
   go_roundw
   case rel => exact ⟨i + 1, zdd i, by omega, hw2, ho2⟩
   case measure => simp [intOf]; omega
  ·have he : nb = i := by omega
   subst he
   have HC := hid (HNk.out wr (HW0.out.trans HW.out))
   generalize hsi : S (nb + 2) = Si at *
   have HSi := hid hsi
   clear hsi
   go_upto_region 7 with (first
    | (go_at_call 130; refine HC.out.mono ?_; rintro e w1 ⟨rfl, o1⟩; have hs1 := (HW.out.trans o1).size)
    | (at_builtin; refine wpList_append_own _ rfl _ _ 143 rfl W.heap.size 9 i0 (.string ⟨#[]⟩) 1 16 U143 hi0 hz0 hz1 hz2 rfl (by decide) _ _ _ rfl ((zbr HP.out o1).alloc _) ⟨w1.heap.size, 0, none⟩ 1 1 [.string (strOfNums Si)] rfl rfl ?c1 ?c2 ?c3 ?c4 ?c5 ?_))
   case c1 => exact cell_one_new _ _ _
   case c2 => intro u hu; simp at hu; subst hu; rfl
   case c3 => unfold maxLen; omega
   case c4 => omega
   case c5 => simp; omega
   intro v' w2 hown' hgrow _
   have ho2 := hid (zcj (HW.out.trans o1) (zbr HP.out o1) hgrow)
   have hw2 : w2.ownsRow W.heap.size 9 1 v' (nb + 3) (zah S (nb + 3)) := by
    have e : zah S (nb + 3) = zah S (nb + 2) ++ [.string (strOfNums Si)] := by rw [<- HSi.out]; exact zbC S (nb + 2)
    rw [e]
    exact hown'
   obtain ⟨ba, bc, rfl, _, hst⟩ := own_strs hw2 (fun j _ => HSb.out j)
   have HN := hid (HNu.out ba bc w2 hst)
   clear hown' hgrow hw2 hst d0 d1 d2 d3 d4 z0 z1
   obtain ⟨d0, d1, d2, d3, d4, z0, z1⟩ := HT.out _ ho2.out
   go_wp2_with (go_at_call 132; refine HN.out.mono ?_; rintro e w3 ⟨rfl, o3⟩)
   go_ret
   exact ⟨rfl, (HW0.out.trans ho2.out).trans o3⟩
theorem make8_run (n : Nat) (h : n <= 1000) (w : World) : (Instr.makeSlice 152 (.int .i64 0) (.int .i64 (8 * (n : Int)))).run prog w = .ok (.slice (some ⟨w.heap.size, 0, none⟩) 0 (8 * n)) (w.alloc (.cells (madeCells #[Value.int .u8 0] (8 * n)) 5)) := by
 obtain ⟨i, hi, hzz⟩ := Option.map_eq_some_iff.1 zeP
 simp only [Prod.mk.injEq] at hzz
 obtain ⟨hz, hs, hb⟩ := hzz
 have hr := run_make (P := prog) w 152 5 i (.int .u8 0) U152 hi hz .i64 .i64 0 (8 * (n : Int)) (Int.le_refl _) (by omega) (by rw [hb]; omega) (by omega)
 have e : (8 * (n : Int)).toNat = 8 * n := by omega
 rw [e, hs, Nat.mul_one] at hr
 exact hr
set_option linter.unusedSimpArgs false in
theorem zcr (b : OA) (n cap : Nat) (F : NI) (w : World) (hn : n <= 1000) (h : FacsIn w b n F) :
  Calls prog 147 #[.slice b n cap] w fun e w' => e = .returned (.string (strOfNums (packL F n))) /\ Old w w' := by
 obtain ⟨i0, hi0, hz0, hz1, hz2⟩ := info_parts zeP
 have HX : Hid (FacsIn w b n F) := h
 have hmk : ∀ wx, (Instr.makeSlice 152 (.int .i64 0) (.int .i64 (8 * (n : Int)))).run prog wx = .ok (.slice (some ⟨wx.heap.size, 0, none⟩) 0 (8 * n)) (wx.alloc (.cells (madeCells #[Value.int .u8 0] (8 * n)) 5)) := make8_run n hn
 clear h
 have HO0 : Hid ((w.alloc (.cells (madeCells #[Value.int .u8 0] (8 * n)) 5)).ownsRow w.heap.size 5 1 (.slice (some ⟨w.heap.size, 0, none⟩) 0 (8 * n)) 0 []) := World.ownsRow_made w _ (8 * n) (Nat.le_refl _) (by unfold maxLen; omega) (by rw [size_madeCells]; omega)
 have HW0 : Hid (Old w (w.alloc (.cells (madeCells #[Value.int .u8 0] (8 * n)) 5))) := (Old.refl _).alloc _
 go_enter func147, ntmps147
 go_wp2_with fail
 go_loopw [3, 13] (fun v iv wx => ∃ i : Nat, iv = .int .i64 (i : Int) /\ i <= n /\ Hid (v ≠ .slice none 0 0) /\ Hid (wx.ownsRow w.heap.size 5 1 v (8 * i) ((packL F i).map (Value.int .u8))) /\ Hid (Old w wx)) (fun _ iv _ => n - (intOf iv).toNat)
 case atStart => exact ⟨0, rfl, Nat.zero_le _, (by unfold Hid; simp), HO0, HW0⟩
 case round =>
  obtain ⟨i, rfl, hi, HE, HV, HO⟩ := hrel
  by_cases hlt : i < n
  ·rcases HX.out.old HO.out with h0 | ⟨bx, ox, hqx, _, hrx⟩
   ·omega
   have cx := (hrx i hlt).1
   clear hrx
   subst hqx
   have HP : Hid (packL F (i + 1) = packL F i ++ zaY (F i) 8 8) := rfl
   generalize F i = x at *
   go_wp2_with fail
   go_loopw [3, 6] (fun v sv wx => ∃ j r : Nat, j + r = 8 /\ sv = .int .i64 (8 * (r : Int) - 8) /\ Hid (v ≠ .slice none 0 0) /\ Hid (wx.ownsRow w.heap.size 5 1 v (8 * i + j) ((packL F i ++ zaY x 8 j).map (Value.int .u8))) /\ Hid (Old w wx)) (fun _ sv _ => (intOf sv + 8).toNat)
   case atStart => exact ⟨0, 8, by omega, rfl, HE, by have := HV; unfold Hid at this ⊢; simpa [zaY] using this, HO⟩
   case round =>
    obtain ⟨j, r, hjr, rfl, HE2, HV2, HO2⟩ := hrel
    cases r with
    | zero =>
     obtain rfl : j = 8 := by omega
     have HV3 : Hid (wr.ownsRow w.heap.size 5 1 u3 (8 * (i + 1)) ((packL F (i + 1)).map (Value.int .u8))) := by rw [HP.out]; exact HV2
     go_wp2_with fail
     go_roundw
     case rel => exact ⟨i + 1, zab i, by omega, HE2, HV3, HO2⟩
     case measure => simp [intOf]; omega
    | succ q =>
     have eq : (8 : Int) * ((q + 1 : Nat) : Int) - 8 = ((8 * q : Nat) : Int) := by omega
     simp only [eq]
     clear eq
     have hs := HO2.out.size
     have HB : Hid (zaY x 8 (j + 1) = zaY x 8 j ++ [zbk x q]) := by unfold Hid; rw [zc1, show 8 - 1 - j = q by omega]
     have q0 : (0 : Int) <= ((8 * q : Nat) : Int) := by omega
     have q1 : ((8 * q : Nat) : Int) < 64 := by omega
     go_wp2_with (at_builtin; refine wpList_append_own _ rfl _ _ 152 rfl w.heap.size 5 i0 (.int .u8 0) 1 1 U152 hi0 hz0 hz1 hz2 rfl (by decide) _ _ _ rfl (World.ownsRow.alloc HV2.out _) ⟨wr.heap.size, 0, none⟩ 1 1 [.int .u8 (zbk x q)] rfl rfl ?c1 ?c2 ?c3 ?c4 ?c5 ?_)
     case c1 => exact cell_one_new _ _ _
     case c2 => intro u hu; simp at hu; subst hu; rfl
     case c3 => unfold maxLen; omega
     case c4 => omega
     case c5 => simp; omega
     intro v' w1 hown' hgrow hne
     have HE3 : Hid (v' ≠ .slice none 0 0) := hne
     clear hne
     have HO3 : Hid (Old w w1) := zcj HO2.out HV2.out hgrow
     have HV3 : Hid (w1.ownsRow w.heap.size 5 1 v' (8 * i + (j + 1)) ((packL F i ++ zaY x 8 (j + 1)).map (Value.int .u8))) := by
      rw [HB.out]
      simp only [List.map_append, List.map_cons, List.map_nil, List.append_assoc] at hown' ⊢
      exact hown'
     clear hown' hgrow
     go_wp2_with fail
     go_roundw
     case rel => exact ⟨j + 1, q, by omega, by first | rfl | (congr 1; omega), HE3, HV3, HO3⟩
     case measure => simp [intOf]; omega
  ·have he : n = i := by omega
   subst he
   have zl := zar F n
   have HC : Hid (∃ g c, u3 = .slice g (8 * n) c /\ (convert 152 9 (.slice g (8 * n) c)).run prog wr = .ok (.string (strOfNums (packL F n))) wr) := by
    rcases HV.out.2 with ⟨hv, _⟩ | ⟨g, c, cur, hv, _, _, _⟩
    ·exact absurd hv HE.out
    ·subst hv
     refine ⟨_, c, rfl, run_convert_bytes_arg wr 152 5 U152 U5 g 0 (8 * n) c (packL F n) zl (fun i hi => ?_) 9 U9⟩
     rw [Nat.zero_add, HV.out.cellAt i (by omega), List.getElem?_map, List.getD, List.getElem?_eq_getElem (by omega)]
     rfl
   obtain ⟨g, c, rfl, hcv⟩ := HC.out
   clear HV
   go_wp2_with fail
   go_ret
   exact ⟨rfl, HO.out⟩
def Bld (B b : Nat) (xs : List Int) (w : World) : Prop := Lib.IsBuilder 155 5 B b (Lib.byteCells (strOfNums xs).data.toList) w
theorem owns_old {w w' : World} {base : Nat} {e : TypeId} {size : Nat} {v : Value} {n : Nat} {xs : List Value} (h : w.ownsRow base e size v n xs) (ho : Old w w') : w'.ownsRow base e size v n xs := by
 refine ⟨h.1, ?_⟩
 rcases h.2 with h0 | ⟨g, cap, cur, hv, hg, hh, hr⟩
 ·exact Or.inl h0
 ·refine Or.inr ⟨g, cap, cur, hv, hg, ?_, hr⟩
  rw [ho.block g (Array.getElem?_eq_some_iff.1 hh).1]
  exact hh
theorem zer {T e : TypeId} {B b : Nat} {p : Value} {bs : List Value} {w w' : World} (h : Lib.BuilderAt T e B b p bs w) (ho : Old w w') : Lib.BuilderAt T e B b p bs w' := by
 obtain ⟨hB, v, hb, hown, hne⟩ := h
 exact ⟨hB, v, by rw [ho.block b (Array.getElem?_eq_some_iff.1 hb).1]; exact hb, owns_old hown ho, hne⟩
theorem Bld.old {B b : Nat} {xs : List Int} {w w' : World} (h : Bld B b xs w) (ho : Old w w') : Bld B b xs w' :=
 h.imp (fun h => zer h ho) (fun h => zer h ho)
theorem Bld.new (w : World) : Bld w.heap.size w.heap.size [] (w.alloc (.cells #[.pointer none, .slice none 0 0] 155)) := by
 refine Or.inl ⟨Nat.le_refl _, .slice none 0 0, ?_, ?_, ?_⟩
 ·exact heap_alloc_last w _
 ·exact World.ownsRow_nil _ _ _ _
 ·simp [Value.ownBlock]
theorem cells_app (xs ys : List Int) : Lib.byteCells (strOfNums xs).data.toList ++ Lib.strCells (strOfNums ys) = Lib.byteCells (strOfNums (xs ++ ys)).data.toList := by
 unfold Lib.byteCells Lib.strCells
 rw [<- List.map_append]
 simp [strOfNums]
theorem cells_len (xs : List Int) : (Lib.byteCells (strOfNums xs).data.toList).length = xs.length := by
 unfold Lib.byteCells
 rw [List.length_map, Array.length_toList]
 exact strOfNums_size xs
theorem zeF (B b : Nat) (xs ys : List Int) (w : World) (h : Bld B b xs w) (hlen : xs.length + ys.length <= 1000000000) (hB : B <= w.heap.size) :
  Calls prog 142 #[.pointer (some ⟨b, 0, none⟩), .string (strOfNums ys)] w fun e w' => e = .returned (.tuple #[.int .i64 (ys.length : Int), .nilIface]) /\ Bld B b (xs ++ ys) w' /\ Below B w w' := by
 have h1 := Any.Builder_WriteString (P := prog) (ρ := Tryz.lays105_ren) { Tryz.lays105 with } Tryz.Builder_Extra_105 B b (Lib.byteCells (strOfNums xs).data.toList) (strOfNums ys) w h (by rw [cells_len, strOfNums_size]; omega) hB
 refine h1.mono ?_
 rintro e w' ⟨rfl, hb, hbel⟩
 refine ⟨by rw [strOfNums_size], Or.inr ?_, hbel⟩
 rw [<- cells_app]
 exact hb
theorem zeU (B b : Nat) (xs : List Int) (w : World) (h : Bld B b xs w) (hB : B <= w.heap.size) :
  Calls prog 145 #[.pointer (some ⟨b, 0, none⟩)] w fun e w' => e = .returned (.string (strOfNums xs)) /\ Below B w w' :=
 Tryz.Builder_String_any B b (strOfNums xs).data.toList w h hB
theorem Old.thenBelow {a c d : World} {B : Nat} (h : Old a c) (hB : a.heap.size <= B) (hb : Below B c d) : Old a d :=
 ⟨hb.os.trans h.os, hb.output.trans h.output, Nat.le_trans h.size hb.size, fun k hk => (hb.block k (Nat.lt_of_lt_of_le hk hB)).trans (h.block k hk)⟩
theorem zev : ∀ c : Nat, Lib.repeatL [0] c = (List.replicate c (0 : Int)).map (fun n => UInt8.ofNat n.toNat)
 | 0 => rfl
 | c + 1 => by
  show [0] ++ Lib.repeatL [0] c = _
  rw [zev c]
  rfl
theorem drepeat_any (c : Nat) (w : World) (hc : c <= 1000000) :
  Calls prog 162 #[.string ⟨#[0]⟩, .int .i64 (c : Int)] w fun e w' => e = .returned (.string (strOfNums (List.replicate c 0))) /\ Old w w' := by
 refine (Tryz.strings_Repeat ⟨#[0]⟩ c w (by omega) (by show 1 * c <= _; omega)).mono ?_
 rintro e w' ⟨rfl, hb⟩
 refine ⟨?_, Old.ofBelow hb⟩
 rw [zev]
 rfl
def endL (n : Nat) : List Int := [128] ++ List.replicate (zeros n) 0 ++ zap ((n : Int) * 8) 8
theorem endL_len (n : Nat) : (endL n).length = 1 + zeros n + 8 := by
 simp [endL, zal]
 omega
theorem turn_bits : ∀ n : Fin 32, 0 < n.val -> bits .and .u64 (18446744073709551616 - (n.val : Int)) 31 = 32 - (n.val : Int) := by decide +kernel
theorem or32_comm (a b : Int) : or32 a b = or32 b a := by
 unfold or32 bits
 simp only [BitVec.or_comm]
theorem zb1 (x : Int) (n : Nat) (w : World) (n0 : 0 < n) (n1 : n < 32) :
  Calls prog 173 #[.int .u32 x, .int .i64 (-(n : Int))] w fun e w' => e = .returned (.int .u32 (rot x n)) /\ w' = w := by
 have hb := turn_bits ⟨n, n1⟩ n0
 have hw : IntKind.u64.wrap (-(n : Int)) = 18446744073709551616 - (n : Int) := by
  unfold IntKind.wrap
  rw [show IntKind.u64.bits = 64 from rfl]
  simp [IntKind.signed]
  omega
 go_enter func173, ntmps173
 go_wp2_with fail
 go_ret
 refine ⟨?_, rfl⟩
 rw [show 32 - (32 - n) = n by omega]
 exact congrArg (fun a => Ending.returned (.int .u32 a)) (or32_comm _ _)
theorem zeu (x : Int) (i j k : Nat) (w : World) (hi : 0 < i /\ i < 32) (hj : 0 < j /\ j < 32) (hk : 0 < k /\ k < 32) :
  Calls prog 165 #[.int .u32 x, .int .i64 (i : Int), .int .i64 (j : Int), .int .i64 (k : Int)] w fun e w' => e = .returned (.int .u32 (xor32 (xor32 (rot x i) (rot x j)) (rot x k))) /\ w' = w := by
 go_enter func165, ntmps165
 go_wp2_with (first
  | (go_at_call_of 173 (Value.int IntKind.i64 (-(i : Int))); refine (zb1 x i _ hi.1 hi.2).mono ?_)
  | (go_at_call_of 173 (Value.int IntKind.i64 (-(j : Int))); refine (zb1 x j _ hj.1 hj.2).mono ?_)
  | (go_at_call_of 173 (Value.int IntKind.i64 (-(k : Int))); refine (zb1 x k _ hk.1 hk.2).mono ?_))
 rintro e w' ⟨rfl, rfl⟩
 go_wp2_with (first
  | (go_at_call_of 173 (Value.int IntKind.i64 (-(j : Int))); refine (zb1 x j _ hj.1 hj.2).mono ?_))
 rintro e w' ⟨rfl, rfl⟩
 go_wp2_with (first
  | (go_at_call_of 173 (Value.int IntKind.i64 (-(k : Int))); refine (zb1 x k _ hk.1 hk.2).mono ?_))
 rintro e w' ⟨rfl, rfl⟩
 go_wp2_with fail
 go_ret
 exact ⟨rfl, rfl⟩
theorem zfe (x : Int) (i j k : Nat) (w : World) (hi : 0 < i /\ i < 32) (hj : 0 < j /\ j < 32) (hk : 0 < k /\ k < 32) :
  Calls prog 172 #[.int .u32 x, .int .i64 (i : Int), .int .i64 (j : Int), .int .i64 (k : Int)] w fun e w' => e = .returned (.int .u32 (xor32 (xor32 (rot x i) (rot x j)) (x / 2 ^ k))) /\ ∃ n, w' = w.drewN n := by
 have k0 : (0 : Int) <= (k : Int) := by omega
 go_enter func172, ntmps172
 go_wp2_with fail
 go_quiet (first
  | (go_at_call_of 173 (Value.int IntKind.i64 (-(i : Int))); exact Calls.quiet_of_same (zb1 x i _ hi.1 hi.2))
  | (go_at_call_of 173 (Value.int IntKind.i64 (-(j : Int))); exact Calls.quiet_of_same (zb1 x j _ hj.1 hj.2)))
 go_wp2
 go_ret
 exact ⟨rfl, _, rfl⟩
theorem dchoice_any (x y z : Int) (w : World) :
  Calls prog 166 #[.int .u32 x, .int .u32 y, .int .u32 z] w fun e w' => e = .returned (.int .u32 (pick x y z)) /\ w' = w := by
 go_enter func166, ntmps166
 go_wp2_with fail
 go_ret
 exact ⟨rfl, rfl⟩
theorem dmost_any (x y z : Int) (w : World) :
  Calls prog 167 #[.int .u32 x, .int .u32 y, .int .u32 z] w fun e w' => e = .returned (.int .u32 (most x y z)) /\ w' = w := by
 go_enter func167, ntmps167
 go_wp2_with fail
 go_ret
 exact ⟨rfl, rfl⟩
def valP (X : NI) : Nat -> Int
 | 0 => 0
 | i + 1 => valP X i * 256 + X i
theorem valP_bd {X : NI} (h : ∀ i, 0 <= X i /\ X i <= 255) : ∀ i, 0 <= valP X i /\ valP X i < 256 ^ i
 | 0 => by show (0 : Int) <= 0 /\ (0 : Int) < 256 ^ 0; omega
 | i + 1 => by
  have h1 := valP_bd h i
  have h2 := h i
  show (0 : Int) <= valP X i * 256 + X i /\ valP X i * 256 + X i < 256 ^ (i + 1)
  rw [Int.pow_succ]
  generalize (256 : Int) ^ i = m at *
  omega
theorem pow_le8 {i : Nat} (h : i <= 7) : (256 : Int) ^ i <= 72057594037927936 := by
 match i, h with
 | 0, _ => decide
 | 1, _ => decide
 | 2, _ => decide
 | 3, _ => decide
 | 4, _ => decide
 | 5, _ => decide
 | 6, _ => decide
 | 7, _ => decide
theorem join_byte (n x : Int) (n0 : 0 <= n) (n1 : n < 72057594037927936) (x0 : 0 <= x) (x1 : x <= 255) : bits .or .u64 (n * 256 % 18446744073709551616) x = n * 256 + x := by
 rw [Int.emod_eq_of_lt (by omega) (by omega), u64_or _ _ (by omega) (by omega) (by omega) (by omega), nat_join 8 _ _ (by omega) (by omega)]
 omega
theorem dnum_any (xs : List Int) (w : World) (hx : Bts xs) (hl : xs.length <= 8) :
  Calls prog 146 #[.string (strOfNums xs)] w fun e w' => e = .returned (.int .u64 (valP (fun i => xs.getD i 0) xs.length)) /\ w' = w := by
 have hsz : ∀ xs : List Int, (strOfNums xs).size = xs.length := strOfNums_size
 have HX : Hid (Bts xs) := hx
 clear hx
 go_enter func146, ntmps146
 go_wp2_with fail
 go_loopw [3, 7] (fun nv iv wx => ∃ i : Nat, iv = .int .i64 (i : Int) /\ i <= xs.length /\ nv = .int .u64 (valP (fun i => xs.getD i 0) i) /\ wx = w) (fun _ iv _ => xs.length - (intOf iv).toNat)
 case atStart => exact ⟨0, rfl, Nat.zero_le _, rfl, rfl⟩
 case round =>
  obtain ⟨i, rfl, hi, rfl, rfl⟩ := hrel
  by_cases hlt : i < xs.length
  ·have hix := str_index HX.out (i := i) (by rw [strOfNums_size]; omega)
   obtain ⟨e0, e1⟩ := zco HX.out i
   obtain ⟨g0, g1⟩ := valP_bd (zco HX.out) i
   have g2 := pow_le8 (show i <= 7 by omega)
   have HF : Hid (valP (fun i => xs.getD i 0) (i + 1) = valP (fun i => xs.getD i 0) i * 256 + xs.getD i 0) := rfl
   generalize valP (fun i => xs.getD i 0) i = x at *
   have hj := join_byte x (xs.getD i 0) g0 (by omega) e0 e1
   have HJ : Hid (bits .or .u64 (x * 256 % 18446744073709551616) (xs.getD i 0) = x * 256 + xs.getD i 0) := hj
   clear hj g1 g2
   generalize xs.getD i 0 = y at *
   have hw : IntKind.u64.wrap y = y := by rw [IntKind.wrap_u64]; omega
   go_wp2_with fail
   go_roundw
   case rel => exact ⟨i + 1, zdd i, by omega, by rw [HF.out]; exact congrArg (Value.int .u64) HJ.out, trivial⟩
   case measure => simp [intOf]; omega
  ·have he : i = xs.length := by omega
   subst he
   go_wp2_with fail
   go_ret
   exact ⟨rfl, rfl⟩
theorem byte_step (n : Int) (j : Nat) : n / 2 ^ (8 * j) / 256 = n / 2 ^ (8 * (j + 1)) := by
 rw [Int.ediv_ediv_of_nonneg (by exact Int.pow_nonneg (by omega)), show 8 * (j + 1) = 8 * j + 8 by omega, Int.pow_add]
 rfl
def zca (n : Int) (k j t : Nat) : Value := .int .u8 (if k - j <= t then zbk n (k - 1 - t) else 0)
theorem bytesAt_step {W wr : World} {ty : TypeId} {n : Int} {k j : Nat} (hj : j < k) {x : Int} (hx : x = zbk n j) (h : Old W wr /\ wr.rowIs W.heap.size ty k (zca n k j)) :
  Old W (wr.setCell ⟨W.heap.size, k - 1 - j, none⟩ (.int .u8 x)) /\ (wr.setCell ⟨W.heap.size, k - 1 - j, none⟩ (.int .u8 x)).rowIs W.heap.size ty k (zca n k (j + 1)) := by
 refine ⟨h.1.setCell (Nat.le_refl _) _, (h.2.set (k - 1 - j) _).congr fun t ht => ?_⟩
 unfold zca
 by_cases he : t = k - 1 - j
 ·subst he
  rw [if_pos rfl, if_pos (by omega), hx, show k - 1 - (k - 1 - j) = j by omega]
 ·rw [if_neg he]
  by_cases hl : k - j <= t
  ·rw [if_pos hl, if_pos (by omega)]
  ·rw [if_neg hl, if_neg (by omega)]
theorem bytesAt_start (W : World) (ty : TypeId) (n : Int) (k : Nat) : Old W (W.alloc (.cells (madeCells #[.int .u8 0] k) ty)) /\ (W.alloc (.cells (madeCells #[.int .u8 0] k) ty)).rowIs W.heap.size ty k (zca n k 0) :=
 ⟨(Old.refl W).alloc _, (World.rowIs_made W (.int .u8 0) k ty).congr fun t ht => by unfold zca; rw [if_neg (by omega)]⟩
theorem bytesAt_text {P : Program} {b : Nat} {wr : World} {src e ty : TypeId} {n : Int} {k : Nat} (hs : P.underlying src = some (.slice e)) (he : P.underlying e = some (.int .u8)) (hr : wr.rowIs b ty k (zca n k k)) (dst : TypeId) (hd : P.underlying dst = some .string) :
  (convert src dst (.slice (some ⟨b, 0, none⟩) k k)).run P wr = .ok (.string (strOfNums (zap n k))) wr :=
 run_convert_bytes_arg wr src e hs he b 0 k k (zap n k) (zal n k) (fun i hi => by
  rw [Nat.zero_add, hr.cell hi]
  unfold zca zap zaY
  rw [if_pos (by omega)]
  simp [hi]) dst hd
theorem zdx (n : Int) (k : Nat) (w : World) (hk : k <= 8) (hk0 : 0 < k) :
  Calls prog 154 #[.int .u64 n, .int .i64 (k : Int)] w fun e w' => e = .returned (.string (strOfNums (zap n k))) /\ Old w w' := by
 have hmk : ∀ wx, (Instr.makeSlice 152 (.int .i64 (k : Int)) (.int .i64 (k : Int))).run prog wx = .ok (.slice (some ⟨wx.heap.size, 0, none⟩) k k) (wx.alloc (.cells (madeCells #[.int .u8 0] k) 5)) := run_make_row' (P := prog) 152 5 (.int .u8 0) 1 U152 zeP rfl .i64 .i64 k (by omega) (by omega)
 go_enter func154, ntmps154
 go_wp2_with fail
 go_loopw [0, 6] (fun nv iv wx => ∃ j r : Nat, j + r = k /\ iv = .int .i64 ((r : Int) - 1) /\ nv = .int .u64 (n / 2 ^ (8 * j)) /\ Hid (Old w wx /\ wx.rowIs w.heap.size 5 k (zca n k j))) (fun _ iv _ => (intOf iv + 1).toNat)
 case atStart => exact ⟨0, k, by omega, rfl, by simp, bytesAt_start w _ n k⟩
 case round =>
  obtain ⟨j, r, hjr, rfl, rfl, HR⟩ := hrel
  cases r with
  | zero =>
   obtain rfl : j = k := by omega
   have hcv := bytesAt_text U152 U5 HR.out.2 9 U9
   go_wp2_with fail
   go_ret
   exact ⟨rfl, HR.out.1⟩
  | succ q =>
   have eq : ((q + 1 : Nat) : Int) - 1 = (q : Int) := by omega
   simp only [eq]
   clear eq
   have hq : q = k - 1 - j := by omega
   have q0 : (0 : Int) <= (q : Int) := by omega
   have qk : (q : Int) < (k : Int) := by omega
   obtain ⟨vq, cq⟩ : ∃ v, wr.cell? ⟨w.heap.size, q, none⟩ = some (.int .u8 v) := ⟨_, HR.out.2.cell (i := q) (by omega)⟩
   have fq := HR.out.2.frozen q
   have hw : IntKind.u8.wrap (n / 2 ^ (8 * j)) = zbk n j := IntKind.wrap_u8' _
   have HS : Hid (n / 2 ^ (8 * j) / 256 = n / 2 ^ (8 * (j + 1))) := byte_step n j
   have HT := bytesAt_step (x := zbk n j) (show j < k by omega) rfl HR.out
   rw [<- hq] at HT
   clear hq
   have HT : Hid (Old w (wr.setCell ⟨w.heap.size, q, none⟩ (.int .u8 (zbk n j))) /\ (wr.setCell ⟨w.heap.size, q, none⟩ (.int .u8 (zbk n j))).rowIs w.heap.size 5 k (zca n k (j + 1))) := HT
   generalize n / 2 ^ (8 * j) = m at *
   go_wp2_with fail
   go_roundw
   case rel => exact ⟨j + 1, q, by omega, rfl, by rw [<- HS.out], HT⟩
   case measure => simp [intOf]
def arr (n : Nat) (f : Nat -> Value) : Array Value := ((List.range n).map f).toArray
theorem zam (n : Nat) (f : Nat -> Value) : (arr n f).size = n := by simp [arr]
theorem ze7 {n : Nat} {f : Nat -> Value} {i : Nat} (h : i < n) : (arr n f)[i]? = some (f i) := by simp [arr, h]
theorem arr_of {n : Nat} {f : Nat -> Value} {c : Array Value} (hs : c.size = n) (h : ∀ i, i < n -> c[i]? = some (f i)) : c = arr n f := by
 apply Array.ext_getElem?
 intro i
 by_cases hi : i < n
 ·rw [h i hi, ze7 hi]
 ·rw [Array.getElem?_eq_none (by omega), Array.getElem?_eq_none (by rw [zam]; omega)]
theorem arr_congr {n : Nat} {f g : Nat -> Value} (h : ∀ i, i < n -> f i = g i) : arr n f = arr n g :=
 arr_of (zam _ _) fun i hi => by rw [ze7 hi, h i hi]
theorem zb2 {w : World} {b : Nat} {t : TypeId} {n : Nat} {f : Nat -> Value} (h : w.rowIs b t n f) : w.heap[b]? = some (.cells (arr n f) t (0, 0)) := by
 obtain ⟨c, hb, hn, hc⟩ := h
 rw [hb, arr_of hn hc]
theorem zbA (w : World) (t : TypeId) (n : Nat) (f : Nat -> Value) : (w.alloc (.cells (arr n f) t)).rowIs w.heap.size t n f := by
 have := World.rowIs_alloc w (arr n f) t f (fun i hi => ze7 (by rwa [zam] at hi))
 rwa [zam] at this
theorem zde {P : Program} {w : World} {b : Nat} {t ty e : TypeId} {n : Nat} {f : Nat -> Value} (h : w.rowIs b t n f) (hu : P.underlying ty = some (.array n e)) (hi : (P.info? ty).map (·.size) = some n) :
  (loadVar ty ⟨b, 0, none⟩).run P w = .ok (.agg (arr n f)) w :=
 run_loadVar_row w b t ty (arr n f) (0, 0) _ (zb2 h) hu rfl (by rw [zam]; exact hi)
theorem zcR {n : Nat} {k : IntKind} (f : NI) : (arr n fun i => .int k (f i)).all (·.oneCell') = true := by
 rw [Array.all_eq_true]
 intro i hi
 have h2 : i < n := by rwa [zam] at hi
 have h3 := ze7 (f := fun i => Value.int k (f i)) h2
 rw [Array.getElem?_eq_getElem hi] at h3
 injection h3 with h3
 rw [h3]
 rfl
theorem zdG {w : World} {b : Nat} {t : TypeId} {n : Nat} {f : Nat -> Value} (h : w.rowIs b t n f) (g : Nat -> Value) : (w.setRow b (arr n g)).rowIs b t n g := by
 refine ⟨arr n g, ?_, zam _ _, fun i hi => ze7 hi⟩
 have := zb2 h
 simp only [World.setRow]
 rw [Array.getElem?_modify, if_pos rfl, this]
 rfl
theorem Old.setRow {a w : World} (h : Old a w) {b : Nat} (hb : a.heap.size <= b) (c : Array Value) : Old a (w.setRow b c) :=
 ⟨h.os, h.output, by simpa [World.setRow] using h.size, fun k hk => by
  simp only [World.setRow]
  rw [Array.getElem?_modify, if_neg (by omega)]
  exact h.block k hk⟩
theorem zbO {P : Program} {w : World} {b : Nat} {t : TypeId} {n : Nat} {f : Nat -> Value} {k : IntKind} {g : NI} (h : w.rowIs b t n f) : (storeCells ⟨b, 0, none⟩ (arr n fun i => .int k (g i)).toList 0).run P w = .ok () (w.setRow b (arr n fun i => .int k (g i))) := by
 have := run_storeCells_from (P := P) b t (arr n fun i => .int k (g i)).toList 0 (arr n f) w (zb2 h) (by simp [zam]) (fun v hv => (Array.all_eq_true_iff_forall_mem.1 (zcR g)) v (by simpa using hv))
 simpa using this
theorem zbf {P : Program} {fn : Func} {s : Tmp} {t : TypeId} {tmps : Array Value} {w : World} {b : Nat} {v : Value} (h : fn.results = #[.cell s t]) (hp : tmps[s]? = some (.pointer (some ⟨b, 0, none⟩))) (hl : (loadVar t ⟨b, 0, none⟩).run P w = .ok v w) : (results fn tmps).run P w = .ok v w := by
 simp [results, h, hp, asAddr, hl]
theorem info8 : (prog.info? 164).map (·.size) = some 8 := by kernel_rfl
theorem zeB : (prog.info? 175).map (·.size) = some 64 := by kernel_rfl
theorem dfirst_any (w : World) : Calls prog 156 #[] w fun e w' => e = .returned (.agg (arr 8 fun i => .int .u32 (hS i))) /\ Old w w' := by
 go_enter func156, ntmps156
 go_wp2_with fail
 refine bodyPost_ret (v := .agg (arr 8 fun i => .int .u32 (hS i))) (zbf rfl rfl (zde (World.rowIs_alloc w _ _ (fun i => .int .u32 (hS i)) (fun i hi => ?_)) U164 info8)) rfl ⟨rfl, (Old.refl _).alloc _⟩
 match i, hi with
 | 0, _ => rfl
 | 1, _ => rfl
 | 2, _ => rfl
 | 3, _ => rfl
 | 4, _ => rfl
 | 5, _ => rfl
 | 6, _ => rfl
 | 7, _ => rfl
theorem zdj (xs : List Int) (a b : Nat) : (strOfNums xs).extract a b = strOfNums ((xs.drop a).take (b - a)) := by
 apply ByteArray.ext
 rw [ByteArray.data_extract]
 apply Array.ext'
 simp [strOfNums, List.map_take, List.map_drop]
theorem four_part {xs : List Int} {a : Nat} (h : a + 4 <= xs.length) : (xs.drop a).take 4 = [xs.getD a 0, xs.getD (a + 1) 0, xs.getD (a + 2) 0, xs.getD (a + 3) 0] := by
 apply List.ext_getElem
 ·simp; omega
 ·intro i h1 h2
  simp at h2
  match i, h2 with
  | 0, _ => simp [List.getD, List.getElem?_eq_getElem (show a < xs.length by omega)]
  | 1, _ => simp [List.getD, List.getElem?_eq_getElem (show a + 1 < xs.length by omega)]
  | 2, _ => simp [List.getD, List.getElem?_eq_getElem (show a + 2 < xs.length by omega)]
  | 3, _ => simp [List.getD, List.getElem?_eq_getElem (show a + 3 < xs.length by omega)]
theorem zem (i : Nat) (x y : Int) (x0 : 0 <= x) (x1 : x < 4294967296) (y0 : 0 <= y) (y1 : y < 4294967296) (hx : x.toNat % 2 ^ i = 0) (hy : y.toNat < 2 ^ i) : or32 x y = x + y := by
 unfold or32
 rw [u32_or _ _ x0 x1 y0 y1, nat_join i _ _ hx hy]
 omega
theorem four_val (a b c d : Int) (ha : 0 <= a /\ a <= 255) (hb : 0 <= b /\ b <= 255) (hc : 0 <= c /\ c <= 255) (hd : 0 <= d /\ d <= 255) : valP (fun i => [a, b, c, d].getD i 0) 4 % 4294967296 = four a b c d := by
 unfold four
 rw [zem 24 (a * 16777216) (b * 65536) (by omega) (by omega) (by omega) (by omega) (by omega) (by omega)]
 rw [zem 16 (a * 16777216 + b * 65536) (c * 256) (by omega) (by omega) (by omega) (by omega) (by omega) (by omega)]
 rw [zem 8 (a * 16777216 + b * 65536 + c * 256) d (by omega) (by omega) (by omega) (by omega) (by omega) (by omega)]
 show ((((0 * 256 + a) * 256 + b) * 256 + c) * 256 + d) % 4294967296 = a * 16777216 + b * 65536 + c * 256 + d
 omega
theorem words_low {W wr : World} {ty : TypeId} {D : NI} {t : Nat} {v : Int} (h : Old W wr /\ wr.rowIs (W.heap.size + 1) ty 64 (fun j => .int .u32 (sched D t j))) (hv : v = word D (sched D t) t) :
  Old W (wr.setCell ⟨W.heap.size + 1, t, none⟩ (.int .u32 v)) /\ (wr.setCell ⟨W.heap.size + 1, t, none⟩ (.int .u32 v)).rowIs (W.heap.size + 1) ty 64 (fun j => .int .u32 (sched D (t + 1) j)) := by
 refine ⟨h.1.setCell (Nat.le_succ _) _, (h.2.set t _).congr fun j _ => ?_⟩
 show (if j = t then Value.int .u32 v else .int .u32 (sched D t j)) = .int .u32 (if j = t then word D (sched D t) t else sched D t j)
 split
 ·rw [hv]
 ·rfl
theorem ze0 {W wr : World} {ty : TypeId} {D : NI} {t : Nat} {v : Int} {f : Nat -> Value} (h : Old W wr /\ wr.rowIs W.heap.size ty 64 f /\ wr.rowIs (W.heap.size + 1) ty 64 (fun j => .int .u32 (sched D t j))) (hv : v = word D (sched D t) t) :
  Old W (wr.setCell ⟨W.heap.size + 1, t, none⟩ (.int .u32 v)) /\ (wr.setCell ⟨W.heap.size + 1, t, none⟩ (.int .u32 v)).rowIs W.heap.size ty 64 f /\ (wr.setCell ⟨W.heap.size + 1, t, none⟩ (.int .u32 v)).rowIs (W.heap.size + 1) ty 64 (fun j => .int .u32 (sched D (t + 1) j)) :=
 ⟨(words_low ⟨h.1, h.2.2⟩ hv).1, h.2.1.setOther (by simp) _, (words_low ⟨h.1, h.2.2⟩ hv).2⟩
theorem keep_four {w : World} {b t i j k l : Nat} {x y z u v : Value} (h : w.cell? ⟨b, i, none⟩ = some x /\ w.cell? ⟨b, j, none⟩ = some y /\ w.cell? ⟨b, k, none⟩ = some z /\ w.cell? ⟨b, l, none⟩ = some u) (hi : t ≠ i) (hj : t ≠ j) (hk : t ≠ k) (hl : t ≠ l) : (w.setCell ⟨b, t, none⟩ v).cell? ⟨b, i, none⟩ = some x /\ (w.setCell ⟨b, t, none⟩ v).cell? ⟨b, j, none⟩ = some y /\ (w.setCell ⟨b, t, none⟩ v).cell? ⟨b, k, none⟩ = some z /\ (w.setCell ⟨b, t, none⟩ v).cell? ⟨b, l, none⟩ = some u :=
 ⟨(zc6 (v := v) ⟨h.1, h.2.1⟩ hi hj).1, (zc6 (v := v) ⟨h.1, h.2.1⟩ hi hj).2, (zc6 (v := v) ⟨h.2.2.1, h.2.2.2⟩ hk hl).1, (zc6 (v := v) ⟨h.2.2.1, h.2.2.2⟩ hk hl).2⟩
def zdN : Array Value := arr 64 (fun _ => .int .u32 0)
theorem spread_start (w : World) (t : TypeId) (D : NI) : Old w ((w.alloc (.cells zdN t)).alloc (.cells zdN t)) /\ ((w.alloc (.cells zdN t)).alloc (.cells zdN t)).rowIs w.heap.size t 64 (fun _ => .int .u32 0) /\ ((w.alloc (.cells zdN t)).alloc (.cells zdN t)).rowIs (w.heap.size + 1) t 64 (fun j => .int .u32 (sched D 0 j)) := by
 refine ⟨((Old.refl w).alloc _).alloc _, (zbA w t 64 _).alloc _, ?_⟩
 have h := zbA (w.alloc (.cells zdN t)) t 64 (fun _ => .int .u32 0)
 have e : (w.alloc (.cells zdN t)).heap.size = w.heap.size + 1 := by simp
 rw [e] at h
 exact h
theorem dspread_any (xs : List Int) (w : World) (hx : Bts xs) (hl : xs.length = 64) :
  Calls prog 164 #[.string (strOfNums xs)] w fun e w' => e = .returned (.agg (arr 64 fun i => .int .u32 (sched (fun i => xs.getD i 0) 64 i))) /\ Old w w' := by
 have hsz : ∀ xs : List Int, (strOfNums xs).size = xs.length := strOfNums_size
 have HX : Hid (Bts xs) := hx
 clear hx
 have HS : Hid (∀ t : Nat, t < 16 -> (strOfNums xs).extract (4 * t) (4 * t + 4) = strOfNums [xs.getD (4 * t) 0, xs.getD (4 * t + 1) 0, xs.getD (4 * t + 2) 0, xs.getD (4 * t + 3) 0]) := fun t ht => by
  rw [zdj, show 4 * t + 4 - 4 * t = 4 by omega, four_part (by omega)]
 have HB : Hid (∀ i, 0 <= xs.getD i 0 /\ xs.getD i 0 <= 255) := zco HX.out
 go_enter func164, ntmps164
 go_wp2_with fail
 go_loopw [6] (fun iv wx => ∃ t : Nat, iv = .int .i64 (t : Int) /\ t <= 16 /\ Hid (Old w wx /\ wx.rowIs w.heap.size 175 64 (fun _ => .int .u32 0) /\ wx.rowIs (w.heap.size + 1) 175 64 (fun j => .int .u32 (sched (fun i => xs.getD i 0) t j)))) (fun iv _ => 16 - (intOf iv).toNat)
 case atStart => exact ⟨0, rfl, Nat.zero_le _, spread_start w _ _⟩
 case round =>
  obtain ⟨t, rfl, ht, HR⟩ := hrel
  by_cases hlt : t < 16
  ·obtain ⟨v, cv⟩ : ∃ v, wr.cell? ⟨w.heap.size + 1, t, none⟩ = some (.int .u32 v) := ⟨_, HR.out.2.2.cell (by omega)⟩
   have fv := HR.out.2.2.frozen t
   have hsl := HS.out t hlt
   have b0 := HB.out (4 * t)
   have b1 := HB.out (4 * t + 1)
   have b2 := HB.out (4 * t + 2)
   have b3 := HB.out (4 * t + 3)
   have HV : Hid (word (fun i => xs.getD i 0) (sched (fun i => xs.getD i 0) t) t = valP (fun i => [xs.getD (4 * t) 0, xs.getD (4 * t + 1) 0, xs.getD (4 * t + 2) 0, xs.getD (4 * t + 3) 0].getD i 0) 4 % 4294967296) := by
    unfold Hid
    rw [word_low hlt, four_val _ _ _ _ b0 b1 b2 b3]
   have HC : Hid (Bts [xs.getD (4 * t) 0, xs.getD (4 * t + 1) 0, xs.getD (4 * t + 2) 0, xs.getD (4 * t + 3) 0]) := by
    intro x hx
    simp at hx
    rcases hx with rfl | rfl | rfl | rfl
    ·exact b0
    ·exact b1
    ·exact b2
    ·exact b3
   clear b0 b1 b2 b3
   obtain ⟨ys, hy⟩ : ∃ ys, ys = [xs.getD (4 * t) 0, xs.getD (4 * t + 1) 0, xs.getD (4 * t + 2) 0, xs.getD (4 * t + 3) 0] := ⟨_, rfl⟩
   have ly : ys.length = 4 := by rw [hy]; rfl
   rw [<- hy] at HV HC hsl
   clear hy
   have t1 : (4 * (t : Int)).toNat = 4 * t := by omega
   have t2 : (4 * (t : Int) + 4).toNat = 4 * t + 4 := by omega
   go_wp2_with (go_at_call 146; refine (dnum_any ys _ HC.out (by omega)).mono ?_; rintro e w' ⟨rfl, rfl⟩)
   go_roundw
   case rel => exact ⟨t + 1, zdd t, by omega, ze0 HR.out HV.out.symm⟩
   case measure => simp [intOf]; omega
  ·have he : t = 16 := by omega
   subst he
   go_wp2_with fail
   go_loopw [5] (fun iv wx => ∃ t : Nat, iv = .int .i64 (t : Int) /\ 16 <= t /\ t <= 64 /\ Hid (Old w wx /\ wx.rowIs w.heap.size 175 64 (fun _ => .int .u32 0) /\ wx.rowIs (w.heap.size + 1) 175 64 (fun j => .int .u32 (sched (fun i => xs.getD i 0) t j)))) (fun iv _ => 64 - (intOf iv).toNat)
   case atStart => exact ⟨16, rfl, by omega, by omega, HR⟩
   case round =>
    obtain ⟨t, rfl, h16, ht2, HR⟩ := hrel
    by_cases hlt : t < 64
    ·obtain ⟨v, cv⟩ : ∃ v, wr.cell? ⟨w.heap.size + 1, t, none⟩ = some (.int .u32 v) := ⟨_, HR.out.2.2.cell (by omega)⟩
     have fv := HR.out.2.2.frozen t
     have c16 := HR.out.2.2.cell (i := t - 16) (by omega)
     have c15 := HR.out.2.2.cell (i := t - 15) (by omega)
     have c7 := HR.out.2.2.cell (i := t - 7) (by omega)
     have c2 := HR.out.2.2.cell (i := t - 2) (by omega)
     have HV : Hid (word (fun i => xs.getD i 0) (sched (fun i => xs.getD i 0) t) t = _) := zeD (show ¬ t < 16 by omega)
     generalize sched (fun i => xs.getD i 0) t (t - 16) = s16 at *
     generalize sched (fun i => xs.getD i 0) t (t - 15) = s15 at *
     generalize sched (fun i => xs.getD i 0) t (t - 7) = s7 at *
     generalize sched (fun i => xs.getD i 0) t (t - 2) = s2 at *
     have e16 : ((t : Int) - 16).toNat = t - 16 := by omega
     have e15 : ((t : Int) - 15).toNat = t - 15 := by omega
     have e7 : ((t : Int) - 7).toNat = t - 7 := by omega
     have e2 : ((t : Int) - 2).toNat = t - 2 := by omega
     have f16 : IntKind.i64.wrap ((t : Int) - 16) = (t : Int) - 16 := by rw [IntKind.wrap_i64]; omega
     have f15 : IntKind.i64.wrap ((t : Int) - 15) = (t : Int) - 15 := by rw [IntKind.wrap_i64]; omega
     have f7 : IntKind.i64.wrap ((t : Int) - 7) = (t : Int) - 7 := by rw [IntKind.wrap_i64]; omega
     have f2 : IntKind.i64.wrap ((t : Int) - 2) = (t : Int) - 2 := by rw [IntKind.wrap_i64]; omega
     have g16 : (0 : Int) <= (t : Int) - 16 := by omega
     have g15 : (0 : Int) <= (t : Int) - 15 := by omega
     have g7 : (0 : Int) <= (t : Int) - 7 := by omega
     have g2 : (0 : Int) <= (t : Int) - 2 := by omega
     have k16 : (t : Int) - 16 < 64 := by omega
     have k15 : (t : Int) - 15 < 64 := by omega
     have k7 : (t : Int) - 7 < 64 := by omega
     have k2 : (t : Int) - 2 < 64 := by omega
     have tt : (t : Int) < 64 := by omega
     have p16 : (16 : Int) <= (t : Int) := by omega
     have p15 : (15 : Int) <= (t : Int) := by omega
     have p7 : (7 : Int) <= (t : Int) := by omega
     have p2 : (2 : Int) <= (t : Int) := by omega
     have q16 : (t : Int) < 80 := by omega
     have q15 : (t : Int) < 79 := by omega
     have q7 : (t : Int) < 71 := by omega
     have q2 : (t : Int) < 66 := by omega
     go_wp2_with fail
     go_region_held3 (fun w' => w'.cell? ⟨w.heap.size + 1, t - 16, none⟩ = some (.int .u32 s16) /\ w'.cell? ⟨w.heap.size + 1, t - 15, none⟩ = some (.int .u32 s15) /\ w'.cell? ⟨w.heap.size + 1, t - 7, none⟩ = some (.int .u32 s7) /\ w'.cell? ⟨w.heap.size + 1, t - 2, none⟩ = some (.int .u32 s2)) (first | go_keep | exact keep_four (by assumption) (by omega) (by omega) (by omega) (by omega)) (first
      | (go_at_call_of 172 (Value.int IntKind.i64 7); refine (zfe _ 7 18 3 _ (by omega) (by omega) (by omega)).mono ?_; rintro e w' ⟨rfl, nd, rfl⟩)
      | (go_at_call_of 172 (Value.int IntKind.i64 17); refine (zfe _ 17 19 10 _ (by omega) (by omega) (by omega)).mono ?_; rintro e w' ⟨rfl, nd, rfl⟩))
     simp only [IntKind.wrap_u32']
     go_wp2_with fail
     go_roundw
     case rel =>
      (repeat apply Exists.intro)
      exact ⟨⟨t + 1, by go_num, by omega, by omega, ze0 ⟨HR.out.1.drewN _, HR.out.2⟩ (by rw [HV.out, add_four]; rfl)⟩, rfl⟩
     case measure => simp [intOf]; omega
    ·have he : t = 64 := by omega
     subst he
     go_upto_region 11 with fail
     refine wp_region_lit ?_
     refine wpList_load_row rfl 175 (.tmp 3) rfl (w.heap.size + 1) rfl _ _ (0, 0) _ (zb2 HR.out.2.2) U175 rfl (by rw [zam]; exact zeB) ?_
     refine wpList_store_row rfl 175 _ _ rfl w.heap.size (arr 64 fun i => .int .u32 (sched (fun i => xs.getD i 0) 64 i)) rfl rfl _ _ (zb2 HR.out.2.1) (by rw [zam]; exact zeB) (by rw [zam, zam]) (zcR _) ?_
     refine wpList_nil ?_
     go_wp2_with fail
     refine bodyPost_ret (v := .agg (arr 64 fun i => .int .u32 (sched (fun i => xs.getD i 0) 64 i))) (zbf (b := w.heap.size) rfl rfl (zde (zdG HR.out.2.1 _) U175 zeB)) rfl ⟨rfl, HR.out.1.setRow (Nat.le_refl _) _⟩
theorem zeA {P : Program} {ops : Array Oper} {rest : List Oper} {o : Oper} {a : Act} {w : World} {Q : Exit -> Act -> World -> Prop} (hg : o.guard = none) (t : TypeId) (parts : Array (Nat × Operand)) (ho : o.op = .build t parts)
  (cells : Array Value) (hf : P.built t (parts.map fun (i, x) => (i, a.eval x)).toList = some cells) (h : wpList P ops Q rest (a.put o.dst (.agg cells)) w) : wpList P ops Q (o :: rest) a w :=
 wpList_build hg t parts ho (by rw [hf]; rfl) (by rw [hf]; exact h)
theorem dround_any (w : World) : Calls prog 163 #[] w fun e w' => e = .returned (.agg (arr 64 fun i => .int .u32 (kS i))) /\ Old w w' := by
 go_enter func163, ntmps163
 go_upto_region 1 with fail
 refine wp_region_lit ?_
 refine zeA rfl 175 _ rfl (arr 64 fun i => .int .u32 (kS i)) (by kernel_rfl) ?_
 have hz := zbA w 175 64 (fun _ => .int .u32 0)
 change wpList _ _ _ _ _ (w.alloc (.cells (arr 64 fun _ => .int .u32 0) 175))
 refine wpList_store_row rfl 175 _ _ rfl w.heap.size (arr 64 fun i => .int .u32 (kS i)) rfl rfl _ _ (zb2 hz) (by rw [zam]; exact zeB) (by rw [zam, zam]) (zcR _) ?_
 refine wpList_nil ?_
 go_wp2_with fail
 refine bodyPost_ret (v := .agg (arr 64 fun i => .int .u32 (kS i))) (zbf (b := w.heap.size) rfl rfl (zde (zdG hz _) U175 zeB)) rfl ⟨rfl, ((Old.refl w).alloc _).setRow (Nat.le_refl _) _⟩
theorem one_eq' (a b c d e : Int) : ((a + b + c + d) % 4294967296 + e) % 4294967296 = add32 (add32 (add32 (add32 a b) c) d) e := by
 unfold add32
 omega
structure PieceAt (w W : World) (bk bw : Nat) (tk th : TypeId) (h S : NI) : Prop where
 old : Old w W
 ks : W.rowIs bk tk 64 (fun i => .int .u32 (kS i))
 hs : W.rowIs w.heap.size th 8 (fun i => .int .u32 (h i))
 out : W.rowIs (w.heap.size + 1) th 8 (fun _ => .int .u32 0)
 ws : W.rowIs bw tk 64 (fun i => .int .u32 (S i))
theorem piece_at {w w1 w2 : World} {tk th : TypeId} {h S : NI} (ho : Old ((w.alloc (.cells (arr 8 fun i => .int .u32 (h i)) th)).alloc (.cells (arr 8 fun _ => .int .u32 0) th)) w1) (ho2 : Old w1 w2) :
  PieceAt w ((w2.alloc (.cells (arr 64 fun i => .int .u32 (kS i)) tk)).alloc (.cells (arr 64 fun i => .int .u32 (S i)) tk)) w2.heap.size (w2.heap.size + 1) tk th h S := by
 have hh := (zbA w th 8 (fun i => .int .u32 (h i))).alloc (.cells (arr 8 fun _ => .int .u32 0) th)
 have hz := zbA (w.alloc (.cells (arr 8 fun i => .int .u32 (h i)) th)) th 8 (fun _ => .int .u32 0)
 rw [show (w.alloc (.cells (arr 8 fun i => .int .u32 (h i)) th)).heap.size = w.heap.size + 1 by simp] at hz
 have hw := zbA (w2.alloc (.cells (arr 64 fun i => .int .u32 (kS i)) tk)) tk 64 (fun i => .int .u32 (S i))
 rw [show (w2.alloc (.cells (arr 64 fun i => .int .u32 (kS i)) tk)).heap.size = w2.heap.size + 1 by simp] at hw
 refine ⟨?_, ?_, ?_, ?_, hw⟩
 ·exact ((((((Old.refl w).alloc _).alloc _).trans ho).trans ho2).alloc _).alloc _
 ·exact (zbA w2 tk 64 _).alloc _
 ·exact ((ho2.row (ho.row hh)).alloc _).alloc _
 ·exact ((ho2.row (ho.row hz)).alloc _).alloc _
theorem setRow_under (w : World) (c cs : Array Value) (t : TypeId) (o : Obj) : ((w.alloc (.cells c t)).alloc o).setRow w.heap.size cs = (w.alloc (.cells cs t)).alloc o := by
 simp only [World.setRow, World.alloc]
 congr 1
 apply Array.ext_getElem?
 intro i
 rw [Array.getElem?_modify]
 simp only [Array.getElem?_push, Array.size_push]
 by_cases h1 : w.heap.size = i
 ·subst h1
  simp
 ·rw [if_neg h1]
  simp [show ¬ i = w.heap.size from fun e => h1 e.symm]
theorem store_under {P : Program} (w : World) (t : TypeId) (c c' : Array Value) (o : Obj) (hi : (P.info? t).map (·.size) = some c'.size) (ho : c.size = c'.size) (h1 : c'.all (·.oneCell') = true) :
  (storeCells ⟨w.heap.size, 0, none⟩ c'.toList 0).run P ((w.alloc (.cells c t)).alloc o) = .ok () ((w.alloc (.cells c' t)).alloc o) := by
 have hg : ((w.alloc (.cells c t)).alloc o).heap[w.heap.size]? = some (.cells c t (0, 0)) := by
  simp only [World.alloc]
  rw [Array.getElem?_push]
  simp
 have := run_storeVar_row (P := P) ((w.alloc (.cells c t)).alloc o) w.heap.size t t c c' hg hi ho h1
 rw [setRow_under] at this
 cases hq : P.info? t with
 | none => simp [hq] at hi
 | some i =>
  have hs : c'.size = i.size := by simp [hq] at hi; omega
  simpa [storeVar, sizeOf, typeInfo, hq, Value.cells, hs] using this
theorem store_top {P : Program} (w : World) (t : TypeId) (c c' : Array Value) (o : Obj) (hi : (P.info? t).map (·.size) = some c'.size) (ho : c.size = c'.size) (h1 : c'.all (·.oneCell') = true) :
  (storeCells ⟨w.heap.size + 1, 0, none⟩ c'.toList 0).run P ((w.alloc o).alloc (.cells c t)) = .ok () ((w.alloc o).alloc (.cells c' t)) := by
 have := run_storeCells_new (P := P) (w.alloc o) t c c' hi ho h1
 rwa [show (w.alloc o).heap.size = w.heap.size + 1 by simp] at this
theorem draws_on {W wr : World} {n : Nat} (h : ∃ n, wr = W.drewN n) : ∃ m, wr.drewN n = W.drewN m := by
 obtain ⟨k, rfl⟩ := h
 exact ⟨k + n, World.drewN_drewN W k n⟩
theorem dpiece_any (h : NI) (xs : List Int) (w : World) (hx : Bts xs) (hl : xs.length = 64) :
  Calls prog 161 #[.agg (arr 8 fun i => .int .u32 (h i)), .string (strOfNums xs)] w fun e w' => e = .returned (.agg (arr 8 fun i => .int .u32 (add32 (h i) (zai (sched (fun i => xs.getD i 0) 64) 64 h i)))) /\ Old w w' := by
 have hsp : ∀ wx, Calls prog 164 #[.string (strOfNums xs)] wx fun e w' => e = .returned (.agg (arr 64 fun i => .int .u32 (sched (fun i => xs.getD i 0) 64 i))) /\ Old wx w' := fun wx => dspread_any xs wx hx hl
 generalize sched (fun i => xs.getD i 0) 64 = S at *
 have HS : Hid (∀ wx, Calls prog 164 #[.string (strOfNums xs)] wx fun e w' => e = .returned (.agg (arr 64 fun i => .int .u32 (S i))) /\ Old wx w') := hsp
 clear hsp hx hl
 have hzs : ∀ n f, (arr n f).size = n := zam
 have hst : ∀ (wx : World) (o : Obj) (c : Array Value), c.size = 64 -> (storeCells ⟨wx.heap.size + 1, 0, none⟩ (arr 64 fun i => .int .u32 (S i)).toList 0).run prog ((wx.alloc o).alloc (.cells c 175)) = .ok () ((wx.alloc o).alloc (.cells (arr 64 fun i => .int .u32 (S i)) 175)) := fun wx o c hc => store_top wx _ c _ o (by rw [zam]; exact zeB) (by rw [zam]; exact hc) (zcR _)
 have hsk : ∀ (wx : World) (o : Obj) (c : Array Value), c.size = 64 -> (storeCells ⟨wx.heap.size, 0, none⟩ (arr 64 fun i => .int .u32 (kS i)).toList 0).run prog ((wx.alloc (.cells c 175)).alloc o) = .ok () ((wx.alloc (.cells (arr 64 fun i => .int .u32 (kS i)) 175)).alloc o) := fun wx o c hc => store_under wx _ c _ o (by rw [zam]; exact zeB) (by rw [zam]; exact hc) (zcR _)
 go_enter func161, ntmps161
 go_upto_region 2 with (first
  | (go_at_call 163; refine (dround_any _).mono ?_; rintro e w1 ⟨rfl, ho1⟩)
  | (go_at_call 164; refine (HS.out _).mono ?_; rintro e w' ⟨rfl, ho⟩))
 have HP : Hid (PieceAt w ((w'.alloc (.cells (arr 64 fun i => .int .u32 (kS i)) 175)).alloc (.cells (arr 64 fun i => .int .u32 (S i)) 175)) w'.heap.size (w'.heap.size + 1) 175 164 h S) := piece_at ho1 ho
 clear ho ho1 hst hsk
 obtain ⟨W, hW⟩ : ∃ x, x = (w'.alloc (.cells (arr 64 fun i => .int .u32 (kS i)) 175)).alloc (.cells (arr 64 fun i => .int .u32 (S i)) 175) := ⟨_, rfl⟩
 rw [<- hW] at HP
 rw [<- hW]
 clear hW
 obtain ⟨bw, hbw⟩ : ∃ b, b = w'.heap.size + 1 := ⟨_, rfl⟩
 rw [<- hbw] at HP
 rw [<- hbw]
 clear hbw
 obtain ⟨bk, hbk⟩ : ∃ b, b = w'.heap.size := ⟨_, rfl⟩
 rw [<- hbk] at HP
 rw [<- hbk]
 clear hbk
 have x0 := HP.out.hs.cell (i := 0) (by omega)
 have x1 := HP.out.hs.cell (i := 1) (by omega)
 have x2 := HP.out.hs.cell (i := 2) (by omega)
 have x3 := HP.out.hs.cell (i := 3) (by omega)
 have x4 := HP.out.hs.cell (i := 4) (by omega)
 have x5 := HP.out.hs.cell (i := 5) (by omega)
 have x6 := HP.out.hs.cell (i := 6) (by omega)
 have x7 := HP.out.hs.cell (i := 7) (by omega)
 go_quiet (fail)
 go_wp2_with fail
 clear x0 x1 x2 x3 x4 x5 x6 x7
 go_loopw [7, 8, 9, 10, 11, 12, 13, 14, 37] (fun a b c d e f g l iv wx => ∃ t : Nat, iv = .int .i64 (t : Int) /\ t <= 64 /\ a = .int .u32 (zai S t h 0) /\ b = .int .u32 (zai S t h 1) /\ c = .int .u32 (zai S t h 2) /\ d = .int .u32 (zai S t h 3) /\ e = .int .u32 (zai S t h 4) /\ f = .int .u32 (zai S t h 5) /\ g = .int .u32 (zai S t h 6) /\ l = .int .u32 (zai S t h 7) /\ Hid (∃ n, wx = W.drewN n)) (fun _ _ _ _ _ _ _ _ iv _ => 64 - (intOf iv).toNat)
 case atStart => exact ⟨0, rfl, Nat.zero_le _, rfl, rfl, rfl, rfl, rfl, rfl, rfl, rfl, _, rfl⟩
 case round =>
  obtain ⟨t, rfl, ht, rfl, rfl, rfl, rfl, rfl, rfl, rfl, rfl, HW⟩ := hrel
  obtain ⟨n0, hn0⟩ := HW.out
  have HN : Hid (PieceAt w wr bk bw 175 164 h S) := by rw [hn0]; exact ⟨HP.out.old.drewN n0, HP.out.ks, HP.out.hs, HP.out.out, HP.out.ws⟩
  clear hn0
  by_cases hlt : t < 64
  ·have ck := HN.out.ks.cell hlt
   have cw := HN.out.ws.cell hlt
   have HV : Hid (∀ i, zai S (t + 1) h i = zcW (zai S t h) (kS t) (S t) i) := fun _ => rfl
   generalize kS t = kk at *
   generalize hr : zai S t h = r at *
   clear hr
   have tt : (t : Int) < 64 := by omega
   have t0 : (0 : Int) <= (t : Int) := by omega
   go_upto_region 6 with fail
   go_cut [16, 37] from 38 to 76 (fun ov iv wx => ov = .int .u32 (one32 r kk (S t)) /\ iv = .int .i64 (t : Int) /\ ∃ n, wx = wr.drewN n)
   case first =>
    go_quiet (first
     | (go_at_call 165; exact Calls.quiet_of_same (zeu _ 6 11 25 _ (by omega) (by omega) (by omega)))
     | (go_at_call 166; exact Calls.quiet_of_same (dchoice_any _ _ _ _)))
    go_wp2_with fail
    go_meet
    case rel => exact ⟨congrArg (Value.int .u32) (one_eq' (r 7) (big1 (r 4)) (pick (r 4) (r 5) (r 6)) kk (S t)), rfl, _, rfl⟩
   obtain ⟨rfl, rfl, nd, rfl⟩ := hcut
   have HO : Hid (∃ o, o = one32 r kk (S t)) := ⟨_, rfl⟩
   obtain ⟨o, ho⟩ := HO.out
   rw [<- ho]
   have HO : Hid (o = one32 r kk (S t)) := ho
   clear ho
   go_wp2_with (first
    | (go_at_call 165; refine (zeu _ 2 13 22 _ (by omega) (by omega) (by omega)).mono ?_; rintro e w' ⟨rfl, rfl⟩)
    | (go_at_call 167; refine (dmost_any _ _ _ _).mono ?_; rintro e w' ⟨rfl, rfl⟩))
   go_roundw
   case rel => exact ⟨t + 1, by go_num, by omega, by rw [HV.out 0, HO.out]; rfl, by rw [HV.out 1]; rfl, by rw [HV.out 2]; rfl, by rw [HV.out 3]; rfl, by rw [HV.out 4, HO.out]; rfl, by rw [HV.out 5]; rfl, by rw [HV.out 6]; rfl, by rw [HV.out 7]; rfl, draws_on HW.out⟩
   case measure => simp [intOf]; omega
  ·have he : t = 64 := by omega
   subst he
   have y0 := HN.out.hs.cell (i := 0) (by omega)
   have y1 := HN.out.hs.cell (i := 1) (by omega)
   have y2 := HN.out.hs.cell (i := 2) (by omega)
   have y3 := HN.out.hs.cell (i := 3) (by omega)
   have y4 := HN.out.hs.cell (i := 4) (by omega)
   have y5 := HN.out.hs.cell (i := 5) (by omega)
   have y6 := HN.out.hs.cell (i := 6) (by omega)
   have y7 := HN.out.hs.cell (i := 7) (by omega)
   have c0 := HN.out.out.cell (i := 0) (by omega)
   have c1 := HN.out.out.cell (i := 1) (by omega)
   have c2 := HN.out.out.cell (i := 2) (by omega)
   have c3 := HN.out.out.cell (i := 3) (by omega)
   have c4 := HN.out.out.cell (i := 4) (by omega)
   have c5 := HN.out.out.cell (i := 5) (by omega)
   have c6 := HN.out.out.cell (i := 6) (by omega)
   have c7 := HN.out.out.cell (i := 7) (by omega)
   have f0 := HN.out.out.frozen 0
   have f1 := HN.out.out.frozen 1
   have f2 := HN.out.out.frozen 2
   have f3 := HN.out.out.frozen 3
   have f4 := HN.out.out.frozen 4
   have f5 := HN.out.out.frozen 5
   have f6 := HN.out.out.frozen 6
   have f7 := HN.out.out.frozen 7
   go_wp2_with fail
   refine bodyPost_ret (v := .agg (arr 8 fun i => .int .u32 (add32 (h i) (zai S 64 h i)))) (zbf (b := w.heap.size + 1) rfl rfl (zde (zeR HN.out.out (fun i => .int .u32 (add32 (h i) (zai S 64 h i)))) U164 info8)) rfl ⟨rfl, zfk HN.out.old (Nat.le_succ _) _ _ _ _ _ _ _ _⟩
theorem str_take' (xs : List Int) (n : Nat) : (strOfNums xs).extract 0 n = strOfNums (xs.take n) := by
 rw [zdj, Nat.sub_zero, zd0]
theorem str_drop (xs : List Int) (a n : Nat) (h : n = xs.length) : (strOfNums xs).extract a n = strOfNums (xs.drop a) := by
 rw [zdj, List.take_of_length_le (by rw [List.length_drop]; omega)]
def strLen : Value -> Nat
 | .string s => s.size
 | _ => 0
def zaf (h B : NI) : Nat -> Nat -> Int
 | 0 => h
 | c + 1 => fun i => add32 (zaf h B c i) (zai (sched (fun j => B (64 * c + j)) 64) 64 (zaf h B c) i)
structure PiecesAt (w W : World) (th : TypeId) (h : NI) : Prop where
 old : Old w W
 hs : W.rowIs w.heap.size th 8 (fun i => .int .u32 (h i))
 out : W.rowIs (w.heap.size + 1) th 8 (fun _ => .int .u32 0)
theorem pieces_at {w : World} {th : TypeId} {h : NI} :
  PiecesAt w ((w.alloc (.cells (arr 8 fun i => .int .u32 (h i)) th)).alloc (.cells (arr 8 fun _ => .int .u32 0) th)) th h := by
 have hz := zbA (w.alloc (.cells (arr 8 fun i => .int .u32 (h i)) th)) th 8 (fun _ => .int .u32 0)
 rw [show (w.alloc (.cells (arr 8 fun i => .int .u32 (h i)) th)).heap.size = w.heap.size + 1 by simp] at hz
 exact ⟨((Old.refl w).alloc _).alloc _, (zbA w th 8 _).alloc _, hz⟩
theorem PiecesAt.set {w W : World} {th : TypeId} {h : NI} (p : PiecesAt w W th h) (g : NI) : PiecesAt w (W.setRow w.heap.size (arr 8 fun i => .int .u32 (g i))) th g :=
 ⟨p.old.setRow (Nat.le_refl _) _, zdG p.hs _, p.out.of_block (by simp only [World.setRow]; rw [Array.getElem?_modify, if_neg (by omega)])⟩
theorem PiecesAt.after {w W W' : World} {th : TypeId} {h : NI} (p : PiecesAt w W th h) (ho : Old W W') : PiecesAt w W' th h := ⟨p.old.trans ho, ho.row p.hs, ho.row p.out⟩
theorem zez (xs : List Int) (a j : Nat) : (xs.drop a).getD j 0 = xs.getD (a + j) 0 := by
 rw [List.getD, List.getElem?_drop, List.getD]
theorem zej {xs : List Int} {n j : Nat} (h : j < n) : (xs.take n).getD j 0 = xs.getD j 0 := by
 rw [List.getD, List.getElem?_take, if_pos h, List.getD]
theorem zcX {B C : NI} (h : ∀ j, j < 64 -> B j = C j) : ∀ t, t <= 64 -> sched B t = sched C t
 | 0, _ => rfl
 | t + 1, ht => by
  have ih := zcX h t (by omega)
  funext j
  show (if j = t then word B (sched B t) t else sched B t j) = (if j = t then word C (sched C t) t else sched C t j)
  rw [ih]
  have hw : word B (sched C t) t = word C (sched C t) t := by
   unfold word
   split
   ·rw [h _ (by omega), h _ (by omega), h _ (by omega), h _ (by omega)]
   ·rfl
  rw [hw]
theorem zes (h : NI) (xs : List Int) (m : Nat) (w : World) (hx : Bts xs) (hl : xs.length = 64 * m) (hm : m <= 100000) :
  Calls prog 155 #[.agg (arr 8 fun i => .int .u32 (h i)), .string (strOfNums xs)] w fun e w' => e = .returned (.agg (arr 8 fun i => .int .u32 (zaf h (fun i => xs.getD i 0) m i))) /\ Old w w' := by
 have hsz : ∀ xs : List Int, (strOfNums xs).size = xs.length := strOfNums_size
 have hzs : ∀ n f, (arr n f).size = n := zam
 have HX : Hid (Bts xs) := hx
 clear hx
 go_enter func155, ntmps155
 go_wp2_with fail
 go_loopw [1] (fun sv wx => ∃ c : Nat, c <= m /\ sv = .string (strOfNums (xs.drop (64 * c))) /\ Hid (PiecesAt w wx 164 (zaf h (fun i => xs.getD i 0) c))) (fun sv _ => strLen sv)
 case atStart => exact ⟨0, Nat.zero_le _, rfl, pieces_at⟩
 case round =>
  obtain ⟨c, hc, rfl, HR⟩ := hrel
  have ld : (xs.drop (64 * c)).length = 64 * (m - c) := by rw [List.length_drop, hl]; omega
  by_cases hlt : c < m
  ·have y0 := HR.out.hs.cell (i := 0) (by omega)
   have y1 := HR.out.hs.cell (i := 1) (by omega)
   have y2 := HR.out.hs.cell (i := 2) (by omega)
   have y3 := HR.out.hs.cell (i := 3) (by omega)
   have y4 := HR.out.hs.cell (i := 4) (by omega)
   have y5 := HR.out.hs.cell (i := 5) (by omega)
   have y6 := HR.out.hs.cell (i := 6) (by omega)
   have y7 := HR.out.hs.cell (i := 7) (by omega)
   have HE : Hid (∀ i, zaf h (fun i => xs.getD i 0) (c + 1) i = add32 (zaf h (fun i => xs.getD i 0) c i) (zai (sched (fun i => ((xs.drop (64 * c)).take 64).getD i 0) 64) 64 (zaf h (fun i => xs.getD i 0) c) i)) := fun i => by
    rw [zcX (C := fun j => xs.getD (64 * c + j) 0) (fun j hj => by rw [zej hj, zez]) 64 (Nat.le_refl _)]
    rfl
   obtain ⟨g1, hg1⟩ : ∃ g, g = zaf h (fun i => xs.getD i 0) (c + 1) := ⟨_, rfl⟩
   rw [<- hg1] at HE
   have HG : Hid (g1 = zaf h (fun i => xs.getD i 0) (c + 1)) := hg1
   clear hg1
   generalize zaf h (fun i => xs.getD i 0) c = g at *
   have HY : Hid (Bts (xs.drop (64 * c))) := fun x hx => HX.out x (List.mem_of_mem_drop hx)
   have HD : Hid (xs.drop (64 * (c + 1)) = (xs.drop (64 * c)).drop 64) := by unfold Hid; rw [List.drop_drop]; rfl
   generalize xs.drop (64 * c) = ys at *
   have hcut : (strOfNums ys).extract 0 64 = strOfNums (ys.take 64) := str_take' ys 64
   have hrest : (strOfNums ys).extract 64 (64 * (m - c)) = strOfNums (ys.drop 64) := str_drop ys 64 _ ld.symm
   have l64 : 64 <= ys.length := by omega
   have l64' : (64 : Int) <= (ys.length : Int) := by omega
   have l1 : ¬ ((ys.length : Int) < 64) := by omega
   have l3 : ¬ (ys.length < 64) := by omega
   have HP : Hid (∀ wx, Calls prog 161 #[.agg (arr 8 fun i => .int .u32 (g i)), .string (strOfNums (ys.take 64))] wx fun e w' => e = .returned (.agg (arr 8 fun i => .int .u32 (g1 i))) /\ Old wx w') := fun wx => by
    have := dpiece_any g (ys.take 64) wx (fun x hx => HY.out x (List.mem_of_mem_take hx)) (by rw [List.length_take]; omega)
    rwa [show (arr 8 fun i => Value.int .u32 (g1 i)) = arr 8 fun i => .int .u32 (add32 (g i) (zai (sched (fun i => (ys.take 64).getD i 0) 64) 64 g i)) from arr_congr fun i _ => by rw [HE.out i]]
   go_upto_region 3 with fail
   go_region_with (go_at_call 161; refine (HP.out _).mono ?_; rintro e w' ⟨rfl, ho⟩; have hst := zbO (P := prog) (k := .u32) (g := g1) (HR.out.after ((Old.refl _).drew.trans ho)).hs)
   all_goals
    go_wp2_with fail
    go_roundw
    case rel => exact ⟨c + 1, by omega, by rw [HD.out], by rw [<- HG.out]; exact (HR.out.after ((Old.refl _).drew.trans ho)).set g1⟩
    case measure => simp [strLen, hsz]; omega
  ·have he : c = m := by omega
   subst he
   have l0 : (xs.drop (64 * c)).length = 0 := by omega
   have HK : Hid (PiecesAt w wr 164 (zaf h (fun i => xs.getD i 0) c)) := HR
   generalize xs.drop (64 * c) = ys at *
   obtain ⟨g, hg⟩ : ∃ g, g = zaf h (fun i => xs.getD i 0) c := ⟨_, rfl⟩
   rw [<- hg] at HK
   have HG : Hid (g = zaf h (fun i => xs.getD i 0) c) := hg
   clear hg
   go_upto_region 4 with fail
   refine wp_region_lit ?_
   refine wpList_load_row rfl 164 (.tmp 2) rfl w.heap.size rfl _ _ (0, 0) _ (zb2 HK.out.hs) U164 rfl (by rw [zam]; exact info8) ?_
   refine wpList_store_row rfl 164 _ _ rfl (w.heap.size + 1) (arr 8 fun i => .int .u32 (g i)) rfl rfl _ _ (zb2 HK.out.out) (by rw [zam]; exact info8) (by rw [zam, zam]) (zcR _) ?_
   refine wpList_nil ?_
   go_wp2_with fail
   refine bodyPost_ret (v := .agg (arr 8 fun i => .int .u32 (g i))) (zbf (b := w.heap.size + 1) rfl rfl (zde (zdG HK.out.out _) U164 info8)) rfl ⟨by rw [HG.out], HK.out.old.setRow (Nat.le_succ _) _⟩
theorem dending_any (n : Nat) (w : World) (hn : n <= 1000000) :
  Calls prog 157 #[.int .u64 (n : Int)] w fun e w' => e = .returned (.string (strOfNums (endL n))) /\ Old w w' := by
 have hadd : ∀ xs ys : List Int, strOfNums xs ++ strOfNums ys = strOfNums (xs ++ ys) := zc0
 have hsz : ∀ xs : List Int, (strOfNums xs).size = xs.length := strOfNums_size
 have h128 : (ByteArray.mk #[128]) = strOfNums [128] := rfl
 have z8 := zal (8 * (n : Int)) 8
 have hz : (119 - (n : Int) % 64) % 64 = ((zeros n : Nat) : Int) := by unfold zeros; omega
 have hz2 := zdi n
 have HE : Hid (endL n = [128] ++ List.replicate (zeros n) 0 ++ zap (8 * (n : Int)) 8) := by unfold Hid endL; rw [Int.mul_comm]
 go_enter func157, ntmps157
 go_upto_region 2 with fail
 go_wp2_with (first
  | (go_at_call 162; refine (drepeat_any (zeros n) _ (by omega)).mono ?_; rintro e w1 ⟨rfl, ho1⟩)
  | (go_at_call 154; refine (zdx _ 8 _ (by omega) (by omega)).mono ?_; rintro e w2 ⟨rfl, ho2⟩))
 go_ret
 exact ⟨by rw [HE.out]; rfl, ho1.trans ho2⟩
theorem zcm {h B C : NI} : ∀ m, (∀ j, j < 64 * m -> B j = C j) -> zaf h B m = zaf h C m
 | 0, _ => rfl
 | m + 1, hb => by
  have ih := zcm (h := h) m fun j hj => hb j (by omega)
  funext i
  show add32 (zaf h B m i) (zai (sched (fun j => B (64 * m + j)) 64) 64 (zaf h B m) i) = add32 (zaf h C m i) (zai (sched (fun j => C (64 * m + j)) 64) 64 (zaf h C m) i)
  rw [ih, zcX (C := fun j => C (64 * m + j)) (fun j hj => hb _ (by omega)) 64 (Nat.le_refl _)]
theorem zc3 (h B : NI) (m : Nat) : ∀ k, zaf (zaf h B m) (fun i => B (64 * m + i)) k = zaf h B (m + k)
 | 0 => rfl
 | k + 1 => by
  have ih := zc3 h B m k
  funext i
  show add32 (zaf (zaf h B m) (fun i => B (64 * m + i)) k i) (zai (sched (fun j => B (64 * m + (64 * k + j))) 64) 64 (zaf (zaf h B m) (fun i => B (64 * m + i)) k) i) = add32 (zaf h B (m + k) i) (zai (sched (fun j => B (64 * (m + k) + j)) 64) 64 (zaf h B (m + k)) i)
  rw [ih]
  have e : (fun j => B (64 * m + (64 * k + j))) = fun j => B (64 * (m + k) + j) := funext fun j => congrArg B (by omega)
  rw [e]
theorem ze3 (B : NI) : ∀ c, state B c = zaf hS B c
 | 0 => rfl
 | c + 1 => by
  funext i
  show add32 (state B c i) (zai (sched (fun j => B (64 * c + j)) 64) 64 (state B c) i) = add32 (zaf hS B c i) (zai (sched (fun j => B (64 * c + j)) 64) 64 (zaf hS B c) i)
  rw [ze3 B c]
theorem padL_end (xs : List Int) : padL xs = xs ++ endL xs.length := by
 unfold padL endL
 simp only [List.append_assoc]
theorem sum_parts (xs : List Int) (m k : Nat) (hm : 64 * m <= xs.length) (hk : m + k = za3 xs.length) :
  zaf (zaf hS (fun i => (xs.take (64 * m)).getD i 0) m) (fun i => (xs.drop (64 * m) ++ endL xs.length).getD i 0) k = state (fun i => (padL xs).getD i 0) (za3 xs.length) := by
 rw [ze3, <- hk, <- zc3]
 have e1 : zaf hS (fun i => (xs.take (64 * m)).getD i 0) m = zaf hS (fun i => (padL xs).getD i 0) m := zcm m fun j hj => by
  show (xs.take (64 * m)).getD j 0 = (padL xs).getD j 0
  rw [zej hj, padL_end, List.getD, List.getD, List.getElem?_append_left (by omega)]
 have e2 : (fun i => (xs.drop (64 * m) ++ endL xs.length).getD i 0) = fun i => (padL xs).getD (64 * m + i) 0 := by
  funext i
  rw [padL_end, <- List.drop_append_of_le_length hm, zez]
 rw [e1, e2]
theorem index_arr (g : NI) (i : Nat) (wx : World) (h : i < 8) : (Instr.index 164 (.agg (arr 8 fun i => .int .u32 (g i))) (.int .i64 (i : Int))).run prog wx = .ok (.int .u32 (g i)) wx := by
 have ha : (arr 8 fun i => Value.int .u32 (g i))[i]? = some (.int .u32 (g i)) := ze7 h
 have hu := run_underlying (P := prog) U164 wx
 have hb : (0 : Int) <= (i : Int) /\ (i : Int) < ((8 : Nat) : Int) := by omega
 have h1 := Tryz.sizeOf163 wx
 simp [Instr.index, asIntOf, hu, h, h1, part, ha]
theorem endL_bd (n : Nat) : Bts (endL n) := by
 intro x hx
 simp only [endL, List.mem_append, List.mem_singleton, List.mem_replicate] at hx
 rcases hx with (rfl | ⟨_, rfl⟩) | hx
 ·omega
 ·omega
 ·exact zbt _ _ x hx
theorem row_after {wx w' : World} {t : TypeId} (h : Old (wx.alloc (.cells (arr 8 fun _ => .int .u32 0) t)) w') : w'.rowIs wx.heap.size t 8 (fun _ => .int .u32 0) := h.row (zbA wx t 8 _)
theorem zen {P : Program} {wx w' : World} {t : TypeId} {g : NI} (h : Old (wx.alloc (.cells (arr 8 fun _ => .int .u32 0) t)) w') : (storeCells ⟨wx.heap.size, 0, none⟩ (arr 8 fun i => .int .u32 (g i)).toList 0).run P w' = .ok () (w'.setRow wx.heap.size (arr 8 fun i => .int .u32 (g i))) := zbO (row_after h)
theorem sum_last {w w2 : World} {t : TypeId} {g : NI} (h : Old w w2) : ∃ b, Value.pointer (some ⟨w2.heap.size, 0, none⟩) = .pointer (some ⟨b, 0, none⟩) /\ Hid (Old w (w2.alloc (.cells (arr 8 fun i => .int .u32 (g i)) t)) /\ w.heap.size <= b /\ (w2.alloc (.cells (arr 8 fun i => .int .u32 (g i)) t)).rowIs b t 8 (fun i => .int .u32 (g i))) :=
 ⟨_, rfl, h.alloc _, h.size, zbA _ _ _ _⟩
theorem sum_early {w wx w2 : World} {t : TypeId} {g : NI} (h1 : Old w wx) (h2 : Old (wx.alloc (.cells (arr 8 fun _ => .int .u32 0) t)) w2) : ∃ b, Value.pointer (some ⟨wx.heap.size, 0, none⟩) = .pointer (some ⟨b, 0, none⟩) /\ Hid (Old w (w2.setRow wx.heap.size (arr 8 fun i => .int .u32 (g i))) /\ w.heap.size <= b /\ (w2.setRow wx.heap.size (arr 8 fun i => .int .u32 (g i))).rowIs b t 8 (fun i => .int .u32 (g i))) :=
 ⟨_, rfl, ((h1.alloc _).trans h2).setRow h1.size _, h1.size, zdG (row_after h2) _⟩
theorem dsum_any (xs : List Int) (w : World) (hx : Bts xs) (hl : xs.length <= 1000000) :
  Calls prog 144 #[.string (strOfNums xs)] w fun e w' => e = .returned (.string (strOfNums (sumL xs))) /\ Old w w' := by
 obtain ⟨m, hm⟩ : ∃ m, m = xs.length / 64 := ⟨_, rfl⟩
 have hzs : ∀ n f, (arr n f).size = n := zam
 have hadd : ∀ xs ys : List Int, strOfNums xs ++ strOfNums ys = strOfNums (xs ++ ys) := zc0
 have hsz : ∀ xs : List Int, (strOfNums xs).size = xs.length := strOfNums_size
 have hW : (xs.length : Int) - (xs.length : Int) % 64 = 64 * (m : Int) := by omega
 have hW0 : (0 : Int) <= 64 * (m : Int) := by omega
 have hW1 : 64 * (m : Int) <= (xs.length : Int) := by omega
 have hT : (64 * (m : Int)).toNat = 64 * m := by omega
 have HM : Hid (m = xs.length / 64) := hm
 clear hm
 have HX : Hid (Bts xs) := hx
 clear hx
 obtain ⟨g1, hg1⟩ : ∃ g, g = zaf hS (fun i => (xs.take (64 * m)).getD i 0) m := ⟨_, rfl⟩
 have H1 : Hid (∀ wx, Calls prog 155 #[.agg (arr 8 fun i => .int .u32 (hS i)), .string (strOfNums (xs.take (64 * m)))] wx fun e w' => e = .returned (.agg (arr 8 fun i => .int .u32 (g1 i))) /\ Old wx w') := fun wx => by
  rw [hg1]
  exact zes hS (xs.take (64 * m)) m wx (fun x hx => HX.out x (List.mem_of_mem_take hx)) (by rw [List.length_take]; omega) (by omega)
 have HG : Hid (g1 = zaf hS (fun i => (xs.take (64 * m)).getD i 0) m) := hg1
 clear hg1
 have hcut : (strOfNums xs).extract 0 (64 * m) = strOfNums (xs.take (64 * m)) := str_take' xs (64 * m)
 have hst : ∀ (wx : World) (c : Array Value), c.size = 8 -> (storeCells ⟨wx.heap.size, 0, none⟩ (arr 8 fun i => .int .u32 (g1 i)).toList 0).run prog (wx.alloc (.cells c 164)) = .ok () (wx.alloc (.cells (arr 8 fun i => .int .u32 (g1 i)) 164)) := fun wx c hc => run_storeCells_new wx _ c _ (by rw [zam]; exact info8) (by rw [zam]; exact hc) (zcR g1)
 go_enter func144, ntmps144
 go_upto_region 2 with fail
 go_cut [4] (fun pv wx => ∃ b, pv = .pointer (some ⟨b, 0, none⟩) /\ Hid (Old w wx /\ w.heap.size <= b /\ wx.rowIs b 164 8 (fun i => .int .u32 (g1 i))))
 case first =>
  go_region_with (first
   | (go_at_call 156; refine (dfirst_any _).mono ?_; rintro e w1 ⟨rfl, ho1⟩)
   | (go_at_call 155; refine (H1.out _).mono ?_; rintro e w2 ⟨rfl, ho2⟩; (try have hs1 := zen (P := prog) (g := g1) ho2); (try have hs2 : (storeCells ⟨w.heap.size, 0, none⟩ (arr 8 fun i => .int .u32 (g1 i)).toList 0).run prog w2 = .ok () (w2.setRow w.heap.size (arr 8 fun i => .int .u32 (g1 i))) := zen (wx := w.drew) (ho1.trans ho2))))
  all_goals
   go_wp2_with fail
   go_meet
   case rel => first
    | exact sum_last (((Old.refl _).drew.trans ho1).trans ho2)
    | exact sum_early ((Old.refl _).drew.trans ho1) ho2
    | exact sum_early (wx := w.drew) (Old.refl _).drew (ho1.trans ho2)
 obtain ⟨b, rfl, HB⟩ := hcut
 clear hst hcut
 obtain ⟨g2, hg2⟩ : ∃ g, g = state (fun i => (padL xs).getD i 0) (za3 xs.length) := ⟨_, rfl⟩
 have H2 : Hid (∀ wx, Calls prog 155 #[.agg (arr 8 fun i => .int .u32 (g1 i)), .string (strOfNums (xs.drop (64 * m) ++ endL xs.length))] wx fun e w' => e = .returned (.agg (arr 8 fun i => .int .u32 (g2 i))) /\ Old wx w') := fun wx => by
  have hp := zcs xs.length
  have hm := HM.out
  have lz := zdi xs.length
  rw [hg2, <- sum_parts xs m (za3 xs.length - m) (by omega) (by omega), <- HG.out]
  refine zes g1 (xs.drop (64 * m) ++ endL xs.length) (za3 xs.length - m) wx (zdv (fun x hx => HX.out x (List.mem_of_mem_drop hx)) ?_) ?_ (by omega)
  ·exact endL_bd _
  ·rw [List.length_append, List.length_drop, endL_len]
   omega
 have HS : Hid (sumL xs = outL g2 8 /\ ∀ i, 0 <= g2 i /\ g2 i <= 4294967295) := by
  rw [hg2]
  exact ⟨rfl, state_bd _ _⟩
 clear hg2
 have hrest : (strOfNums xs).extract (64 * m) xs.length = strOfNums (xs.drop (64 * m)) := str_drop xs (64 * m) _ rfl
 have ld : (xs.drop (64 * m)).length = xs.length - 64 * m := List.length_drop
 have le := endL_len xs.length
 have lz := zdi xs.length
 have y0 := HB.out.2.2.cell (i := 0) (by omega)
 have y1 := HB.out.2.2.cell (i := 1) (by omega)
 have y2 := HB.out.2.2.cell (i := 2) (by omega)
 have y3 := HB.out.2.2.cell (i := 3) (by omega)
 have y4 := HB.out.2.2.cell (i := 4) (by omega)
 have y5 := HB.out.2.2.cell (i := 5) (by omega)
 have y6 := HB.out.2.2.cell (i := 6) (by omega)
 have y7 := HB.out.2.2.cell (i := 7) (by omega)
 have hw : IntKind.u64.wrap (xs.length : Int) = (xs.length : Int) := by rw [IntKind.wrap_u64]; omega
 go_upto_region 3 with fail
 go_cut [4] (fun pv wx => pv = .pointer (some ⟨b, 0, none⟩) /\ Hid (Old w wx /\ wx.rowIs b 164 8 (fun i => .int .u32 (g2 i))))
 case first =>
  go_region_with (first
   | (go_at_call 157; refine (dending_any xs.length _ hl).mono ?_; rintro e w1 ⟨rfl, ho1⟩; have z0 := ho1.cellOf y0; have z1 := ho1.cellOf y1; have z2 := ho1.cellOf y2; have z3 := ho1.cellOf y3; have z4 := ho1.cellOf y4; have z5 := ho1.cellOf y5; have z6 := ho1.cellOf y6; have z7 := ho1.cellOf y7)
   | (go_at_call 155; refine (H2.out _).mono ?_; rintro e w2 ⟨rfl, ho2⟩; have hs1 := zbO (P := prog) (k := .u32) (g := g2) ((ho1.trans ho2).row HB.out.2.2)))
  all_goals
   go_wp2_with fail
   go_meet
   case rel => exact ⟨rfl, (HB.out.1.drew.trans (ho1.trans ho2)).setRow HB.out.2.1 _, zdG ((ho1.trans ho2).row HB.out.2.2) _⟩
 obtain ⟨rfl, HC⟩ := hcut
 clear y0 y1 y2 y3 y4 y5 y6 y7 hrest ld le lz hw hW hW0 hW1 hT
 obtain ⟨W, hW⟩ : ∃ x, x = wc := ⟨_, rfl⟩
 subst hW
 have HN : Hid (b < W.heap.size) := HC.out.2.lt
 have HL : Hid (W.heap.size <= (W.alloc (.cells #[.pointer none, .slice none 0 0] 155)).heap.size /\ Old W (W.alloc (.cells #[.pointer none, .slice none 0 0] 155)) /\ Bld W.heap.size W.heap.size [] (W.alloc (.cells #[.pointer none, .slice none 0 0] 155)) /\ (W.alloc (.cells #[.pointer none, .slice none 0 0] 155)).rowIs b 164 8 (fun i => .int .u32 (g2 i))) := ⟨by simp, (Old.refl _).alloc _, Bld.new W, HC.out.2.alloc _⟩
 go_upto_region 5 with fail
 refine wp_region_lit ?_
 refine wpList_load_row rfl 164 (.tmp 4) rfl b rfl _ _ (0, 0) _ (zb2 HL.out.2.2.2) U164 rfl (by rw [zam]; exact info8) ?_
 go_wp2_with fail
 go_loopw [30] (fun iv wx => ∃ i : Nat, iv = .int .i64 (i : Int) /\ i <= 8 /\ Hid (Old W wx /\ Bld W.heap.size W.heap.size (outL g2 i) wx)) (fun iv _ => 8 - (intOf iv).toNat)
 case atStart => exact ⟨0, rfl, Nat.zero_le _, HL.out.2.1, HL.out.2.2.1⟩
 case round =>
  obtain ⟨i, rfl, hi, HR⟩ := hrel
  by_cases hlt : i < 8
  ·have ha := fun wx => index_arr g2 i wx hlt
   obtain ⟨e0, e1⟩ := HS.out.2 i
   have i8 : (i : Int) < 8 := by omega
   have i0 : (0 : Int) <= (i : Int) := by omega
   have z1 := zdV g2 i
   have z2 := zal (g2 i) 4
   go_wp2_with (first
    | (go_at_call 154; refine (zdx _ 4 _ (by omega) (by omega)).mono ?_; rintro e w1 ⟨rfl, ho1⟩)
    | (go_at_call 142; refine (zeF W.heap.size W.heap.size (outL g2 i) (zap (g2 i) 4) _ (HR.out.2.old ho1) (by omega) (Nat.le_trans HR.out.1.size ho1.size)).mono ?_; rintro e w2 ⟨rfl, hb2, hbel⟩))
   go_roundw
   case rel => exact ⟨i + 1, by go_num, by omega, (HR.out.1.trans ho1).thenBelow (Nat.le_refl _) hbel, hb2⟩
   case measure => simp [intOf]; omega
  ·have he : i = 8 := by omega
   subst he
   go_wp2_with (go_at_call 145; refine (zeU W.heap.size W.heap.size (outL g2 8) _ HR.out.2 HR.out.1.size).mono ?_; rintro e w1 ⟨rfl, hbel⟩)
   go_ret
   exact ⟨by rw [HS.out.1]; rfl, HC.out.1.trans (HR.out.1.thenBelow (Nat.le_refl _) hbel)⟩
def BytesIn (w : World) (g n : Nat) (f : NI) : Prop := ∀ j, j < n -> w.cell? ⟨g, j, none⟩ = some (.int .u8 (f j)) /\ w.frozen? ⟨g, j, none⟩ = false
theorem dlen_any (xs : List Int) (w : World) (hl : xs.length <= 1000000) :
  Calls prog 143 #[.string (strOfNums xs)] w fun e w' => e = .returned (.string (strOfNums (zap (xs.length : Int) 8 ++ xs))) /\ Old w w' := by
 have hadd : ∀ xs ys : List Int, strOfNums xs ++ strOfNums ys = strOfNums (xs ++ ys) := zc0
 have hsz : ∀ xs : List Int, (strOfNums xs).size = xs.length := strOfNums_size
 have z2 := zal (xs.length : Int) 8
 have hw : IntKind.u64.wrap (xs.length : Int) = (xs.length : Int) := by rw [IntKind.wrap_u64]; omega
 go_enter func143, ntmps143
 go_wp2_with (go_at_call 154; refine (zdx _ 8 _ (by omega) (by omega)).mono ?_; rintro e w1 ⟨rfl, ho1⟩)
 go_ret
 exact ⟨rfl, ho1⟩
theorem zdF {X Y : NI} : ∀ i, (∀ j, j < i -> X j = Y j) -> valP X i = valP Y i
 | 0, _ => rfl
 | i + 1, h => by
  show valP X i * 256 + X i = valP Y i * 256 + Y i
  rw [zdF i fun j hj => h j (by omega), h i (by omega)]
theorem valP_add (X : NI) (m : Nat) : ∀ k, valP X (m + k) = valP X m * 256 ^ k + valP (fun i => X (m + i)) k
 | 0 => by show valP X m = valP X m * 256 ^ 0 + 0; simp
 | k + 1 => by
  show valP X (m + k) * 256 + X (m + k) = valP X m * 256 ^ (k + 1) + (valP (fun i => X (m + i)) k * 256 + X (m + k))
  rw [valP_add X m k, Int.pow_succ, Int.add_mul, Int.mul_assoc]
  omega
theorem numF_val (X : NI) (q : Int) (hq : okM q = true) : ∀ i, numF X q i = valP X i % q
 | 0 => by show (0 : Int) = 0 % q; simp
 | i + 1 => by
  show addI (mulI (numF X q i) 256 q) (X i) q = (valP X i * 256 + X i) % q
  rw [numF_val X q hq i, za4 hq, zaw hq]
  exact zbJ (by rw [zak]; exact zan (zak _ _) rfl) rfl
theorem number_halves (X : NI) (q : Int) : addI (mulI (valP X 8) (powI 2 64 q) q) (valP (fun i => X (8 + i)) 8) q = if okM q then numF X q 16 else 0 := by
 cases hq : okM q
 ·rw [addI_no hq]; rfl
 ·rw [if_pos rfl, numF_val X q hq 16, show (16 : Nat) = 8 + 8 from rfl, valP_add X 8 8, za4 hq, zaw hq, zbF hq]
  refine zbJ ?_ rfl
  rw [zak]
  exact zan rfl (zak _ _)
theorem dhalf_any (h : List Int) (a : Nat) (w : World) (hb : Bts h) (ha : a + 8 <= h.length) :
  Calls prog 146 #[.string (strOfNums ((h.drop a).take 8))] w fun e w' => e = .returned (.int .u64 (valP (fun i => h.getD (a + i) 0) 8)) /\ w' = w := by
 have hl : ((h.drop a).take 8).length = 8 := by rw [List.length_take, List.length_drop]; omega
 have := dnum_any ((h.drop a).take 8) w (fun x hx => hb x (List.mem_of_mem_drop (List.mem_of_mem_take hx))) (by omega)
 rw [hl] at this
 rwa [zdF 8 (X := fun i => ((h.drop a).take 8).getD i 0) (Y := fun i => h.getD (a + i) 0) fun j hj => by rw [zej hj, zez]] at this
theorem valP_bd8 {X : NI} (h : ∀ i, 0 <= X i /\ X i <= 255) : 0 <= valP X 8 /\ valP X 8 <= 18446744073709551615 := by
 have := valP_bd h 8
 have e : (256 : Int) ^ 8 = 18446744073709551616 := by decide
 rw [e] at this
 omega
theorem zey (label : List Int) (a : OA) (n cap : Nat) (S : Nat -> List Int) (q : Int) (w : World) (hl : Bts label) (hin : StrsIn w a n S) (hn : n <= 1000) (hlen : (numL label S n).length <= 1000000) :
  Calls prog 128 #[.string (strOfNums label), .slice a n cap, .int .u64 q] w fun e w' => e = .returned (.int .u64 (zaj label S n q)) /\ Old w w' := by
 have HB : Hid (Bts label /\ StrsIn w a n S) := ⟨hl, hin⟩
 clear hl hin
 have ll : (numL label S 0).length <= 1000000 := Nat.le_trans (zcf label S n (Nat.zero_le _)) hlen
 have ll' : (numL label S 0).length = 8 + label.length := by show (zap label.length 8 ++ label).length = _; rw [List.length_append, zal]
 have H0 : Hid (numL label S 0 = zap (label.length : Int) 8 ++ label) := rfl
 rw [ll'] at ll
 have HN := Bld.new w
 have HW : Hid (∀ wx, Old w wx -> Bld w.heap.size w.heap.size [] wx -> Calls prog 142 #[.pointer (some ⟨w.heap.size, 0, none⟩), .string (strOfNums (zap (label.length : Int) 8 ++ label))] wx fun e w' => (∃ v, e = .returned (.tuple #[v, .nilIface])) /\ Bld w.heap.size w.heap.size (numL label S 0) w' /\ Below w.heap.size wx w') := fun wx ho hb => by
  refine (zeF w.heap.size w.heap.size [] (zap (label.length : Int) 8 ++ label) wx hb (by rw [List.length_append, zal]; simp; omega) ho.size).mono ?_
  rintro e w' ⟨rfl, h1, h2⟩
  exact ⟨⟨_, rfl⟩, h1, h2⟩
 have HN : Hid (Bld w.heap.size w.heap.size [] (w.alloc (.cells #[.pointer none, .slice none 0 0] 155)) /\ Old w (w.alloc (.cells #[.pointer none, .slice none 0 0] 155))) := ⟨HN, (Old.refl w).alloc _⟩
 go_enter func128, ntmps128
 go_wp2_with (first
  | (go_at_call 143; refine (dlen_any label _ (by omega)).mono ?_; rintro e w1 ⟨rfl, ho1⟩)
  | (go_at_call 142; refine (HW.out _ (HN.out.2.trans ho1) (HN.out.1.old ho1)).mono ?_; rintro e w2 ⟨⟨v, rfl⟩, hb2, hbel⟩))
 have HS : Hid (Old w w2 /\ Bld w.heap.size w.heap.size (numL label S 0) w2) := ⟨(HN.out.2.trans ho1).thenBelow (Nat.le_refl _) hbel, hb2⟩
 clear ho1 hbel hb2 HN HW
 go_loopw [18] (fun iv wx => ∃ i : Nat, iv = .int .i64 (i : Int) /\ i <= n /\ Hid (Old w wx /\ Bld w.heap.size w.heap.size (numL label S i) wx)) (fun iv _ => n - (intOf iv).toNat)
 case atStart => exact ⟨0, rfl, Nat.zero_le _, HS⟩
 case round =>
  obtain ⟨i, rfl, hi, HR⟩ := hrel
  by_cases hlt : i < n
  ·have hm := zcf label S n (show i + 1 <= n by omega)
   rw [zbm] at hm
   rcases HB.out.2.old HR.out.1 with h0 | ⟨b, off, rfl, hb, hr⟩
   ·omega
   have cp := (hr i hlt).1
   clear hr hb
   have HE : Hid (numL label S (i + 1) = numL label S i ++ (zap ((S i).length : Int) 8 ++ S i)) := rfl
   have HW : Hid (∀ wx, Old wr wx -> Calls prog 142 #[.pointer (some ⟨w.heap.size, 0, none⟩), .string (strOfNums (zap ((S i).length : Int) 8 ++ S i))] wx fun e w' => (∃ v, e = .returned (.tuple #[v, .nilIface])) /\ Bld w.heap.size w.heap.size (numL label S (i + 1)) w' /\ Below w.heap.size wx w') := fun wx ho => by
    refine (zeF w.heap.size w.heap.size (numL label S i) (zap ((S i).length : Int) 8 ++ S i) wx (HR.out.2.old ho) (by rw [List.length_append, zal]; omega) (Nat.le_trans HR.out.1.size ho.size)).mono ?_
    rintro e w' ⟨rfl, h1, h2⟩
    exact ⟨⟨_, rfl⟩, by rw [HE.out]; exact h1, h2⟩
   have hl2 : (S i).length <= 1000000 := by omega
   clear hm
   go_wp2_with (first
    | (go_at_call 143; refine (dlen_any (S i) _ hl2).mono ?_; rintro e w1 ⟨rfl, ho1⟩)
    | (go_at_call 142; refine (HW.out _ ho1).mono ?_; rintro e w2 ⟨⟨v, rfl⟩, hb2, hbel⟩))
   go_roundw
   case rel => exact ⟨i + 1, by go_num, by omega, (HR.out.1.trans ho1).thenBelow (Nat.le_refl _) hbel, hb2⟩
   case measure => simp [intOf]; omega
  ·have he : i = n := by omega
   subst he
   have HC : Hid (∀ wx, Calls prog 144 #[.string (strOfNums (numL label S i))] wx fun e w' => e = .returned (.string (strOfNums (sumL (numL label S i)))) /\ Old wx w') := fun wx => dsum_any _ wx (numL_bd HB.out.1 _ fun j hj => HB.out.2.bts hj) hlen
   have HG : Hid (Bts (sumL (numL label S i)) /\ (sumL (numL label S i)).length = 32) := ⟨sumL_bd _, sumL_len _⟩
   have HF : Hid (zaj label S i q = if okM q then numF (fun j => (sumL (numL label S i)).getD j 0) q 16 else 0) := rfl
   generalize sumL (numL label S i) = h at *
   have zh := HG.out.2
   have hsz : (strOfNums h).size = 32 := by rw [strOfNums_size]; exact zh
   have hc1 : (strOfNums h).extract 0 8 = strOfNums ((h.drop 0).take 8) := zdj h 0 8
   have hc2 : (strOfNums h).extract 8 16 = strOfNums ((h.drop 8).take 8) := zdj h 8 16
   have A1 := fun wx => dhalf_any h 0 wx HG.out.1 (by omega)
   have A2 := fun wx => dhalf_any h 8 wx HG.out.1 (by omega)
   have e1 : valP (fun i => h.getD (0 + i) 0) 8 = valP (fun i => h.getD i 0) 8 := zdF 8 fun j _ => by rw [Nat.zero_add]
   have hv := number_halves (fun i => h.getD i 0) q
   obtain ⟨b0, b1⟩ := valP_bd8 (zco HG.out.1)
   obtain ⟨d0, d1⟩ := valP_bd8 (X := fun i => h.getD (8 + i) 0) (fun i => zco HG.out.1 (8 + i))
   rw [e1] at A1
   have HV : Hid (addI (mulI (valP (fun i => h.getD i 0) 8) (powI 2 64 q) q) (valP (fun i => h.getD (8 + i) 0) 8) q = zaj label S i q) := by rw [HF.out]; exact hv
   clear hv
   generalize valP (fun i => h.getD i 0) 8 = x at *
   generalize valP (fun i => h.getD (8 + i) 0) 8 = y at *
   generalize (h.drop 0).take 8 = h1 at *
   generalize (h.drop 8).take 8 = h2 at *
   have A1 : Hid (∀ wx, Calls prog 146 #[.string (strOfNums h1)] wx fun e w' => e = .returned (.int .u64 x) /\ w' = wx) := A1
   have A2 : Hid (∀ wx, Calls prog 146 #[.string (strOfNums h2)] wx fun e w' => e = .returned (.int .u64 y) /\ w' = wx) := A2
   clear e1
   obtain ⟨p0, p1⟩ := powI_bd 2 64 q
   obtain ⟨m0, m1⟩ := mulI_bd x (powI 2 64 q) q
   have CP : Hid (∀ wx, Calls prog 61 #[.int .u64 2, .int .u64 64, .int .u64 q] wx fun e w' => e = .returned (.int .u64 (powI 2 64 q)) /\ ∃ n, w' = wx.drewN n) := fun wx => pow_any 2 64 q wx (by decide) (by decide) (by decide) (by decide)
   generalize powI 2 64 q = p at *
   have CM : Hid (∀ wx, Calls prog 72 #[.int .u64 x, .int .u64 p, .int .u64 q] wx fun e w' => e = .returned (.int .u64 (mulI x p q)) /\ ∃ n, w' = wx.drewN n) := fun wx => zcU x p q wx b0 b1 p0 (by omega)
   generalize mulI x p q = z at *
   have CA : Hid (∀ wx, Calls prog 71 #[.int .u64 z, .int .u64 y, .int .u64 q] wx fun e w' => e = .returned (.int .u64 (addI z y q)) /\ ∃ n, w' = wx.drewN n) := fun wx => zeg z y q wx m0 (by omega) d0 d1
   generalize addI z y q = r at *
   go_wp2_with (first
    | (go_at_call 145; refine (zeU w.heap.size w.heap.size _ _ HR.out.2 HR.out.1.size).mono ?_; rintro e w3 ⟨rfl, hbel⟩)
    | (go_at_call 144; refine (HC.out _).mono ?_; rintro e w4 ⟨rfl, ho4⟩))
   have HO : Hid (Old w w4) := (HR.out.1.thenBelow (Nat.le_refl _) hbel).trans ho4
   clear ho4 hbel
   go_quiet (first
    | (go_at_call_of 146 (Value.string (strOfNums h1)); exact Calls.quiet_of_same (A1.out _))
    | (go_at_call_of 146 (Value.string (strOfNums h2)); exact Calls.quiet_of_same (A2.out _)))
   go_wp2_with (first
    | (go_at_call 61; refine (CP.out _).mono ?_; rintro e w5 ⟨rfl, n5, hw5⟩)
    | (go_at_call 72; refine (CM.out _).mono ?_; rintro e w6 ⟨rfl, n6, hw6⟩)
    | (go_at_call 71; refine (CA.out _).mono ?_; rintro e w7 ⟨rfl, n7, hw7⟩))
   go_ret
   refine ⟨by rw [<- HV.out]; rfl, ?_⟩
   first
    | exact HO.out.drewN _
    | (rw [hw7, hw6, hw5]; exact (((HO.out.drewN _).drewN n5).drewN n6).drewN n7)
theorem pchal_any (label : List Int) (P Q G H : Int) (a : OA) (n cap : Nat) (bt : OA) (nt ct : Nat) (T : NI) (bb : OA) (nb cb : Nat) (BA : Nat -> Option Addr) (L C : Nat -> Nat) (B : NN) (bk : OA) (nk ck : Nat) (K : NI) (w : World) (h4 : Four P Q G H) (hlb : Bts label) (hll : label.length <= 1000) (mt : nt <= 80) (mb : nb <= 80) (mL : ∀ j, j < nb -> L j <= 80) (mk : nk <= 80) (hC : ClaimIn w bt nt ct T bb nb cb BA L C B) (hK : FacsIn w bk nk K) :
  Calls prog 129 #[gv P Q G H a n cap, .string (strOfNums label), cv bt nt ct bb nb cb, .slice bk nk ck] w fun e w' => e = .returned (.int .u64 (chI label P Q G H nt T nb L B nk K)) /\ Old w w' := by
 have HZ := lain2 w (gc P Q G H a n cap) (cc bt nt ct bb nb cb) 25 50
 have HT : Hid (∀ w', Old ((w.alloc (.cells (gc P Q G H a n cap) 25)).alloc (.cells (cc bt nt ct bb nb cb) 50)) w' -> G6 w' (w.heap.size) P Q G H (.slice a n cap) (w'.cell? ⟨w.heap.size + 1, 0, none⟩ = some (.slice bt nt ct) /\ w'.cell? ⟨w.heap.size + 1, 1, none⟩ = some (.slice bb nb cb))) := fun w' ho => by
  have h := HZ.then ho
  exact ⟨h.cell 0 0 (by simp) rfl, h.cell 0 1 (by simp) rfl, h.cell 0 2 (by simp) rfl, h.cell 0 3 (by simp) rfl, h.cell 0 4 (by simp) rfl, h.cell 1 0 (by simp) rfl, h.cell 1 1 (by simp) rfl⟩
 obtain ⟨S, hS⟩ : ∃ S : Nat -> List Int, S = partS P Q G H nt T nb L B nk K := ⟨_, rfl⟩
 have HSb : Hid (∀ i, Bts (S i)) := fun i => by rw [hS]; exact partS_bd _ _ _ _ _ _ _ _ _ _ _ i
 have hlen : ∀ i, (S i).length <= 640 := fun i => by rw [hS]; exact partS_len P Q G H T B K mt mL mk i
 have HN4 : Hid (∀ (wx wy : World) (t : TypeId), Old (wx.alloc (.cells #[.int .u64 P, .int .u64 Q, .int .u64 G, .int .u64 H] t)) wy -> Calls prog 147 #[.slice (some ⟨wx.heap.size, 0, none⟩) 4 4] wy fun e w' => e = .returned (.string (strOfNums (S 0))) /\ Old wy w') := fun wx wy t ho => (zcr _ 4 4 (four4 P Q G H) wy (by omega) ((facs_four wx P Q G H t h4).old ho)).mono fun e w' ⟨h, k⟩ => ⟨by rw [h, hS]; rfl, k⟩
 have HNt : Hid (∀ wx, Old w wx -> Calls prog 147 #[.slice bt nt ct] wx fun e w' => e = .returned (.string (strOfNums (S 1))) /\ Old wx w') := fun wx ho => (zcr bt nt ct T wx (by omega) (hC.tar.old ho)).mono fun e w' ⟨h, k⟩ => ⟨by rw [h, hS]; rfl, k⟩
 have HNr : Hid (∀ j wx, j < nb -> Old w wx -> Calls prog 147 #[.slice (BA j) (L j) (C j)] wx fun e w' => e = .returned (.string (strOfNums (S (j + 2)))) /\ Old wx w') := fun j wx hj ho => (zcr (BA j) (L j) (C j) (B j) wx (by have := mL j hj; omega) ((hC.bas.facs hj).old ho)).mono fun e w' ⟨h, k⟩ => ⟨by rw [h, hS, partS_row hj], k⟩
 have HNk : Hid (∀ wx, Old w wx -> Calls prog 147 #[.slice bk nk ck] wx fun e w' => e = .returned (.string (strOfNums (S (nb + 2)))) /\ Old wx w') := fun wx ho => (zcr bk nk ck K wx (by omega) (hK.old ho)).mono fun e w' ⟨h, k⟩ => ⟨by rw [h, hS, zfh], k⟩
 have HNu : Hid (∀ b c wx, StrsIn wx b (nb + 3) S -> Calls prog 128 #[.string (strOfNums label), .slice b (nb + 3) c, .int .u64 Q] wx fun e w' => e = .returned (.int .u64 (chI label P Q G H nt T nb L B nk K)) /\ Old wx w') := fun b c wx hs => (zey label b (nb + 3) c S Q wx hlb hs (by omega) (by have := numL_le (label := label) hlen (nb + 3); omega)).mono fun e w' ⟨h, k⟩ => ⟨by rw [h, hS]; rfl, k⟩
 have HB := hid hC.bas
 generalize chI label P Q G H nt T nb L B nk K = R at *
 clear hS hlen h4 hlb hll mL mk hC hK mt
 obtain ⟨i0, hi0, hz0, hz1, hz2⟩ := info_parts strinfo
 go_enter func129, ntmps129
 go_upto_region 1 with fail
 have HW0 := hid HZ.old
 generalize hW : (w.alloc (.cells (gc P Q G H a n cap) 25)).alloc (.cells (cc bt nt ct bb nb cb) 50) = W at *
 clear hW
 obtain ⟨d0, d1, d2, d3, d4, z0, z1⟩ := HT.out _ (Old.refl _)
 have hd : Old W W.drew := (Old.refl W).drew
 go_region_held3 (fun w' => w'.cell? ⟨w.heap.size, 0, none⟩ = some (.int .u64 P) /\ w'.cell? ⟨w.heap.size, 1, none⟩ = some (.int .u64 Q) /\ w'.cell? ⟨w.heap.size, 2, none⟩ = some (.int .u64 G) /\ w'.cell? ⟨w.heap.size, 3, none⟩ = some (.int .u64 H) /\ w'.cell? ⟨w.heap.size, 4, none⟩ = some (.slice a n cap) /\ w'.cell? ⟨w.heap.size + 1, 0, none⟩ = some (.slice bt nt ct) /\ w'.cell? ⟨w.heap.size + 1, 1, none⟩ = some (.slice bb nb cb)) (first | exact HT.out _ (h4.alloc _) | exact HT.out _ (hT.alloc _) | exact HT.out _ h4 | exact HT.out _ hT | exact HT.out _ (hd.alloc _) | exact HT.out _ hd) (first
  | (go_at_call_of 147 (Value.slice bt nt ct); refine (HNt.out _ (by first | exact HW0.out.trans h4 | exact HW0.out.trans (hd.alloc _) | exact HW0.out.trans hd)).mono ?_; rintro e wT ⟨rfl, oT⟩; have hT : Old W wT := (by first | exact h4.trans oT | exact (hd.alloc _).trans oT | exact hd.trans oT))
  | (go_at_call 147; refine (HN4.out _ _ _ (by first | exact Old.refl _ | exact oT | exact Old.drewAlloc _ _ | exact (Old.drewAlloc _ _).trans oT)).mono ?_; rintro e w4 ⟨rfl, o4⟩; have h4 : Old W w4 := (by first | exact (hT.alloc _).trans o4 | exact hT.trans o4 | exact (hd.alloc _).trans o4)))
 have HOw := hid (strs_two wT W.heap.size S hT.size)
 have HWl : Hid (Old W (wT.alloc (.cells #[.string (strOfNums (S 0)), .string (strOfNums (S 1))] 9))) := hT.alloc _
 generalize wT.alloc (.cells #[.string (strOfNums (S 0)), .string (strOfNums (S 1))] 9) = Wl at *
 clear d0 d1 d2 d3 d4 z0 z1
 go_upto_region 3 with fail
 go_loopw [9, 29] (fun pv iv wx => ∃ i : Nat, iv = .int .i64 (i : Int) /\ i <= nb /\ Hid (wx.ownsRow W.heap.size 9 1 pv (i + 2) (zah S (i + 2))) /\ Hid (Old W wx)) (fun _ iv _ => nb - (intOf iv).toNat)
 case atStart => exact ⟨0, rfl, Nat.zero_le _, HOw, HWl⟩
 case round =>
  obtain ⟨i, rfl, hi, HP, HW⟩ := hrel
  obtain ⟨d0, d1, d2, d3, d4, z0, z1⟩ := HT.out _ HW.out
  by_cases hlt : i < nb
  ·rcases HB.out with h0 | ⟨bx, ox, hqx, _, hrx⟩
   ·omega
   have cx := (HW0.out.trans HW.out).cellOf (hrx i hlt).1
   clear hrx
   subst hqx
   have HC := hid (HNr.out i wr hlt (HW0.out.trans HW.out))
   generalize hsi : S (i + 2) = Si at *
   have HSi := hid hsi
   clear hsi
   go_wp2_with (first
    | (go_at_call 147; refine HC.out.mono ?_; rintro e w1 ⟨rfl, o1⟩; have hs1 := (HW.out.trans o1).size)
    | (at_builtin; refine wpList_append_own _ rfl _ _ 143 rfl W.heap.size 9 i0 (.string ⟨#[]⟩) 1 16 U143 hi0 hz0 hz1 hz2 rfl (by decide) _ _ _ rfl ((zbr HP.out o1).alloc _) ⟨w1.heap.size, 0, none⟩ 1 1 [.string (strOfNums Si)] rfl rfl ?c1 ?c2 ?c3 ?c4 ?c5 ?_))
   case c1 => exact cell_one_new _ _ _
   case c2 => intro u hu; simp at hu; subst hu; rfl
   case c3 => unfold maxLen; omega
   case c4 => omega
   case c5 => simp; omega
   intro v' w2 hown' hgrow _
   have ho2 := hid (zcj (HW.out.trans o1) (zbr HP.out o1) hgrow)
   have hw2 : Hid (w2.ownsRow W.heap.size 9 1 v' (i + 1 + 2) (zah S (i + 1 + 2))) := by
    have e : zah S (i + 1 + 2) = zah S (i + 2) ++ [.string (strOfNums Si)] := by rw [<- HSi.out]; exact zbC S (i + 2)
    unfold Hid
    rw [e]
    exact hown'
   clear hown' hgrow
   go_wp2_with fail
   go_roundw
   case rel => exact ⟨i + 1, by first | exact zab i | exact zdd i, by omega, hw2, ho2⟩
   case measure => simp [intOf]; omega
  ·have he : nb = i := by omega
   subst he
   have HC := hid (HNk.out wr (HW0.out.trans HW.out))
   generalize hsi : S (nb + 2) = Si at *
   have HSi := hid hsi
   clear hsi
   go_upto_region 8 with (first
    | (go_at_call 147; refine HC.out.mono ?_; rintro e w1 ⟨rfl, o1⟩; have hs1 := (HW.out.trans o1).size)
    | (at_builtin; refine wpList_append_own _ rfl _ _ 143 rfl W.heap.size 9 i0 (.string ⟨#[]⟩) 1 16 U143 hi0 hz0 hz1 hz2 rfl (by decide) _ _ _ rfl ((zbr HP.out o1).alloc _) ⟨w1.heap.size, 0, none⟩ 1 1 [.string (strOfNums Si)] rfl rfl ?c1 ?c2 ?c3 ?c4 ?c5 ?_))
   case c1 => exact cell_one_new _ _ _
   case c2 => intro u hu; simp at hu; subst hu; rfl
   case c3 => unfold maxLen; omega
   case c4 => omega
   case c5 => simp; omega
   intro v' w2 hown' hgrow _
   have ho2 := hid (zcj (HW.out.trans o1) (zbr HP.out o1) hgrow)
   have hw2 : w2.ownsRow W.heap.size 9 1 v' (nb + 3) (zah S (nb + 3)) := by
    have e : zah S (nb + 3) = zah S (nb + 2) ++ [.string (strOfNums Si)] := by rw [<- HSi.out]; exact zbC S (nb + 2)
    rw [e]
    exact hown'
   obtain ⟨ba, bc, rfl, _, hst⟩ := own_strs hw2 (fun j _ => HSb.out j)
   have HN := hid (HNu.out ba bc w2 hst)
   clear hown' hgrow hw2 hst d0 d1 d2 d3 d4 z0 z1
   obtain ⟨d0, d1, d2, d3, d4, z0, z1⟩ := HT.out _ ho2.out
   go_wp2_with (go_at_call 128; refine HN.out.mono ?_; rintro e w3 ⟨rfl, o3⟩)
   go_ret
   exact ⟨rfl, (HW0.out.trans ho2.out).trans o3⟩
set_option linter.unusedSimpArgs false in
theorem zcu (b : OA) (n cap : Nat) (F : NI) (w : World) (hn : n <= 1000) (h : FacsIn w b n F) :
  Calls prog 126 #[.slice b n cap] w fun e w' => e = .returned (.string (strOfNums (packL F n))) /\ Old w w' := by
 obtain ⟨i0, hi0, hz0, hz1, hz2⟩ := info_parts zeP
 have HX : Hid (FacsIn w b n F) := h
 have hmk : ∀ wx, (Instr.makeSlice 152 (.int .i64 0) (.int .i64 (8 * (n : Int)))).run prog wx = .ok (.slice (some ⟨wx.heap.size, 0, none⟩) 0 (8 * n)) (wx.alloc (.cells (madeCells #[Value.int .u8 0] (8 * n)) 5)) := make8_run n hn
 clear h
 have HO0 : Hid ((w.alloc (.cells (madeCells #[Value.int .u8 0] (8 * n)) 5)).ownsRow w.heap.size 5 1 (.slice (some ⟨w.heap.size, 0, none⟩) 0 (8 * n)) 0 []) := World.ownsRow_made w _ (8 * n) (Nat.le_refl _) (by unfold maxLen; omega) (by rw [size_madeCells]; omega)
 have HW0 : Hid (Old w (w.alloc (.cells (madeCells #[Value.int .u8 0] (8 * n)) 5))) := (Old.refl _).alloc _
 go_enter func126, ntmps126
 go_wp2_with fail
 go_loopw [3, 13] (fun v iv wx => ∃ i : Nat, iv = .int .i64 (i : Int) /\ i <= n /\ Hid (v ≠ .slice none 0 0) /\ Hid (wx.ownsRow w.heap.size 5 1 v (8 * i) ((packL F i).map (Value.int .u8))) /\ Hid (Old w wx)) (fun _ iv _ => n - (intOf iv).toNat)
 case atStart => exact ⟨0, rfl, Nat.zero_le _, (by unfold Hid; simp), HO0, HW0⟩
 case round =>
  obtain ⟨i, rfl, hi, HE, HV, HO⟩ := hrel
  by_cases hlt : i < n
  ·rcases HX.out.old HO.out with h0 | ⟨bx, ox, hqx, _, hrx⟩
   ·omega
   have cx := (hrx i hlt).1
   clear hrx
   subst hqx
   have HP : Hid (packL F (i + 1) = packL F i ++ zaY (F i) 8 8) := rfl
   generalize F i = x at *
   go_wp2_with fail
   go_loopw [3, 6] (fun v sv wx => ∃ j r : Nat, j + r = 8 /\ sv = .int .i64 (8 * (r : Int) - 8) /\ Hid (v ≠ .slice none 0 0) /\ Hid (wx.ownsRow w.heap.size 5 1 v (8 * i + j) ((packL F i ++ zaY x 8 j).map (Value.int .u8))) /\ Hid (Old w wx)) (fun _ sv _ => (intOf sv + 8).toNat)
   case atStart => exact ⟨0, 8, by omega, rfl, HE, by have := HV; unfold Hid at this ⊢; simpa [zaY] using this, HO⟩
   case round =>
    obtain ⟨j, r, hjr, rfl, HE2, HV2, HO2⟩ := hrel
    cases r with
    | zero =>
     obtain rfl : j = 8 := by omega
     have HV3 : Hid (wr.ownsRow w.heap.size 5 1 u3 (8 * (i + 1)) ((packL F (i + 1)).map (Value.int .u8))) := by rw [HP.out]; exact HV2
     go_wp2_with fail
     go_roundw
     case rel => exact ⟨i + 1, zab i, by omega, HE2, HV3, HO2⟩
     case measure => simp [intOf]; omega
    | succ q =>
     have eq : (8 : Int) * ((q + 1 : Nat) : Int) - 8 = ((8 * q : Nat) : Int) := by omega
     simp only [eq]
     clear eq
     have hs := HO2.out.size
     have HB : Hid (zaY x 8 (j + 1) = zaY x 8 j ++ [zbk x q]) := by unfold Hid; rw [zc1, show 8 - 1 - j = q by omega]
     have q0 : (0 : Int) <= ((8 * q : Nat) : Int) := by omega
     have q1 : ((8 * q : Nat) : Int) < 64 := by omega
     go_wp2_with (at_builtin; refine wpList_append_own _ rfl _ _ 152 rfl w.heap.size 5 i0 (.int .u8 0) 1 1 U152 hi0 hz0 hz1 hz2 rfl (by decide) _ _ _ rfl (World.ownsRow.alloc HV2.out _) ⟨wr.heap.size, 0, none⟩ 1 1 [.int .u8 (zbk x q)] rfl rfl ?c1 ?c2 ?c3 ?c4 ?c5 ?_)
     case c1 => exact cell_one_new _ _ _
     case c2 => intro u hu; simp at hu; subst hu; rfl
     case c3 => unfold maxLen; omega
     case c4 => omega
     case c5 => simp; omega
     intro v' w1 hown' hgrow hne
     have HE3 : Hid (v' ≠ .slice none 0 0) := hne
     clear hne
     have HO3 : Hid (Old w w1) := zcj HO2.out HV2.out hgrow
     have HV3 : Hid (w1.ownsRow w.heap.size 5 1 v' (8 * i + (j + 1)) ((packL F i ++ zaY x 8 (j + 1)).map (Value.int .u8))) := by
      rw [HB.out]
      simp only [List.map_append, List.map_cons, List.map_nil, List.append_assoc] at hown' ⊢
      exact hown'
     clear hown' hgrow
     go_wp2_with fail
     go_roundw
     case rel => exact ⟨j + 1, q, by omega, by first | rfl | (congr 1; omega), HE3, HV3, HO3⟩
     case measure => simp [intOf]; omega
  ·have he : n = i := by omega
   subst he
   have zl := zar F n
   have HC : Hid (∃ g c, u3 = .slice g (8 * n) c /\ (convert 152 9 (.slice g (8 * n) c)).run prog wr = .ok (.string (strOfNums (packL F n))) wr) := by
    rcases HV.out.2 with ⟨hv, _⟩ | ⟨g, c, cur, hv, _, _, _⟩
    ·exact absurd hv HE.out
    ·subst hv
     refine ⟨_, c, rfl, run_convert_bytes_arg wr 152 5 U152 U5 g 0 (8 * n) c (packL F n) zl (fun i hi => ?_) 9 U9⟩
     rw [Nat.zero_add, HV.out.cellAt i (by omega), List.getElem?_map, List.getD, List.getElem?_eq_getElem (by omega)]
     rfl
   obtain ⟨g, c, rfl, hcv⟩ := HC.out
   clear HV
   go_wp2_with fail
   go_ret
   exact ⟨rfl, HO.out⟩
def askS (l : List Int) (K : Nat -> List Int) (B : NN) (L : Nat -> Nat) : Nat -> List Int := fun i => if i = 0 then l else if i < 4 then K (i - 1) else packL (B (i - 4)) (L (i - 4))
theorem zd1 {label : List Int} {S S' : Nat -> List Int} : ∀ {n : Nat}, (∀ i, i < n -> S i = S' i) -> numL label S n = numL label S' n
 | 0, _ => rfl
 | n + 1, h => by
  show numL label S n ++ (_ ++ _) = numL label S' n ++ (_ ++ _)
  rw [zd1 fun i hi => h i (by omega), h n (by omega)]
theorem zbh {label : List Int} {S S' : Nat -> List Int} {n : Nat} {Q : Int} (h : ∀ i, i < n -> S i = S' i) : zaj label S n Q = zaj label S' n Q := by
 unfold zaj
 rw [zd1 h]
theorem strs_one (w : World) (base : Nat) (S : Nat -> List Int) (hb : base <= w.heap.size) : (w.alloc (.cells #[.string (strOfNums (S 0))] 9)).ownsRow base 9 1 (.slice (some ⟨w.heap.size, 0, none⟩) 1 1) 1 (zah S 1) :=
 ⟨by simp [zah], Or.inr ⟨w.heap.size, 1, _, rfl, hb, heap_alloc_last w _, by omega, by unfold maxLen; omega, by simp, by simp [zah, List.range_succ]⟩⟩
theorem cells_four (S : Nat -> List Int) : zah S 4 = zah S 1 ++ [.string (strOfNums (S 1)), .string (strOfNums (S 2)), .string (strOfNums (S 3))] := rfl
theorem sak_any (l label : List Int) (K : Nat -> List Int) (Q : Int) (kb sb lb gb : Nat) (bl : OA) (m cl : Nat) (BA : Nat -> Option Addr) (L C : Nat -> Nat) (B : NN) (w : World) (hl : Bts l) (hll : l.length <= 640) (hK : ∀ i, i < 3 -> Bts (K i)) (hKl : ∀ i, (K i).length <= 640) (hlb : Bts label) (hlbl : label.length <= 1000) (hm : m <= 10) (hL : ∀ j, j < m -> L j <= 80)
  (hk : w.cell? ⟨kb, 0, none⟩ = some (.slice (some ⟨sb, 0, none⟩) 3 3)) (hs : ∀ i, i < 3 -> w.cell? ⟨sb, i, none⟩ = some (.string (strOfNums (K i)))) (hb : w.cell? ⟨lb, 0, none⟩ = some (.string (strOfNums label))) (hg : w.cell? ⟨gb, 1, none⟩ = some (.int .u64 Q)) (hB : ListsIn w bl m BA L C B) :
  Calls prog 127 #[.string (strOfNums l), .slice bl m cl, .pointer (some ⟨kb, 0, none⟩), .pointer (some ⟨lb, 0, none⟩), .pointer (some ⟨gb, 0, none⟩)] w fun e w' => e = .returned (.int .u64 (zaj label (askS l K B L) (m + 4) Q)) /\ Old w w' := by
 obtain ⟨S, hS⟩ : ∃ S : Nat -> List Int, S = fun i => if i < m + 4 then askS l K B L i else [] := ⟨_, rfl⟩
 have hSe : ∀ i, i < m + 4 -> S i = askS l K B L i := fun i hi => by rw [hS]; simp only; rw [if_pos hi]
 have HSb : Hid (∀ i, i < m + 4 -> Bts (S i)) := fun i hi => by
  rw [hSe i hi]
  unfold askS
  split
  ·exact hl
  ·split
   ·exact hK _ (by omega)
   ·exact zaU _ _
 have hlen : ∀ i, (S i).length <= 640 := fun i => by
  rw [hS]
  simp only
  split
  ·rename_i hi
   unfold askS
   split
   ·exact hll
   ·split
    ·exact hKl _
    ·rw [zar]; have := hL (i - 4) (by omega); omega
  ·simp
 have HNr : Hid (∀ j wx, j < m -> Old w wx -> Calls prog 126 #[.slice (BA j) (L j) (C j)] wx fun e w' => e = .returned (.string (strOfNums (S (j + 4)))) /\ Old wx w') := fun j wx hj ho => (zcu (BA j) (L j) (C j) (B j) wx (by have := hL j hj; omega) ((hB.facs hj).old ho)).mono fun e w' ⟨h, k⟩ => ⟨by rw [h, hSe _ (by omega)]; unfold askS; rw [if_neg (by omega), if_neg (by omega), show j + 4 - 4 = j by omega], k⟩
 have HNu : Hid (∀ b c wx, StrsIn wx b (m + 4) S -> Calls prog 128 #[.string (strOfNums label), .slice b (m + 4) c, .int .u64 Q] wx fun e w' => e = .returned (.int .u64 (zaj label (askS l K B L) (m + 4) Q)) /\ Old wx w') := fun b c wx hst => (zey label b (m + 4) c S Q wx hlb hst (by omega) (by have := numL_le (label := label) hlen (m + 4); omega)).mono fun e w' ⟨h, k⟩ => ⟨by rw [h, zbh hSe], k⟩
 have HT : Hid (∀ w', Old w w' -> w'.cell? ⟨kb, 0, none⟩ = some (.slice (some ⟨sb, 0, none⟩) 3 3) /\ w'.cell? ⟨lb, 0, none⟩ = some (.string (strOfNums label)) /\ w'.cell? ⟨gb, 1, none⟩ = some (.int .u64 Q)) := fun w' ho => ⟨ho.cellOf hk, ho.cellOf hb, ho.cellOf hg⟩
 have HK : Hid (∀ w' i, i < 3 -> Old w w' -> w'.cell? ⟨sb, i, none⟩ = some (.string (strOfNums (S (i + 1))))) := fun w' i hi ho => by
  rw [hSe (i + 1) (by omega)]
  unfold askS
  rw [if_neg (by omega), if_pos (by omega)]
  exact ho.cellOf (hs i hi)
 have HB := hid hB
 have hS0 : l = S 0 := by rw [hSe 0 (by omega)]; rfl
 generalize zaj label (askS l K B L) (m + 4) Q = R at *
 rw [hS0]
 clear hS hSe hlen hl hll hK hKl hlb hlbl hL hk hs hb hg hB hS0
 obtain ⟨i0, hi0, hz0, hz1, hz2⟩ := info_parts strinfo
 go_enter func127, ntmps127
 obtain ⟨d0, d1, d2⟩ := HT.out _ (Old.refl _)
 obtain ⟨z0, z1, z2⟩ := HT.out _ ((Old.refl w).alloc (.cells #[.string (strOfNums (S 0))] 9))
 go_wp2_with (at_builtin; refine wpList_append_own _ rfl _ _ 143 rfl w.heap.size 9 i0 (.string ⟨#[]⟩) 1 16 U143 hi0 hz0 hz1 hz2 rfl (by decide) _ _ _ rfl (strs_one w w.heap.size S (Nat.le_refl _)) ⟨sb, 0, none⟩ 3 3 [.string (strOfNums (S 1)), .string (strOfNums (S 2)), .string (strOfNums (S 3))] rfl rfl ?c1 ?c2 ?c3 ?c4 ?c5 ?_)
 case c1 =>
  have h := fun i hi => HK.out (w.alloc (.cells #[.string (strOfNums (S 0))] 9)) i hi ((Old.refl w).alloc _)
  intro j u hu
  match j, hu with
  | 0, hu => simp at hu; subst hu; exact h 0 (by omega)
  | 1, hu => simp at hu; subst hu; exact h 1 (by omega)
  | 2, hu => simp at hu; subst hu; exact h 2 (by omega)
  | j + 3, hu => simp at hu
 case c2 => intro u hu; simp at hu; rcases hu with rfl | rfl | rfl <;> rfl
 case c3 => unfold maxLen; omega
 case c4 => omega
 case c5 => simp
 intro v' w2 hown' hgrow _
 have HO2 : Hid (Old w w2) := ((Old.refl w).alloc _).grown hgrow fun b hb => by simp [Value.ownBlock] at hb; omega
 have HP2 : Hid (w2.ownsRow w.heap.size 9 1 v' (0 + 4) (zah S (0 + 4))) := by
  unfold Hid
  rw [Nat.zero_add, cells_four S]
  exact hown'
 clear hown' hgrow d0 d1 d2 z0 z1
 go_upto_region 3 with fail
 go_loopw [8, 17] (fun pv iv wx => ∃ i : Nat, iv = .int .i64 (i : Int) /\ i <= m /\ Hid (wx.ownsRow w.heap.size 9 1 pv (i + 4) (zah S (i + 4))) /\ Hid (Old w wx)) (fun _ iv _ => m - (intOf iv).toNat)
 case atStart => exact ⟨0, rfl, Nat.zero_le _, HP2, HO2⟩
 case round =>
  obtain ⟨i, rfl, hi, HP, HW⟩ := hrel
  by_cases hlt : i < m
  ·rcases HB.out with h0 | ⟨bx, ox, hqx, _, hrx⟩
   ·omega
   have cx := HW.out.cellOf (hrx i hlt).1
   clear hrx
   subst hqx
   have HC := hid (HNr.out i wr hlt HW.out)
   generalize hsi : S (i + 4) = Si at *
   have HSi := hid hsi
   clear hsi
   go_wp2_with (first
    | (go_at_call 126; refine HC.out.mono ?_; rintro e w1 ⟨rfl, o1⟩; have hs1 := (HW.out.trans o1).size)
    | (at_builtin; refine wpList_append_own _ rfl _ _ 143 rfl w.heap.size 9 i0 (.string ⟨#[]⟩) 1 16 U143 hi0 hz0 hz1 hz2 rfl (by decide) _ _ _ rfl ((zbr HP.out o1).alloc _) ⟨w1.heap.size, 0, none⟩ 1 1 [.string (strOfNums Si)] rfl rfl ?c1 ?c2 ?c3 ?c4 ?c5 ?_))
   case c1 => exact cell_one_new _ _ _
   case c2 => intro u hu; simp at hu; subst hu; rfl
   case c3 => unfold maxLen; omega
   case c4 => omega
   case c5 => simp; omega
   intro v' w2 hown' hgrow _
   have ho2 := hid (zcj (HW.out.trans o1) (zbr HP.out o1) hgrow)
   have hw2 : Hid (w2.ownsRow w.heap.size 9 1 v' (i + 1 + 4) (zah S (i + 1 + 4))) := by
    have e : zah S (i + 1 + 4) = zah S (i + 4) ++ [.string (strOfNums Si)] := by rw [<- HSi.out]; exact zbC S (i + 4)
    unfold Hid
    rw [e]
    exact hown'
   clear hown' hgrow
   go_wp2_with fail
   go_roundw
   case rel => exact ⟨i + 1, by first | exact zab i | exact zdd i, by omega, hw2, ho2⟩
   case measure => simp [intOf]; omega
  ·have he : m = i := by omega
   subst he
   obtain ⟨ba, bc, rfl, _, hst⟩ := own_strs HP.out HSb.out
   have HN := hid (HNu.out ba bc wr hst)
   obtain ⟨d0, d1, d2⟩ := HT.out _ HW.out
   clear hst HP HP2 HO2
   go_wp2_with (go_at_call 128; refine HN.out.mono ?_; rintro e w3 ⟨rfl, o3⟩)
   go_ret
   exact ⟨rfl, HW.out.trans o3⟩
def fiv8 (P Q G H y : Int) : Nat -> Int | 0 => P | 1 => Q | 2 => G | 3 => H | _ => y
theorem facs_fiv8 (w : World) (P Q G H y : Int) (t : TypeId) (h4 : Four P Q G H) (hy : U64 y) : FacsIn (w.alloc (.cells #[.int .u64 P, .int .u64 Q, .int .u64 G, .int .u64 H, .int .u64 y] t)) (some ⟨w.heap.size, 0, none⟩) 5 (fiv8 P Q G H y) := by
 refine Or.inr ⟨_, _, rfl, by simp, fun j hj => ?_⟩
 match j, hj with
 | 0, _ => exact ⟨(World.cell?_alloc_mark w _ t (0, 0) 0).trans rfl, h4.p0, h4.p1⟩
 | 1, _ => exact ⟨(World.cell?_alloc_mark w _ t (0, 0) 1).trans rfl, h4.q0, h4.q1⟩
 | 2, _ => exact ⟨(World.cell?_alloc_mark w _ t (0, 0) 2).trans rfl, h4.g0, h4.g1⟩
 | 3, _ => exact ⟨(World.cell?_alloc_mark w _ t (0, 0) 3).trans rfl, h4.h0, h4.h1⟩
 | 4, _ => exact ⟨(World.cell?_alloc_mark w _ t (0, 0) 4).trans rfl, hy.1, hy.2⟩
def knwS (P Q G H y : Int) (l : Nat) (C : NN) (no : Nat) (O : NN) : Nat -> List Int
 | 0 => packL (fiv8 P Q G H y) 5
 | 1 => packL (flatF C) (6 * l)
 | 2 => packL (flatF O) (6 * no)
 | _ => []
theorem knwS_bd (P Q G H y : Int) (l : Nat) (C : NN) (no : Nat) (O : NN) : ∀ i, i < 3 -> Bts (knwS P Q G H y l C no O i)
 | 0, _ => zaU _ _
 | 1, _ => zaU _ _
 | 2, _ => zaU _ _
theorem knwS_len (P Q G H y : Int) {l : Nat} (C : NN) {no : Nat} (O : NN) (hl : l <= 8) (hn : no <= 8) : ∀ i, (knwS P Q G H y l C no O i).length <= 640
 | 0 => by show (packL _ _).length <= _; rw [zar]; omega
 | 1 => by show (packL _ _).length <= _; rw [zar]; omega
 | 2 => by show (packL _ _).length <= _; rw [zar]; omega
 | _ + 3 => by show ([] : List Int).length <= _; simp
structure AskIn (w : World) (kb sb lb gb : Nat) (K : Nat -> List Int) (label : List Int) (Q : Int) : Prop where
 k : w.cell? ⟨kb, 0, none⟩ = some (.slice (some ⟨sb, 0, none⟩) 3 3)
 s : ∀ i, i < 3 -> w.cell? ⟨sb, i, none⟩ = some (.string (strOfNums (K i)))
 l : w.cell? ⟨lb, 0, none⟩ = some (.string (strOfNums label))
 g : w.cell? ⟨gb, 1, none⟩ = some (.int .u64 Q)
theorem AskIn.old {w w' : World} {kb sb lb gb : Nat} {K : Nat -> List Int} {label : List Int} {Q : Int} (h : AskIn w kb sb lb gb K label Q) (ho : Old w w') : AskIn w' kb sb lb gb K label Q := ⟨ho.cellOf h.k, fun i hi => ho.cellOf (h.s i hi), ho.cellOf h.l, ho.cellOf h.g⟩
def askV (kb lb gb : Nat) : Value := .func (.func 127) #[] #[.pointer (some ⟨kb, 0, none⟩), .pointer (some ⟨lb, 0, none⟩), .pointer (some ⟨gb, 0, none⟩)]
theorem zeQ (P Q G H : Int) (a : OA) (m cap : Nat) (label : List Int) (y : Int) (bi : OA) (l ci : Nat) (C : NN) (bo : OA) (no co : Nat) (O : NN) (w : World) (h4 : Four P Q G H) (hy : U64 y) (hl : l <= 100) (hno : no <= 100) (hC : BoxsIn w bi l C) (hO : BoxsIn w bo no O) :
  Calls prog 89 #[gv P Q G H a m cap, .string (strOfNums label), .int .u64 y, .slice bi l ci, .slice bo no co] w fun e w' => Old w w' /\ ∃ kb sb lb gb, e = .returned (askV kb lb gb) /\ AskIn w' kb sb lb gb (knwS P Q G H y l C no O) label Q := by
 have HZ := lain2 w (gc P Q G H a m cap) #[.string (strOfNums label)] 25 9
 have HT0 : ∀ w', Old ((w.alloc (.cells (gc P Q G H a m cap) 25)).alloc (.cells #[.string (strOfNums label)] 9)) w' -> w'.cell? ⟨w.heap.size, 0, none⟩ = some (.int .u64 P) /\ w'.cell? ⟨w.heap.size, 1, none⟩ = some (.int .u64 Q) /\ w'.cell? ⟨w.heap.size, 2, none⟩ = some (.int .u64 G) /\ w'.cell? ⟨w.heap.size, 3, none⟩ = some (.int .u64 H) /\ w'.cell? ⟨w.heap.size + 1, 0, none⟩ = some (.string (strOfNums label)) := fun w' ho => by
  have h := HZ.then ho
  exact ⟨h.cell 0 0 (by simp) rfl, h.cell 0 1 (by simp) rfl, h.cell 0 2 (by simp) rfl, h.cell 0 3 (by simp) rfl, h.cell 1 0 (by simp) rfl⟩
 have HW0 : Hid (Old w ((w.alloc (.cells (gc P Q G H a m cap) 25)).alloc (.cells #[.string (strOfNums label)] 9))) := HZ.old
 obtain ⟨S, hS⟩ : ∃ S, S = knwS P Q G H y l C no O := ⟨_, rfl⟩
 have HA : Hid (∀ (wx wy : World) (t : TypeId), Old (wx.alloc (.cells #[.int .u64 P, .int .u64 Q, .int .u64 G, .int .u64 H, .int .u64 y] t)) wy -> Calls prog 126 #[.slice (some ⟨wx.heap.size, 0, none⟩) 5 5] wy (Ret wy (.string (strOfNums (S 0))))) := fun wx wy t ho => by rw [hS]; exact zcu _ 5 5 (fiv8 P Q G H y) wy (by omega) ((facs_fiv8 wx P Q G H y t h4 hy).old ho)
 have HN1 : Hid (∀ wx, Old w wx -> Calls prog 104 #[.slice bi l ci] wx fun e w' => Old wx w' /\ ∃ b c, e = .returned (.slice b (6 * l) c) /\ FacsIn w' b (6 * l) (flatF C)) := fun wx ho => (zcg bi l ci C wx (by omega) (hC.old ho)).mono fun e w' ⟨k, v, he, hN⟩ => by
  obtain ⟨b, c, rfl, _, hf⟩ := hN.facs (flat_u64 hC)
  exact ⟨k, b, c, he, hf⟩
 have HN2 : Hid (∀ wx, Old w wx -> Calls prog 104 #[.slice bo no co] wx fun e w' => Old wx w' /\ ∃ b c, e = .returned (.slice b (6 * no) c) /\ FacsIn w' b (6 * no) (flatF O)) := fun wx ho => (zcg bo no co O wx (by omega) (hO.old ho)).mono fun e w' ⟨k, v, he, hN⟩ => by
  obtain ⟨b, c, rfl, _, hf⟩ := hN.facs (flat_u64 hO)
  exact ⟨k, b, c, he, hf⟩
 have HB1 : Hid (∀ wx b c, FacsIn wx b (6 * l) (flatF C) -> Calls prog 126 #[.slice b (6 * l) c] wx (Ret wx (.string (strOfNums (S 1))))) := fun wx b c hf => by rw [hS]; exact zcu b (6 * l) c (flatF C) wx (by omega) hf
 have HB2 : Hid (∀ wx b c, FacsIn wx b (6 * no) (flatF O) -> Calls prog 126 #[.slice b (6 * no) c] wx (Ret wx (.string (strOfNums (S 2))))) := fun wx b c hf => by rw [hS]; exact zcu b (6 * no) c (flatF O) wx (by omega) hf
 rw [<- hS]
 clear HZ hS h4 hy hl hno hC hO
 go_enter func89, ntmps89
 go_upto_region 1 with fail
 generalize (w.alloc (.cells (gc P Q G H a m cap) 25)).alloc (.cells #[.string (strOfNums label)] 9) = W at *
 generalize w.heap.size = gb at *
 have HT := hid HT0
 clear HT0
 obtain ⟨x0, x1, x2, x3, x4⟩ := HT.out _ (Old.refl _)
 have hmf : ∀ (fn : Fn) (first cap : Array Value) (w : World), (Instr.makeFunc fn first cap).run prog w = .ok (.func fn first cap) w := fun _ _ _ _ => rfl
 have HWl : Hid (Old W (W.alloc (.cells #[.int .u64 P, .int .u64 Q, .int .u64 G, .int .u64 H, .int .u64 y] 22))) := (Old.refl _).alloc _
 go_upto_region 2 with (first
  | (have hg := hN2; clear hg; go_at_call 126; refine (HB2.out _ _ _ hf2).mono ?_; rintro e w5 ⟨rfl, o5⟩; have h5 : Hid (Old W w5) := hN2.out.trans o5)
  | (have hg := hA2; clear hg; go_at_call 104; refine (HN2.out _ (HW0.out.trans hA2.out)).mono ?_; rintro e w4 ⟨o4, b2, c2, rfl, hf2⟩; have hN2 : Hid (Old W w4) := hA2.out.trans o4)
  | (have hg := hN1; clear hg; go_at_call 126; refine (HB1.out _ _ _ hf1).mono ?_; rintro e w3 ⟨rfl, o3⟩; have hA2 : Hid (Old W w3) := hN1.out.trans o3)
  | (have hg := hA1; clear hg; go_at_call 104; refine (HN1.out _ (HW0.out.trans hA1.out)).mono ?_; rintro e w2 ⟨o2, b1, c1, rfl, hf1⟩; have hN1 : Hid (Old W w2) := hA1.out.trans o2)
  | (go_at_call 126; refine (HA.out _ _ _ (Old.refl _)).mono ?_; rintro e w1 ⟨rfl, o1⟩; have hA1 : Hid (Old W w1) := HWl.out.trans o1))
 have HR1 : ((w5.alloc (.cells #[.string (strOfNums (S 0)), .string (strOfNums (S 1)), .string (strOfNums (S 2))] 9)).alloc (.cells #[.slice (some ⟨w5.heap.size, 0, none⟩) 3 3] 143)).heap[w5.heap.size]? = some (.cells #[.string (strOfNums (S 0)), .string (strOfNums (S 1)), .string (strOfNums (S 2))] 9 (0, 0)) := (((Old.refl _).alloc _).block _ (by simp)).trans (heap_alloc_last _ _)
 have HR2 : ((w5.alloc (.cells #[.string (strOfNums (S 0)), .string (strOfNums (S 1)), .string (strOfNums (S 2))] 9)).alloc (.cells #[.slice (some ⟨w5.heap.size, 0, none⟩) 3 3] 143)).heap[w5.heap.size + 1]? = some (.cells #[.slice (some ⟨w5.heap.size, 0, none⟩) 3 3] 143 (0, 0)) := by
  have := heap_alloc_last (w5.alloc (.cells #[.string (strOfNums (S 0)), .string (strOfNums (S 1)), .string (strOfNums (S 2))] 9)) (.cells #[.slice (some ⟨w5.heap.size, 0, none⟩) 3 3] 143)
  rwa [show (w5.alloc (.cells #[.string (strOfNums (S 0)), .string (strOfNums (S 1)), .string (strOfNums (S 2))] 9)).heap.size = w5.heap.size + 1 by simp] at this
 have HO6 : Old W ((w5.alloc (.cells #[.string (strOfNums (S 0)), .string (strOfNums (S 1)), .string (strOfNums (S 2))] 9)).alloc (.cells #[.slice (some ⟨w5.heap.size, 0, none⟩) 3 3] 143)) := (h5.out.alloc _).alloc _
 have HE : Hid (Old w ((w5.alloc (.cells #[.string (strOfNums (S 0)), .string (strOfNums (S 1)), .string (strOfNums (S 2))] 9)).alloc (.cells #[.slice (some ⟨w5.heap.size, 0, none⟩) 3 3] 143)) /\ AskIn ((w5.alloc (.cells #[.string (strOfNums (S 0)), .string (strOfNums (S 1)), .string (strOfNums (S 2))] 9)).alloc (.cells #[.slice (some ⟨w5.heap.size, 0, none⟩) 3 3] 143)) (w5.heap.size + 1) w5.heap.size (gb + 1) gb S label Q) := by
  obtain ⟨y0, y1, y2, y3, y4⟩ := HT.out _ HO6
  refine ⟨HW0.out.trans HO6, (Y0 HR2).trans rfl, fun i hi => ?_, y4, y1⟩
  rw [cell_of_row _ _ i _ _ (0, 0) HR1]
  match i, hi with
  | 0, _ => rfl
  | 1, _ => rfl
  | 2, _ => rfl
 clear HR1 HR2 HO6
 go_wp2_with fail
 go_ret
 exact ⟨HE.out.1, _, _, _, _, rfl, HE.out.2⟩
end
end Go.Proofs.YtlnmjbbpenhdbaaGreat
