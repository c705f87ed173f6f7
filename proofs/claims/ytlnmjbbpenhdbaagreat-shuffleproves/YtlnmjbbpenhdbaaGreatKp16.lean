/-
  What the proof needs, part 16.
-/
import Derived.Test.YtlnmjbbpenhdbaaGreatKp15
import Derived.Test.YtlnmjbbpenhdbaaGreatKp10
namespace Go.Proofs.YtlnmjbbpenhdbaaGreat
open Tryz
open Tryz renaming underlying55 → U55, underlying143 → U143
set_option linter.unusedSimpArgs false
set_option linter.unusedVariables false
set_option maxRecDepth 100000
set_option maxHeartbeats 32000000
section
open Go.RowKit
def BytesIn (w : World) (g n : Nat) (f : NI) : Prop := ∀ j, j < n -> w.cell? ⟨g, j, none⟩ = some (.int .u8 (f j)) /\ w.frozen? ⟨g, j, none⟩ = false
theorem dlen_any (xs : List Int) (w : World) (hl : xs.length <= 1000000) :
  Calls prog 143 #[.string (strOfNums xs)] w fun e w' => e = .returned (.string (strOfNums (zap (xs.length : Int) 8 ++ xs))) /\ Old w w' := by
 have hadd : ∀ xs ys : List Int, strOfNums xs ++ strOfNums ys = strOfNums (xs ++ ys) := zc0
 have hsz : ∀ xs : List Int, (strOfNums xs).size = xs.length := strOfNums_size
 have z2 := zal (xs.length : Int) 8
 have hw : IntKind.u64.wrap (xs.length : Int) = (xs.length : Int) := by rw [IntKind.wrap_u64]; omega
 go_enter func143, ntmps143
 go_wp2_with (go_at_call 154; refine (zf4 _ 8 _ (by omega) (by omega)).mono ?_; rintro e w1 ⟨rfl, ho1⟩)
 go_ret
 exact ⟨rfl, ho1⟩
theorem zfT {X Y : NI} : ∀ i, (∀ j, j < i -> X j = Y j) -> valP X i = valP Y i
 | 0, _ => rfl
 | i + 1, h => by
  show valP X i * 256 + X i = valP Y i * 256 + Y i
  rw [zfT i fun j hj => h j (by omega), h i (by omega)]
theorem valP_add (X : NI) (m : Nat) : ∀ k, valP X (m + k) = valP X m * 256 ^ k + valP (fun i => X (m + i)) k
 | 0 => by show valP X m = valP X m * 256 ^ 0 + 0; simp
 | k + 1 => by
  show valP X (m + k) * 256 + X (m + k) = valP X m * 256 ^ (k + 1) + (valP (fun i => X (m + i)) k * 256 + X (m + k))
  rw [valP_add X m k, Int.pow_succ, Int.add_mul, Int.mul_assoc]
  omega
theorem numF_val (X : NI) (q : Int) (hq : okM q = true) : ∀ i, numF X q i = valP X i % q
 | 0 => by show (0 : Int) = 0 % q; simp
 | i + 1 => by
  show addI (mulI (numF X q i) 256 q) (X i) q = (valP X i * 256 + X i) % q
  rw [numF_val X q hq i, za4 hq, zaw hq]
  exact zbJ (by rw [zak]; exact zan (zak _ _) rfl) rfl
theorem number_halves (X : NI) (q : Int) : addI (mulI (valP X 8) (powI 2 64 q) q) (valP (fun i => X (8 + i)) 8) q = if okM q then numF X q 16 else 0 := by
 cases hq : okM q
 ·rw [addI_no hq]; rfl
 ·rw [if_pos rfl, numF_val X q hq 16, show (16 : Nat) = 8 + 8 from rfl, valP_add X 8 8, za4 hq, zaw hq, zbF hq]
  refine zbJ ?_ rfl
  rw [zak]
  exact zan rfl (zak _ _)
theorem dhalf_any (h : List Int) (a : Nat) (w : World) (hb : Bts h) (ha : a + 8 <= h.length) :
  Calls prog 146 #[.string (strOfNums ((h.drop a).take 8))] w fun e w' => e = .returned (.int .u64 (valP (fun i => h.getD (a + i) 0) 8)) /\ w' = w := by
 have hl : ((h.drop a).take 8).length = 8 := by rw [List.length_take, List.length_drop]; omega
 have := dnum_any ((h.drop a).take 8) w (fun x hx => hb x (List.mem_of_mem_drop (List.mem_of_mem_take hx))) (by omega)
 rw [hl] at this
 rwa [zfT 8 (X := fun i => ((h.drop a).take 8).getD i 0) (Y := fun i => h.getD (a + i) 0) fun j hj => by rw [zgi hj, zgh]] at this
theorem valP_bd8 {X : NI} (h : ∀ i, 0 <= X i /\ X i <= 255) : 0 <= valP X 8 /\ valP X 8 <= 18446744073709551615 := by
 have := valP_bd h 8
 have e : (256 : Int) ^ 8 = 18446744073709551616 := by decide
 rw [e] at this
 omega
theorem zd9 (label : List Int) (a : OA) (n cap : Nat) (S : Nat -> List Int) (q : Int) (w : World) (hl : Bts label) (hin : StrsIn w a n S) (hn : n <= 1000) (hlen : (numL label S n).length <= 1000000) :
  Calls prog 128 #[.string (strOfNums label), .slice a n cap, .int .u64 q] w fun e w' => e = .returned (.int .u64 (zaj label S n q)) /\ Old w w' := by
 have HB : Hid (Bts label /\ StrsIn w a n S) := ⟨hl, hin⟩
 clear hl hin
 have ll : (numL label S 0).length <= 1000000 := Nat.le_trans (zcf label S n (Nat.zero_le _)) hlen
 have ll' : (numL label S 0).length = 8 + label.length := by show (zap label.length 8 ++ label).length = _; rw [List.length_append, zal]
 have H0 : Hid (numL label S 0 = zap (label.length : Int) 8 ++ label) := rfl
 rw [ll'] at ll
 have HN := Bld.new w
 have HW : Hid (∀ wx, Old w wx -> Bld w.heap.size w.heap.size [] wx -> Calls prog 142 #[.pointer (some ⟨w.heap.size, 0, none⟩), .string (strOfNums (zap (label.length : Int) 8 ++ label))] wx fun e w' => (∃ v, e = .returned (.tuple #[v, .nilIface])) /\ Bld w.heap.size w.heap.size (numL label S 0) w' /\ Below w.heap.size wx w') := fun wx ho hb => by
  refine (zd4 w.heap.size w.heap.size [] (zap (label.length : Int) 8 ++ label) wx hb (by rw [List.length_append, zal]; simp; omega) ho.size).mono ?_
  rintro e w' ⟨rfl, h1, h2⟩
  exact ⟨⟨_, rfl⟩, h1, h2⟩
 have HN : Hid (Bld w.heap.size w.heap.size [] (w.alloc (.cells #[.pointer none, .slice none 0 0] 155)) /\ Old w (w.alloc (.cells #[.pointer none, .slice none 0 0] 155))) := ⟨HN, (Old.refl w).alloc _⟩
 go_enter func128, ntmps128
 go_wp2_with (first
  | (go_at_call 143; refine (dlen_any label _ (by omega)).mono ?_; rintro e w1 ⟨rfl, ho1⟩)
  | (go_at_call 142; refine (HW.out _ (HN.out.2.trans ho1) (HN.out.1.old ho1)).mono ?_; rintro e w2 ⟨⟨v, rfl⟩, hb2, hbel⟩))
 have HS : Hid (Old w w2 /\ Bld w.heap.size w.heap.size (numL label S 0) w2) := ⟨(HN.out.2.trans ho1).thenBelow (Nat.le_refl _) hbel, hb2⟩
 clear ho1 hbel hb2 HN HW
 go_loopw [18] (fun iv wx => ∃ i : Nat, iv = .int .i64 (i : Int) /\ i <= n /\ Hid (Old w wx /\ Bld w.heap.size w.heap.size (numL label S i) wx)) (fun iv _ => n - (intOf iv).toNat)
 case atStart => exact ⟨0, rfl, Nat.zero_le _, HS⟩
 case round =>
  obtain ⟨i, rfl, hi, HR⟩ := hrel
  by_cases hlt : i < n
  ·have hm := zcf label S n (show i + 1 <= n by omega)
   rw [zbm] at hm
   rcases HB.out.2.old HR.out.1 with h0 | ⟨b, off, rfl, hb, hr⟩
   ·omega
   have cp := (hr i hlt).1
   clear hr hb
   have HE : Hid (numL label S (i + 1) = numL label S i ++ (zap ((S i).length : Int) 8 ++ S i)) := rfl
   have HW : Hid (∀ wx, Old wr wx -> Calls prog 142 #[.pointer (some ⟨w.heap.size, 0, none⟩), .string (strOfNums (zap ((S i).length : Int) 8 ++ S i))] wx fun e w' => (∃ v, e = .returned (.tuple #[v, .nilIface])) /\ Bld w.heap.size w.heap.size (numL label S (i + 1)) w' /\ Below w.heap.size wx w') := fun wx ho => by
    refine (zd4 w.heap.size w.heap.size (numL label S i) (zap ((S i).length : Int) 8 ++ S i) wx (HR.out.2.old ho) (by rw [List.length_append, zal]; omega) (Nat.le_trans HR.out.1.size ho.size)).mono ?_
    rintro e w' ⟨rfl, h1, h2⟩
    exact ⟨⟨_, rfl⟩, by rw [HE.out]; exact h1, h2⟩
   have hl2 : (S i).length <= 1000000 := by omega
   clear hm
   go_wp2_with (first
    | (go_at_call 143; refine (dlen_any (S i) _ hl2).mono ?_; rintro e w1 ⟨rfl, ho1⟩)
    | (go_at_call 142; refine (HW.out _ ho1).mono ?_; rintro e w2 ⟨⟨v, rfl⟩, hb2, hbel⟩))
   go_roundw
   case rel => exact ⟨i + 1, by go_num, by omega, (HR.out.1.trans ho1).thenBelow (Nat.le_refl _) hbel, hb2⟩
   case measure => simp [intOf]; omega
  ·have he : i = n := by omega
   subst he
   have HC : Hid (∀ wx, Calls prog 144 #[.string (strOfNums (numL label S i))] wx fun e w' => e = .returned (.string (strOfNums (sumL (numL label S i)))) /\ Old wx w') := fun wx => dsum_any _ wx (numL_bd HB.out.1 _ fun j hj => HB.out.2.bts hj) hlen
   have HG : Hid (Bts (sumL (numL label S i)) /\ (sumL (numL label S i)).length = 32) := ⟨sumL_bd _, sumL_len _⟩
   have HF : Hid (zaj label S i q = if okM q then numF (fun j => (sumL (numL label S i)).getD j 0) q 16 else 0) := rfl
   generalize sumL (numL label S i) = h at *
   have zh := HG.out.2
   have hsz : (strOfNums h).size = 32 := by rw [strOfNums_size]; exact zh
   have hc1 : (strOfNums h).extract 0 8 = strOfNums ((h.drop 0).take 8) := zf2 h 0 8
   have hc2 : (strOfNums h).extract 8 16 = strOfNums ((h.drop 8).take 8) := zf2 h 8 16
   have A1 := fun wx => dhalf_any h 0 wx HG.out.1 (by omega)
   have A2 := fun wx => dhalf_any h 8 wx HG.out.1 (by omega)
   have e1 : valP (fun i => h.getD (0 + i) 0) 8 = valP (fun i => h.getD i 0) 8 := zfT 8 fun j _ => by rw [Nat.zero_add]
   have hv := number_halves (fun i => h.getD i 0) q
   obtain ⟨b0, b1⟩ := valP_bd8 (zco HG.out.1)
   obtain ⟨d0, d1⟩ := valP_bd8 (X := fun i => h.getD (8 + i) 0) (fun i => zco HG.out.1 (8 + i))
   rw [e1] at A1
   have HV : Hid (addI (mulI (valP (fun i => h.getD i 0) 8) (powI 2 64 q) q) (valP (fun i => h.getD (8 + i) 0) 8) q = zaj label S i q) := by rw [HF.out]; exact hv
   clear hv
   generalize valP (fun i => h.getD i 0) 8 = x at *
   generalize valP (fun i => h.getD (8 + i) 0) 8 = y at *
   generalize (h.drop 0).take 8 = h1 at *
   generalize (h.drop 8).take 8 = h2 at *
   have A1 : Hid (∀ wx, Calls prog 146 #[.string (strOfNums h1)] wx fun e w' => e = .returned (.int .u64 x) /\ w' = wx) := A1
   have A2 : Hid (∀ wx, Calls prog 146 #[.string (strOfNums h2)] wx fun e w' => e = .returned (.int .u64 y) /\ w' = wx) := A2
   clear e1
   obtain ⟨p0, p1⟩ := powI_bd 2 64 q
   obtain ⟨m0, m1⟩ := mulI_bd x (powI 2 64 q) q
   have CP : Hid (∀ wx, Calls prog 61 #[.int .u64 2, .int .u64 64, .int .u64 q] wx fun e w' => e = .returned (.int .u64 (powI 2 64 q)) /\ ∃ n, w' = wx.drewN n) := fun wx => pow_any 2 64 q wx (by decide) (by decide) (by decide) (by decide)
   generalize powI 2 64 q = p at *
   have CM : Hid (∀ wx, Calls prog 72 #[.int .u64 x, .int .u64 p, .int .u64 q] wx fun e w' => e = .returned (.int .u64 (mulI x p q)) /\ ∃ n, w' = wx.drewN n) := fun wx => zcU x p q wx b0 b1 p0 (by omega)
   generalize mulI x p q = z at *
   have CA : Hid (∀ wx, Calls prog 71 #[.int .u64 z, .int .u64 y, .int .u64 q] wx fun e w' => e = .returned (.int .u64 (addI z y q)) /\ ∃ n, w' = wx.drewN n) := fun wx => zeg z y q wx m0 (by omega) d0 d1
   generalize addI z y q = r at *
   go_wp2_with (first
    | (go_at_call 145; refine (zgd w.heap.size w.heap.size _ _ HR.out.2 HR.out.1.size).mono ?_; rintro e w3 ⟨rfl, hbel⟩)
    | (go_at_call 144; refine (HC.out _).mono ?_; rintro e w4 ⟨rfl, ho4⟩))
   have HO : Hid (Old w w4) := (HR.out.1.thenBelow (Nat.le_refl _) hbel).trans ho4
   clear ho4 hbel
   go_quiet (first
    | (go_at_call_of 146 (Value.string (strOfNums h1)); exact Calls.quiet_of_same (A1.out _))
    | (go_at_call_of 146 (Value.string (strOfNums h2)); exact Calls.quiet_of_same (A2.out _)))
   go_wp2_with (first
    | (go_at_call 61; refine (CP.out _).mono ?_; rintro e w5 ⟨rfl, n5, hw5⟩)
    | (go_at_call 72; refine (CM.out _).mono ?_; rintro e w6 ⟨rfl, n6, hw6⟩)
    | (go_at_call 71; refine (CA.out _).mono ?_; rintro e w7 ⟨rfl, n7, hw7⟩))
   go_ret
   refine ⟨by rw [<- HV.out]; rfl, ?_⟩
   first
    | exact HO.out.drewN _
    | (rw [hw7, hw6, hw5]; exact (((HO.out.drewN _).drewN n5).drewN n6).drewN n7)
theorem pchal_any (label : List Int) (P Q G H : Int) (a : OA) (n cap : Nat) (bt : OA) (nt ct : Nat) (T : NI) (bb : OA) (nb cb : Nat) (BA : Nat -> Option Addr) (L C : Nat -> Nat) (B : NN) (bk : OA) (nk ck : Nat) (K : NI) (w : World) (h4 : Four P Q G H) (hlb : Bts label) (hll : label.length <= 1000) (mt : nt <= 80) (mb : nb <= 80) (mL : ∀ j, j < nb -> L j <= 80) (mk : nk <= 80) (hC : ClaimIn w bt nt ct T bb nb cb BA L C B) (hK : FacsIn w bk nk K) :
  Calls prog 129 #[gv P Q G H a n cap, .string (strOfNums label), cv bt nt ct bb nb cb, .slice bk nk ck] w fun e w' => e = .returned (.int .u64 (chI label P Q G H nt T nb L B nk K)) /\ Old w w' := by
 have HZ := lain2 w (gc P Q G H a n cap) (cc bt nt ct bb nb cb) 25 50
 have HT : Hid (∀ w', Old ((w.alloc (.cells (gc P Q G H a n cap) 25)).alloc (.cells (cc bt nt ct bb nb cb) 50)) w' -> G6 w' (w.heap.size) P Q G H (.slice a n cap) (w'.cell? ⟨w.heap.size + 1, 0, none⟩ = some (.slice bt nt ct) /\ w'.cell? ⟨w.heap.size + 1, 1, none⟩ = some (.slice bb nb cb))) := fun w' ho => by
  have h := HZ.then ho
  exact ⟨h.cell 0 0 (by simp) rfl, h.cell 0 1 (by simp) rfl, h.cell 0 2 (by simp) rfl, h.cell 0 3 (by simp) rfl, h.cell 0 4 (by simp) rfl, h.cell 1 0 (by simp) rfl, h.cell 1 1 (by simp) rfl⟩
 obtain ⟨S, hS⟩ : ∃ S : Nat -> List Int, S = partS P Q G H nt T nb L B nk K := ⟨_, rfl⟩
 have HSb : Hid (∀ i, Bts (S i)) := fun i => by rw [hS]; exact partS_bd _ _ _ _ _ _ _ _ _ _ _ i
 have hlen : ∀ i, (S i).length <= 640 := fun i => by rw [hS]; exact partS_len P Q G H T B K mt mL mk i
 have HN4 : Hid (∀ (wx wy : World) (t : TypeId), Old (wx.alloc (.cells #[.int .u64 P, .int .u64 Q, .int .u64 G, .int .u64 H] t)) wy -> Calls prog 147 #[.slice (some ⟨wx.heap.size, 0, none⟩) 4 4] wy fun e w' => e = .returned (.string (strOfNums (S 0))) /\ Old wy w') := fun wx wy t ho => (zcA _ 4 4 (four4 P Q G H) wy (by omega) ((facs_four wx P Q G H t h4).old ho)).mono fun e w' ⟨h, k⟩ => ⟨by rw [h, hS]; rfl, k⟩
 have HNt : Hid (∀ wx, Old w wx -> Calls prog 147 #[.slice bt nt ct] wx fun e w' => e = .returned (.string (strOfNums (S 1))) /\ Old wx w') := fun wx ho => (zcA bt nt ct T wx (by omega) (hC.tar.old ho)).mono fun e w' ⟨h, k⟩ => ⟨by rw [h, hS]; rfl, k⟩
 have HNr : Hid (∀ j wx, j < nb -> Old w wx -> Calls prog 147 #[.slice (BA j) (L j) (C j)] wx fun e w' => e = .returned (.string (strOfNums (S (j + 2)))) /\ Old wx w') := fun j wx hj ho => (zcA (BA j) (L j) (C j) (B j) wx (by have := mL j hj; omega) ((hC.bas.facs hj).old ho)).mono fun e w' ⟨h, k⟩ => ⟨by rw [h, hS, partS_row hj], k⟩
 have HNk : Hid (∀ wx, Old w wx -> Calls prog 147 #[.slice bk nk ck] wx fun e w' => e = .returned (.string (strOfNums (S (nb + 2)))) /\ Old wx w') := fun wx ho => (zcA bk nk ck K wx (by omega) (hK.old ho)).mono fun e w' ⟨h, k⟩ => ⟨by rw [h, hS, ze5], k⟩
 have HNu : Hid (∀ b c wx, StrsIn wx b (nb + 3) S -> Calls prog 128 #[.string (strOfNums label), .slice b (nb + 3) c, .int .u64 Q] wx fun e w' => e = .returned (.int .u64 (chI label P Q G H nt T nb L B nk K)) /\ Old wx w') := fun b c wx hs => (zd9 label b (nb + 3) c S Q wx hlb hs (by omega) (by have := numL_le (label := label) hlen (nb + 3); omega)).mono fun e w' ⟨h, k⟩ => ⟨by rw [h, hS]; rfl, k⟩
 have HB := hid hC.bas
 generalize chI label P Q G H nt T nb L B nk K = R at *
 clear hS hlen h4 hlb hll mL mk hC hK mt
 obtain ⟨i0, hi0, hz0, hz1, hz2⟩ := info_parts strinfo
 go_enter func129, ntmps129
 go_upto_region 1 with fail
 have HW0 := hid HZ.old
 generalize hW : (w.alloc (.cells (gc P Q G H a n cap) 25)).alloc (.cells (cc bt nt ct bb nb cb) 50) = W at *
 clear hW
 obtain ⟨d0, d1, d2, d3, d4, z0, z1⟩ := HT.out _ (Old.refl _)
 have hd : Old W W.drew := (Old.refl W).drew
 go_region_held3 (fun w' => w'.cell? ⟨w.heap.size, 0, none⟩ = some (.int .u64 P) /\ w'.cell? ⟨w.heap.size, 1, none⟩ = some (.int .u64 Q) /\ w'.cell? ⟨w.heap.size, 2, none⟩ = some (.int .u64 G) /\ w'.cell? ⟨w.heap.size, 3, none⟩ = some (.int .u64 H) /\ w'.cell? ⟨w.heap.size, 4, none⟩ = some (.slice a n cap) /\ w'.cell? ⟨w.heap.size + 1, 0, none⟩ = some (.slice bt nt ct) /\ w'.cell? ⟨w.heap.size + 1, 1, none⟩ = some (.slice bb nb cb)) (first | exact HT.out _ (h4.alloc _) | exact HT.out _ (hT.alloc _) | exact HT.out _ h4 | exact HT.out _ hT | exact HT.out _ (hd.alloc _) | exact HT.out _ hd) (first
  | (go_at_call_of 147 (Value.slice bt nt ct); refine (HNt.out _ (by first | exact HW0.out.trans h4 | exact HW0.out.trans (hd.alloc _) | exact HW0.out.trans hd)).mono ?_; rintro e wT ⟨rfl, oT⟩; have hT : Old W wT := (by first | exact h4.trans oT | exact (hd.alloc _).trans oT | exact hd.trans oT))
  | (go_at_call 147; refine (HN4.out _ _ _ (by first | exact Old.refl _ | exact oT | exact Old.drewAlloc _ _ | exact (Old.drewAlloc _ _).trans oT)).mono ?_; rintro e w4 ⟨rfl, o4⟩; have h4 : Old W w4 := (by first | exact (hT.alloc _).trans o4 | exact hT.trans o4 | exact (hd.alloc _).trans o4)))
 have HOw := hid (strs_two wT W.heap.size S hT.size)
 have HWl : Hid (Old W (wT.alloc (.cells #[.string (strOfNums (S 0)), .string (strOfNums (S 1))] 9))) := hT.alloc _
 generalize wT.alloc (.cells #[.string (strOfNums (S 0)), .string (strOfNums (S 1))] 9) = Wl at *
 clear d0 d1 d2 d3 d4 z0 z1
 go_upto_region 3 with fail
 go_loopw [9, 29] (fun pv iv wx => ∃ i : Nat, iv = .int .i64 (i : Int) /\ i <= nb /\ Hid (wx.ownsRow W.heap.size 9 1 pv (i + 2) (zah S (i + 2))) /\ Hid (Old W wx)) (fun _ iv _ => nb - (intOf iv).toNat)
 case atStart => exact ⟨0, rfl, Nat.zero_le _, HOw, HWl⟩
 case round =>
  obtain ⟨i, rfl, hi, HP, HW⟩ := hrel
  obtain ⟨d0, d1, d2, d3, d4, z0, z1⟩ := HT.out _ HW.out
  by_cases hlt : i < nb
  ·rcases HB.out with h0 | ⟨bx, ox, hqx, _, hrx⟩
   ·omega
   have cx := (HW0.out.trans HW.out).cellOf (hrx i hlt).1
   clear hrx
   subst hqx
   have HC := hid (HNr.out i wr hlt (HW0.out.trans HW.out))
   generalize hsi : S (i + 2) = Si at *
   have HSi := hid hsi
   clear hsi
   go_wp2_with (first
    | (go_at_call 147; refine HC.out.mono ?_; rintro e w1 ⟨rfl, o1⟩; have hs1 := (HW.out.trans o1).size)
    | (at_builtin; refine wpList_append_own _ rfl _ _ 143 rfl W.heap.size 9 i0 (.string ⟨#[]⟩) 1 16 U143 hi0 hz0 hz1 hz2 rfl (by decide) _ _ _ rfl ((zbr HP.out o1).alloc _) ⟨w1.heap.size, 0, none⟩ 1 1 [.string (strOfNums Si)] rfl rfl ?c1 ?c2 ?c3 ?c4 ?c5 ?_))
   case c1 => exact cell_one_new _ _ _
   case c2 => intro u hu; simp at hu; subst hu; rfl
   case c3 => unfold maxLen; omega
   case c4 => omega
   case c5 => simp; omega
   intro v' w2 hown' hgrow _
   have ho2 := hid (zcj (HW.out.trans o1) (zbr HP.out o1) hgrow)
   have hw2 : Hid (w2.ownsRow W.heap.size 9 1 v' (i + 1 + 2) (zah S (i + 1 + 2))) := by
    have e : zah S (i + 1 + 2) = zah S (i + 2) ++ [.string (strOfNums Si)] := by rw [<- HSi.out]; exact zbC S (i + 2)
    unfold Hid
    rw [e]
    exact hown'
   clear hown' hgrow
   go_wp2_with fail
   go_roundw
   case rel => exact ⟨i + 1, by first | exact zab i | exact zdd i, by omega, hw2, ho2⟩
   case measure => simp [intOf]; omega
  ·have he : nb = i := by omega
   subst he
   have HC := hid (HNk.out wr (HW0.out.trans HW.out))
   generalize hsi : S (nb + 2) = Si at *
   have HSi := hid hsi
   clear hsi
   go_upto_region 8 with (first
    | (go_at_call 147; refine HC.out.mono ?_; rintro e w1 ⟨rfl, o1⟩; have hs1 := (HW.out.trans o1).size)
    | (at_builtin; refine wpList_append_own _ rfl _ _ 143 rfl W.heap.size 9 i0 (.string ⟨#[]⟩) 1 16 U143 hi0 hz0 hz1 hz2 rfl (by decide) _ _ _ rfl ((zbr HP.out o1).alloc _) ⟨w1.heap.size, 0, none⟩ 1 1 [.string (strOfNums Si)] rfl rfl ?c1 ?c2 ?c3 ?c4 ?c5 ?_))
   case c1 => exact cell_one_new _ _ _
   case c2 => intro u hu; simp at hu; subst hu; rfl
   case c3 => unfold maxLen; omega
   case c4 => omega
   case c5 => simp; omega
   intro v' w2 hown' hgrow _
   have ho2 := hid (zcj (HW.out.trans o1) (zbr HP.out o1) hgrow)
   have hw2 : w2.ownsRow W.heap.size 9 1 v' (nb + 3) (zah S (nb + 3)) := by
    have e : zah S (nb + 3) = zah S (nb + 2) ++ [.string (strOfNums Si)] := by rw [<- HSi.out]; exact zbC S (nb + 2)
    rw [e]
    exact hown'
   obtain ⟨ba, bc, rfl, _, hst⟩ := own_strs hw2 (fun j _ => HSb.out j)
   have HN := hid (HNu.out ba bc w2 hst)
   clear hown' hgrow hw2 hst d0 d1 d2 d3 d4 z0 z1
   obtain ⟨d0, d1, d2, d3, d4, z0, z1⟩ := HT.out _ ho2.out
   go_wp2_with (go_at_call 128; refine HN.out.mono ?_; rintro e w3 ⟨rfl, o3⟩)
   go_ret
   exact ⟨rfl, (HW0.out.trans ho2.out).trans o3⟩
def askS (l : List Int) (K : Nat -> List Int) (B : NN) (L : Nat -> Nat) : Nat -> List Int := fun i => if i = 0 then l else if i < 4 then K (i - 1) else packL (B (i - 4)) (L (i - 4))
theorem zen {label : List Int} {S S' : Nat -> List Int} : ∀ {n : Nat}, (∀ i, i < n -> S i = S' i) -> numL label S n = numL label S' n
 | 0, _ => rfl
 | n + 1, h => by
  show numL label S n ++ (_ ++ _) = numL label S' n ++ (_ ++ _)
  rw [zen fun i hi => h i (by omega), h n (by omega)]
theorem zbf {label : List Int} {S S' : Nat -> List Int} {n : Nat} {Q : Int} (h : ∀ i, i < n -> S i = S' i) : zaj label S n Q = zaj label S' n Q := by
 unfold zaj
 rw [zen h]
theorem strs_one (w : World) (base : Nat) (S : Nat -> List Int) (hb : base <= w.heap.size) : (w.alloc (.cells #[.string (strOfNums (S 0))] 9)).ownsRow base 9 1 (.slice (some ⟨w.heap.size, 0, none⟩) 1 1) 1 (zah S 1) :=
 ⟨by simp [zah], Or.inr ⟨w.heap.size, 1, _, rfl, hb, heap_alloc_last w _, by omega, by unfold maxLen; omega, by simp, by simp [zah, List.range_succ]⟩⟩
theorem cells_four (S : Nat -> List Int) : zah S 4 = zah S 1 ++ [.string (strOfNums (S 1)), .string (strOfNums (S 2)), .string (strOfNums (S 3))] := rfl
theorem sak_any (l label : List Int) (K : Nat -> List Int) (Q : Int) (kb sb lb gb : Nat) (bl : OA) (m cl : Nat) (BA : Nat -> Option Addr) (L C : Nat -> Nat) (B : NN) (w : World) (hl : Bts l) (hll : l.length <= 640) (hK : ∀ i, i < 3 -> Bts (K i)) (hKl : ∀ i, (K i).length <= 640) (hlb : Bts label) (hlbl : label.length <= 1000) (hm : m <= 10) (hL : ∀ j, j < m -> L j <= 80)
  (hk : w.cell? ⟨kb, 0, none⟩ = some (.slice (some ⟨sb, 0, none⟩) 3 3)) (hs : ∀ i, i < 3 -> w.cell? ⟨sb, i, none⟩ = some (.string (strOfNums (K i)))) (hb : w.cell? ⟨lb, 0, none⟩ = some (.string (strOfNums label))) (hg : w.cell? ⟨gb, 1, none⟩ = some (.int .u64 Q)) (hB : ListsIn w bl m BA L C B) :
  Calls prog 127 #[.string (strOfNums l), .slice bl m cl, .pointer (some ⟨kb, 0, none⟩), .pointer (some ⟨lb, 0, none⟩), .pointer (some ⟨gb, 0, none⟩)] w fun e w' => e = .returned (.int .u64 (zaj label (askS l K B L) (m + 4) Q)) /\ Old w w' := by
 obtain ⟨S, hS⟩ : ∃ S : Nat -> List Int, S = fun i => if i < m + 4 then askS l K B L i else [] := ⟨_, rfl⟩
 have hSe : ∀ i, i < m + 4 -> S i = askS l K B L i := fun i hi => by rw [hS]; simp only; rw [if_pos hi]
 have HSb : Hid (∀ i, i < m + 4 -> Bts (S i)) := fun i hi => by
  rw [hSe i hi]
  unfold askS
  split
  ·exact hl
  ·split
   ·exact hK _ (by omega)
   ·exact zfr _ _
 have hlen : ∀ i, (S i).length <= 640 := fun i => by
  rw [hS]
  simp only
  split
  ·rename_i hi
   unfold askS
   split
   ·exact hll
   ·split
    ·exact hKl _
    ·rw [zar]; have := hL (i - 4) (by omega); omega
  ·simp
 have HNr : Hid (∀ j wx, j < m -> Old w wx -> Calls prog 126 #[.slice (BA j) (L j) (C j)] wx fun e w' => e = .returned (.string (strOfNums (S (j + 4)))) /\ Old wx w') := fun j wx hj ho => (zcD (BA j) (L j) (C j) (B j) wx (by have := hL j hj; omega) ((hB.facs hj).old ho)).mono fun e w' ⟨h, k⟩ => ⟨by rw [h, hSe _ (by omega)]; unfold askS; rw [if_neg (by omega), if_neg (by omega), show j + 4 - 4 = j by omega], k⟩
 have HNu : Hid (∀ b c wx, StrsIn wx b (m + 4) S -> Calls prog 128 #[.string (strOfNums label), .slice b (m + 4) c, .int .u64 Q] wx fun e w' => e = .returned (.int .u64 (zaj label (askS l K B L) (m + 4) Q)) /\ Old wx w') := fun b c wx hst => (zd9 label b (m + 4) c S Q wx hlb hst (by omega) (by have := numL_le (label := label) hlen (m + 4); omega)).mono fun e w' ⟨h, k⟩ => ⟨by rw [h, zbf hSe], k⟩
 have HT : Hid (∀ w', Old w w' -> w'.cell? ⟨kb, 0, none⟩ = some (.slice (some ⟨sb, 0, none⟩) 3 3) /\ w'.cell? ⟨lb, 0, none⟩ = some (.string (strOfNums label)) /\ w'.cell? ⟨gb, 1, none⟩ = some (.int .u64 Q)) := fun w' ho => ⟨ho.cellOf hk, ho.cellOf hb, ho.cellOf hg⟩
 have HK : Hid (∀ w' i, i < 3 -> Old w w' -> w'.cell? ⟨sb, i, none⟩ = some (.string (strOfNums (S (i + 1))))) := fun w' i hi ho => by
  rw [hSe (i + 1) (by omega)]
  unfold askS
  rw [if_neg (by omega), if_pos (by omega)]
  exact ho.cellOf (hs i hi)
 have HB := hid hB
 have hS0 : l = S 0 := by rw [hSe 0 (by omega)]; rfl
 generalize zaj label (askS l K B L) (m + 4) Q = R at *
 rw [hS0]
 clear hS hSe hlen hl hll hK hKl hlb hlbl hL hk hs hb hg hB hS0
 obtain ⟨i0, hi0, hz0, hz1, hz2⟩ := info_parts strinfo
 go_enter func127, ntmps127
 obtain ⟨d0, d1, d2⟩ := HT.out _ (Old.refl _)
 obtain ⟨z0, z1, z2⟩ := HT.out _ ((Old.refl w).alloc (.cells #[.string (strOfNums (S 0))] 9))
 go_wp2_with (at_builtin; refine wpList_append_own _ rfl _ _ 143 rfl w.heap.size 9 i0 (.string ⟨#[]⟩) 1 16 U143 hi0 hz0 hz1 hz2 rfl (by decide) _ _ _ rfl (strs_one w w.heap.size S (Nat.le_refl _)) ⟨sb, 0, none⟩ 3 3 [.string (strOfNums (S 1)), .string (strOfNums (S 2)), .string (strOfNums (S 3))] rfl rfl ?c1 ?c2 ?c3 ?c4 ?c5 ?_)
 case c1 =>
  have h := fun i hi => HK.out (w.alloc (.cells #[.string (strOfNums (S 0))] 9)) i hi ((Old.refl w).alloc _)
  intro j u hu
  match j, hu with
  | 0, hu => simp at hu; subst hu; exact h 0 (by omega)
  | 1, hu => simp at hu; subst hu; exact h 1 (by omega)
  | 2, hu => simp at hu; subst hu; exact h 2 (by omega)
  | j + 3, hu => simp at hu
 case c2 => intro u hu; simp at hu; rcases hu with rfl | rfl | rfl <;> rfl
 case c3 => unfold maxLen; omega
 case c4 => omega
 case c5 => simp
 intro v' w2 hown' hgrow _
 have HO2 : Hid (Old w w2) := ((Old.refl w).alloc _).grown hgrow fun b hb => by simp [Value.ownBlock] at hb; omega
 have HP2 : Hid (w2.ownsRow w.heap.size 9 1 v' (0 + 4) (zah S (0 + 4))) := by
  unfold Hid
  rw [Nat.zero_add, cells_four S]
  exact hown'
 clear hown' hgrow d0 d1 d2 z0 z1
 go_upto_region 3 with fail
 go_loopw [8, 17] (fun pv iv wx => ∃ i : Nat, iv = .int .i64 (i : Int) /\ i <= m /\ Hid (wx.ownsRow w.heap.size 9 1 pv (i + 4) (zah S (i + 4))) /\ Hid (Old w wx)) (fun _ iv _ => m - (intOf iv).toNat)
 case atStart => exact ⟨0, rfl, Nat.zero_le _, HP2, HO2⟩
 case round =>
  obtain ⟨i, rfl, hi, HP, HW⟩ := hrel
  by_cases hlt : i < m
  ·rcases HB.out with h0 | ⟨bx, ox, hqx, _, hrx⟩
   ·omega
   have cx := HW.out.cellOf (hrx i hlt).1
   clear hrx
   subst hqx
   have HC := hid (HNr.out i wr hlt HW.out)
   generalize hsi : S (i + 4) = Si at *
   have HSi := hid hsi
   clear hsi
   go_wp2_with (first
    | (go_at_call 126; refine HC.out.mono ?_; rintro e w1 ⟨rfl, o1⟩; have hs1 := (HW.out.trans o1).size)
    | (at_builtin; refine wpList_append_own _ rfl _ _ 143 rfl w.heap.size 9 i0 (.string ⟨#[]⟩) 1 16 U143 hi0 hz0 hz1 hz2 rfl (by decide) _ _ _ rfl ((zbr HP.out o1).alloc _) ⟨w1.heap.size, 0, none⟩ 1 1 [.string (strOfNums Si)] rfl rfl ?c1 ?c2 ?c3 ?c4 ?c5 ?_))
   case c1 => exact cell_one_new _ _ _
   case c2 => intro u hu; simp at hu; subst hu; rfl
   case c3 => unfold maxLen; omega
   case c4 => omega
   case c5 => simp; omega
   intro v' w2 hown' hgrow _
   have ho2 := hid (zcj (HW.out.trans o1) (zbr HP.out o1) hgrow)
   have hw2 : Hid (w2.ownsRow w.heap.size 9 1 v' (i + 1 + 4) (zah S (i + 1 + 4))) := by
    have e : zah S (i + 1 + 4) = zah S (i + 4) ++ [.string (strOfNums Si)] := by rw [<- HSi.out]; exact zbC S (i + 4)
    unfold Hid
    rw [e]
    exact hown'
   clear hown' hgrow
   go_wp2_with fail
   go_roundw
   case rel => exact ⟨i + 1, by first | exact zab i | exact zdd i, by omega, hw2, ho2⟩
   case measure => simp [intOf]; omega
  ·have he : m = i := by omega
   subst he
   obtain ⟨ba, bc, rfl, _, hst⟩ := own_strs HP.out HSb.out
   have HN := hid (HNu.out ba bc wr hst)
   obtain ⟨d0, d1, d2⟩ := HT.out _ HW.out
   clear hst HP HP2 HO2
   go_wp2_with (go_at_call 128; refine HN.out.mono ?_; rintro e w3 ⟨rfl, o3⟩)
   go_ret
   exact ⟨rfl, HW.out.trans o3⟩
def fiv8 (P Q G H y : Int) : Nat -> Int | 0 => P | 1 => Q | 2 => G | 3 => H | _ => y
theorem facs_fiv8 (w : World) (P Q G H y : Int) (t : TypeId) (h4 : Four P Q G H) (hy : U64 y) : FacsIn (w.alloc (.cells #[.int .u64 P, .int .u64 Q, .int .u64 G, .int .u64 H, .int .u64 y] t)) (some ⟨w.heap.size, 0, none⟩) 5 (fiv8 P Q G H y) := by
 refine Or.inr ⟨_, _, rfl, by simp, fun j hj => ?_⟩
 match j, hj with
 | 0, _ => exact ⟨(World.cell?_alloc_mark w _ t (0, 0) 0).trans rfl, h4.p0, h4.p1⟩
 | 1, _ => exact ⟨(World.cell?_alloc_mark w _ t (0, 0) 1).trans rfl, h4.q0, h4.q1⟩
 | 2, _ => exact ⟨(World.cell?_alloc_mark w _ t (0, 0) 2).trans rfl, h4.g0, h4.g1⟩
 | 3, _ => exact ⟨(World.cell?_alloc_mark w _ t (0, 0) 3).trans rfl, h4.h0, h4.h1⟩
 | 4, _ => exact ⟨(World.cell?_alloc_mark w _ t (0, 0) 4).trans rfl, hy.1, hy.2⟩
def knwS (P Q G H y : Int) (l : Nat) (C : NN) (no : Nat) (O : NN) : Nat -> List Int
 | 0 => packL (fiv8 P Q G H y) 5
 | 1 => packL (flatF C) (6 * l)
 | 2 => packL (flatF O) (6 * no)
 | _ => []
theorem knwS_bd (P Q G H y : Int) (l : Nat) (C : NN) (no : Nat) (O : NN) : ∀ i, i < 3 -> Bts (knwS P Q G H y l C no O i)
 | 0, _ => zfr _ _
 | 1, _ => zfr _ _
 | 2, _ => zfr _ _
theorem knwS_len (P Q G H y : Int) {l : Nat} (C : NN) {no : Nat} (O : NN) (hl : l <= 8) (hn : no <= 8) : ∀ i, (knwS P Q G H y l C no O i).length <= 640
 | 0 => by show (packL _ _).length <= _; rw [zar]; omega
 | 1 => by show (packL _ _).length <= _; rw [zar]; omega
 | 2 => by show (packL _ _).length <= _; rw [zar]; omega
 | _ + 3 => by show ([] : List Int).length <= _; simp
structure AskIn (w : World) (kb sb lb gb : Nat) (K : Nat -> List Int) (label : List Int) (Q : Int) : Prop where
 k : w.cell? ⟨kb, 0, none⟩ = some (.slice (some ⟨sb, 0, none⟩) 3 3)
 s : ∀ i, i < 3 -> w.cell? ⟨sb, i, none⟩ = some (.string (strOfNums (K i)))
 l : w.cell? ⟨lb, 0, none⟩ = some (.string (strOfNums label))
 g : w.cell? ⟨gb, 1, none⟩ = some (.int .u64 Q)
theorem AskIn.old {w w' : World} {kb sb lb gb : Nat} {K : Nat -> List Int} {label : List Int} {Q : Int} (h : AskIn w kb sb lb gb K label Q) (ho : Old w w') : AskIn w' kb sb lb gb K label Q := ⟨ho.cellOf h.k, fun i hi => ho.cellOf (h.s i hi), ho.cellOf h.l, ho.cellOf h.g⟩
def askV (kb lb gb : Nat) : Value := .func (.func 127) #[] #[.pointer (some ⟨kb, 0, none⟩), .pointer (some ⟨lb, 0, none⟩), .pointer (some ⟨gb, 0, none⟩)]
theorem zfb (P Q G H : Int) (a : OA) (m cap : Nat) (label : List Int) (y : Int) (bi : OA) (l ci : Nat) (C : NN) (bo : OA) (no co : Nat) (O : NN) (w : World) (h4 : Four P Q G H) (hy : U64 y) (hl : l <= 100) (hno : no <= 100) (hC : BoxsIn w bi l C) (hO : BoxsIn w bo no O) :
  Calls prog 89 #[gv P Q G H a m cap, .string (strOfNums label), .int .u64 y, .slice bi l ci, .slice bo no co] w fun e w' => Old w w' /\ ∃ kb sb lb gb, e = .returned (askV kb lb gb) /\ AskIn w' kb sb lb gb (knwS P Q G H y l C no O) label Q := by
 have HZ := lain2 w (gc P Q G H a m cap) #[.string (strOfNums label)] 25 9
 have HT0 : ∀ w', Old ((w.alloc (.cells (gc P Q G H a m cap) 25)).alloc (.cells #[.string (strOfNums label)] 9)) w' -> w'.cell? ⟨w.heap.size, 0, none⟩ = some (.int .u64 P) /\ w'.cell? ⟨w.heap.size, 1, none⟩ = some (.int .u64 Q) /\ w'.cell? ⟨w.heap.size, 2, none⟩ = some (.int .u64 G) /\ w'.cell? ⟨w.heap.size, 3, none⟩ = some (.int .u64 H) /\ w'.cell? ⟨w.heap.size + 1, 0, none⟩ = some (.string (strOfNums label)) := fun w' ho => by
  have h := HZ.then ho
  exact ⟨h.cell 0 0 (by simp) rfl, h.cell 0 1 (by simp) rfl, h.cell 0 2 (by simp) rfl, h.cell 0 3 (by simp) rfl, h.cell 1 0 (by simp) rfl⟩
 have HW0 : Hid (Old w ((w.alloc (.cells (gc P Q G H a m cap) 25)).alloc (.cells #[.string (strOfNums label)] 9))) := HZ.old
 obtain ⟨S, hS⟩ : ∃ S, S = knwS P Q G H y l C no O := ⟨_, rfl⟩
 have HA : Hid (∀ (wx wy : World) (t : TypeId), Old (wx.alloc (.cells #[.int .u64 P, .int .u64 Q, .int .u64 G, .int .u64 H, .int .u64 y] t)) wy -> Calls prog 126 #[.slice (some ⟨wx.heap.size, 0, none⟩) 5 5] wy (Ret wy (.string (strOfNums (S 0))))) := fun wx wy t ho => by rw [hS]; exact zcD _ 5 5 (fiv8 P Q G H y) wy (by omega) ((facs_fiv8 wx P Q G H y t h4 hy).old ho)
 have HN1 : Hid (∀ wx, Old w wx -> Calls prog 104 #[.slice bi l ci] wx fun e w' => Old wx w' /\ ∃ b c, e = .returned (.slice b (6 * l) c) /\ FacsIn w' b (6 * l) (flatF C)) := fun wx ho => (zfP bi l ci C wx (by omega) (hC.old ho)).mono fun e w' ⟨k, v, he, hN⟩ => by
  obtain ⟨b, c, rfl, _, hf⟩ := hN.facs (flat_u64 hC)
  exact ⟨k, b, c, he, hf⟩
 have HN2 : Hid (∀ wx, Old w wx -> Calls prog 104 #[.slice bo no co] wx fun e w' => Old wx w' /\ ∃ b c, e = .returned (.slice b (6 * no) c) /\ FacsIn w' b (6 * no) (flatF O)) := fun wx ho => (zfP bo no co O wx (by omega) (hO.old ho)).mono fun e w' ⟨k, v, he, hN⟩ => by
  obtain ⟨b, c, rfl, _, hf⟩ := hN.facs (flat_u64 hO)
  exact ⟨k, b, c, he, hf⟩
 have HB1 : Hid (∀ wx b c, FacsIn wx b (6 * l) (flatF C) -> Calls prog 126 #[.slice b (6 * l) c] wx (Ret wx (.string (strOfNums (S 1))))) := fun wx b c hf => by rw [hS]; exact zcD b (6 * l) c (flatF C) wx (by omega) hf
 have HB2 : Hid (∀ wx b c, FacsIn wx b (6 * no) (flatF O) -> Calls prog 126 #[.slice b (6 * no) c] wx (Ret wx (.string (strOfNums (S 2))))) := fun wx b c hf => by rw [hS]; exact zcD b (6 * no) c (flatF O) wx (by omega) hf
 rw [<- hS]
 clear HZ hS h4 hy hl hno hC hO
 go_enter func89, ntmps89
 go_upto_region 1 with fail
 generalize (w.alloc (.cells (gc P Q G H a m cap) 25)).alloc (.cells #[.string (strOfNums label)] 9) = W at *
 generalize w.heap.size = gb at *
 have HT := hid HT0
 clear HT0
 obtain ⟨x0, x1, x2, x3, x4⟩ := HT.out _ (Old.refl _)
 have hmf : ∀ (fn : Fn) (first cap : Array Value) (w : World), (Instr.makeFunc fn first cap).run prog w = .ok (.func fn first cap) w := fun _ _ _ _ => rfl
 have HWl : Hid (Old W (W.alloc (.cells #[.int .u64 P, .int .u64 Q, .int .u64 G, .int .u64 H, .int .u64 y] 22))) := (Old.refl _).alloc _
 go_upto_region 2 with (first
  | (have hg := hN2; clear hg; go_at_call 126; refine (HB2.out _ _ _ hf2).mono ?_; rintro e w5 ⟨rfl, o5⟩; have h5 : Hid (Old W w5) := hN2.out.trans o5)
  | (have hg := hA2; clear hg; go_at_call 104; refine (HN2.out _ (HW0.out.trans hA2.out)).mono ?_; rintro e w4 ⟨o4, b2, c2, rfl, hf2⟩; have hN2 : Hid (Old W w4) := hA2.out.trans o4)
  | (have hg := hN1; clear hg; go_at_call 126; refine (HB1.out _ _ _ hf1).mono ?_; rintro e w3 ⟨rfl, o3⟩; have hA2 : Hid (Old W w3) := hN1.out.trans o3)
  | (have hg := hA1; clear hg; go_at_call 104; refine (HN1.out _ (HW0.out.trans hA1.out)).mono ?_; rintro e w2 ⟨o2, b1, c1, rfl, hf1⟩; have hN1 : Hid (Old W w2) := hA1.out.trans o2)
  | (go_at_call 126; refine (HA.out _ _ _ (Old.refl _)).mono ?_; rintro e w1 ⟨rfl, o1⟩; have hA1 : Hid (Old W w1) := HWl.out.trans o1))
 have HR1 : ((w5.alloc (.cells #[.string (strOfNums (S 0)), .string (strOfNums (S 1)), .string (strOfNums (S 2))] 9)).alloc (.cells #[.slice (some ⟨w5.heap.size, 0, none⟩) 3 3] 143)).heap[w5.heap.size]? = some (.cells #[.string (strOfNums (S 0)), .string (strOfNums (S 1)), .string (strOfNums (S 2))] 9 (0, 0)) := (((Old.refl _).alloc _).block _ (by simp)).trans (heap_alloc_last _ _)
 have HR2 : ((w5.alloc (.cells #[.string (strOfNums (S 0)), .string (strOfNums (S 1)), .string (strOfNums (S 2))] 9)).alloc (.cells #[.slice (some ⟨w5.heap.size, 0, none⟩) 3 3] 143)).heap[w5.heap.size + 1]? = some (.cells #[.slice (some ⟨w5.heap.size, 0, none⟩) 3 3] 143 (0, 0)) := by
  have := heap_alloc_last (w5.alloc (.cells #[.string (strOfNums (S 0)), .string (strOfNums (S 1)), .string (strOfNums (S 2))] 9)) (.cells #[.slice (some ⟨w5.heap.size, 0, none⟩) 3 3] 143)
  rwa [show (w5.alloc (.cells #[.string (strOfNums (S 0)), .string (strOfNums (S 1)), .string (strOfNums (S 2))] 9)).heap.size = w5.heap.size + 1 by simp] at this
 have HO6 : Old W ((w5.alloc (.cells #[.string (strOfNums (S 0)), .string (strOfNums (S 1)), .string (strOfNums (S 2))] 9)).alloc (.cells #[.slice (some ⟨w5.heap.size, 0, none⟩) 3 3] 143)) := (h5.out.alloc _).alloc _
 have HE : Hid (Old w ((w5.alloc (.cells #[.string (strOfNums (S 0)), .string (strOfNums (S 1)), .string (strOfNums (S 2))] 9)).alloc (.cells #[.slice (some ⟨w5.heap.size, 0, none⟩) 3 3] 143)) /\ AskIn ((w5.alloc (.cells #[.string (strOfNums (S 0)), .string (strOfNums (S 1)), .string (strOfNums (S 2))] 9)).alloc (.cells #[.slice (some ⟨w5.heap.size, 0, none⟩) 3 3] 143)) (w5.heap.size + 1) w5.heap.size (gb + 1) gb S label Q) := by
  obtain ⟨y0, y1, y2, y3, y4⟩ := HT.out _ HO6
  refine ⟨HW0.out.trans HO6, (Y0 HR2).trans rfl, fun i hi => ?_, y4, y1⟩
  rw [cell_of_row _ _ i _ _ (0, 0) HR1]
  match i, hi with
  | 0, _ => rfl
  | 1, _ => rfl
  | 2, _ => rfl
 clear HR1 HR2 HO6
 go_wp2_with fail
 go_ret
 exact ⟨HE.out.1, _, _, _, _, rfl, HE.out.2⟩
def fitB (l no na nb np : Nat) : Bool := cnt8 l && decide (no = l) && decide (na = l) && decide (nb = l) && decide (np = l)
theorem zfS {l no na nb np : Nat} : fitB l no na nb np = true ↔ (1 <= l /\ l <= 8) /\ no = l /\ na = l /\ nb = l /\ np = l := by
 unfold fitB
 simp only [Bool.and_eq_true_iff, cnt8_iff, decide_eq_true_eq, and_assoc]
theorem zcF (bi : OA) (l ci : Nat) (bo : OA) (no co : Nat) (ba : OA) (na ca : Nat) (X : Int) (bb : OA) (nb cb : Nat) (Y Z : Int) (bp : OA) (np cp : Nat) (w : World) (hl : l <= 9223372036854775807) :
  Calls prog 79 #[.slice bi l ci, .slice bo no co, tk ba na ca X bb nb cb Y Z bp np cp] w (Ret w (.bool (fitB l no na nb np))) := by
 have HW0 : Hid (Old w (w.alloc (.cells (tkc ba na ca X bb nb cb Y Z bp np cp) 41))) := (Old.refl _).alloc _
 have HR0 : Hid ((w.alloc (.cells (tkc ba na ca X bb nb cb Y Z bp np cp) 41)).heap[w.heap.size]? = some (.cells (tkc ba na ca X bb nb cb Y Z bp np cp) 41 (0, 0))) := heap_alloc_last _ _
 have HCn : ∀ wx, Calls prog 102 #[.int .i64 (l : Int)] wx fun e w' => e = .returned (.bool (cnt8 l)) /\ w' = wx := fun wx => zgn l wx hl
 cases hc : cnt8 l with
 | false =>
  have HV : Hid (fitB l no na nb np = false) := by unfold Hid fitB; rw [hc]; simp
  rw [hc] at HCn
  have HCn := hid HCn
  go_enter func79, ntmps79
  go_upto_region 1 with fail
  generalize w.alloc (.cells (tkc ba na ca X bb nb cb Y Z bp np cp) 41) = W1 at *
  have c0 : W1.cell? ⟨w.heap.size, 0, none⟩ = some (.slice ba na ca) := Y0 HR0.out
  have c2 : W1.cell? ⟨w.heap.size, 2, none⟩ = some (.slice bb nb cb) := Y2 HR0.out
  have c5 : W1.cell? ⟨w.heap.size, 5, none⟩ = some (.slice bp np cp) := Y5 HR0.out
  generalize w.heap.size = gb at *
  go_wp2_with (go_at_call 102; refine (HCn.out _).mono ?_; rintro e w1 ⟨rfl, rfl⟩)
  go_ret
  exact ⟨by rw [HV.out]; first | rfl | (show Ending.returned (.bool ((np : Int) == (l : Int))) = _; rw [show ((np : Int) == (l : Int)) = false by simpa using nnp]), HW0.out⟩
 | true =>
  rw [hc] at HCn
  have HCn := hid HCn
  by_cases hno : l = no
  case neg =>
   have mno : ¬ no = l := fun h => hno h.symm
   have HV : Hid (fitB l no na nb np = false) := by unfold Hid fitB; simp [mno]
   have nno : ¬ (no : Int) = (l : Int) := by omega
   clear hno mno
   go_enter func79, ntmps79
   go_upto_region 1 with fail
   generalize w.alloc (.cells (tkc ba na ca X bb nb cb Y Z bp np cp) 41) = W1 at *
   have c0 : W1.cell? ⟨w.heap.size, 0, none⟩ = some (.slice ba na ca) := Y0 HR0.out
   have c2 : W1.cell? ⟨w.heap.size, 2, none⟩ = some (.slice bb nb cb) := Y2 HR0.out
   have c5 : W1.cell? ⟨w.heap.size, 5, none⟩ = some (.slice bp np cp) := Y5 HR0.out
   generalize w.heap.size = gb at *
   go_wp2_with (go_at_call 102; refine (HCn.out _).mono ?_; rintro e w1 ⟨rfl, rfl⟩)
   go_ret
   exact ⟨by rw [HV.out]; first | rfl | (show Ending.returned (.bool ((np : Int) == (l : Int))) = _; rw [show ((np : Int) == (l : Int)) = false by simpa using nnp]), HW0.out⟩
  subst hno
  by_cases hna : l = na
  case neg =>
   have mna : ¬ na = l := fun h => hna h.symm
   have HV : Hid (fitB l l na nb np = false) := by unfold Hid fitB; simp [mna]
   have nna : ¬ (na : Int) = (l : Int) := by omega
   clear hna mna
   go_enter func79, ntmps79
   go_upto_region 1 with fail
   generalize w.alloc (.cells (tkc ba na ca X bb nb cb Y Z bp np cp) 41) = W1 at *
   have c0 : W1.cell? ⟨w.heap.size, 0, none⟩ = some (.slice ba na ca) := Y0 HR0.out
   have c2 : W1.cell? ⟨w.heap.size, 2, none⟩ = some (.slice bb nb cb) := Y2 HR0.out
   have c5 : W1.cell? ⟨w.heap.size, 5, none⟩ = some (.slice bp np cp) := Y5 HR0.out
   generalize w.heap.size = gb at *
   go_wp2_with (go_at_call 102; refine (HCn.out _).mono ?_; rintro e w1 ⟨rfl, rfl⟩)
   go_ret
   exact ⟨by rw [HV.out]; first | rfl | (show Ending.returned (.bool ((np : Int) == (l : Int))) = _; rw [show ((np : Int) == (l : Int)) = false by simpa using nnp]), HW0.out⟩
  subst hna
  by_cases hnb : l = nb
  case neg =>
   have mnb : ¬ nb = l := fun h => hnb h.symm
   have HV : Hid (fitB l l l nb np = false) := by unfold Hid fitB; simp [mnb]
   have nnb : ¬ (nb : Int) = (l : Int) := by omega
   clear hnb mnb
   go_enter func79, ntmps79
   go_upto_region 1 with fail
   generalize w.alloc (.cells (tkc ba l ca X bb nb cb Y Z bp np cp) 41) = W1 at *
   have c0 : W1.cell? ⟨w.heap.size, 0, none⟩ = some (.slice ba l ca) := Y0 HR0.out
   have c2 : W1.cell? ⟨w.heap.size, 2, none⟩ = some (.slice bb nb cb) := Y2 HR0.out
   have c5 : W1.cell? ⟨w.heap.size, 5, none⟩ = some (.slice bp np cp) := Y5 HR0.out
   generalize w.heap.size = gb at *
   go_wp2_with (go_at_call 102; refine (HCn.out _).mono ?_; rintro e w1 ⟨rfl, rfl⟩)
   go_ret
   exact ⟨by rw [HV.out]; first | rfl | (show Ending.returned (.bool ((np : Int) == (l : Int))) = _; rw [show ((np : Int) == (l : Int)) = false by simpa using nnp]), HW0.out⟩
  subst hnb
  by_cases hnp : l = np
  case neg =>
   have mnp : ¬ np = l := fun h => hnp h.symm
   have HV : Hid (fitB l l l l np = false) := by unfold Hid fitB; simp [mnp]
   have nnp : ¬ (np : Int) = (l : Int) := by omega
   clear hnp mnp
   go_enter func79, ntmps79
   go_upto_region 1 with fail
   generalize w.alloc (.cells (tkc ba l ca X bb l cb Y Z bp np cp) 41) = W1 at *
   have c0 : W1.cell? ⟨w.heap.size, 0, none⟩ = some (.slice ba l ca) := Y0 HR0.out
   have c2 : W1.cell? ⟨w.heap.size, 2, none⟩ = some (.slice bb l cb) := Y2 HR0.out
   have c5 : W1.cell? ⟨w.heap.size, 5, none⟩ = some (.slice bp np cp) := Y5 HR0.out
   generalize w.heap.size = gb at *
   go_wp2_with (go_at_call 102; refine (HCn.out _).mono ?_; rintro e w1 ⟨rfl, rfl⟩)
   go_ret
   exact ⟨by rw [HV.out]; first | rfl | (show Ending.returned (.bool ((np : Int) == (l : Int))) = _; rw [show ((np : Int) == (l : Int)) = false by simpa using nnp]), HW0.out⟩
  subst hnp
  have HV : Hid (fitB l l l l l = true) := by unfold Hid fitB; simp [hc]
  go_enter func79, ntmps79
  go_upto_region 1 with fail
  generalize w.alloc (.cells (tkc ba l ca X bb l cb Y Z bp l cp) 41) = W1 at *
  have c0 : W1.cell? ⟨w.heap.size, 0, none⟩ = some (.slice ba l ca) := Y0 HR0.out
  have c2 : W1.cell? ⟨w.heap.size, 2, none⟩ = some (.slice bb l cb) := Y2 HR0.out
  have c5 : W1.cell? ⟨w.heap.size, 5, none⟩ = some (.slice bp l cp) := Y5 HR0.out
  generalize w.heap.size = gb at *
  go_wp2_with (go_at_call 102; refine (HCn.out _).mono ?_; rintro e w1 ⟨rfl, rfl⟩)
  go_ret
  exact ⟨by rw [HV.out]; first | rfl | (show Ending.returned (.bool ((l : Int) == (l : Int))) = _; rw [show ((l : Int) == (l : Int)) = false by simpa using nnp]), HW0.out⟩
def eltB (P Q y : Int) (l : Nat) (C : NN) (no : Nat) (O : NN) (na : Nat) (A : NI) (nb : Nat) (B : NI) (np : Nat) (Pp : NI) : Bool := inI P Q y && batB P Q l C && batB P Q no O && elB P Q na A && elB P Q nb B && elB P Q np Pp
theorem eltB_iff {P Q y : Int} {l : Nat} {C : NN} {no : Nat} {O : NN} {na : Nat} {A : NI} {nb : Nat} {B : NI} {np : Nat} {Pp : NI} : eltB P Q y l C no O na A nb B np Pp = true ↔ inI P Q y = true /\ batB P Q l C = true /\ batB P Q no O = true /\ elB P Q na A = true /\ elB P Q nb B = true /\ elB P Q np Pp = true := by
 unfold eltB
 simp only [Bool.and_eq_true_iff, and_assoc]
theorem sallel_any (P Q G H : Int) (a : OA) (m cap : Nat) (y : Int) (bi : OA) (l ci : Nat) (C : NN) (bo : OA) (no co : Nat) (O : NN) (ba : OA) (na ca : Nat) (A : NI) (X : Int) (bb : OA) (nb cb : Nat) (B : NI) (Y Z : Int) (bp : OA) (np cp : Nat) (Pp : NI) (w : World) (h4 : Four P Q G H) (hy : U64 y) (hl : l <= 1000) (hno : no <= 1000) (hC : BoxsIn w bi l C) (hO : BoxsIn w bo no O) (hna : na <= 1000) (hnb : nb <= 1000) (hnp : np <= 1000) (hA : FacsIn w ba na A) (hB : FacsIn w bb nb B) (hP : FacsIn w bp np Pp) :
  Calls prog 80 #[gv P Q G H a m cap, .int .u64 y, .slice bi l ci, .slice bo no co, tk ba na ca X bb nb cb Y Z bp np cp] w (Ret w (.bool (eltB P Q y l C no O na A nb B np Pp))) := by
 have HZ := lain2 w (gc P Q G H a m cap) (tkc ba na ca X bb nb cb Y Z bp np cp) 25 41
 have HG0 := fun w' ho => (HZ.then (W' := w') ho).row 0 (by simp)
 have HT0 := fun w' ho => (HZ.then (W' := w') ho).row 1 (by simp)
 have HW0 := hid HZ.old
 clear HZ
 have HIn := hid fun wx (_ : Old w wx) => gin0 P Q G H y a m cap wx h4.q0 h4.q1 hy.2
 have HBi := hid fun wx (ho : Old w wx) => zdB P Q G H a m cap bi l ci C wx h4 hl (hC.old ho)
 have HBo := hid fun wx (ho : Old w wx) => zdB P Q G H a m cap bo no co O wx h4 hno (hO.old ho)
 have HEA := hid fun wx (ho : Old w wx) => zdY P Q G H a m cap ba na ca A wx h4 (by omega) (hA.old ho)
 have HEB := hid fun wx (ho : Old w wx) => zdY P Q G H a m cap bb nb cb B wx h4 (by omega) (hB.old ho)
 have HEP := hid fun wx (ho : Old w wx) => zdY P Q G H a m cap bp np cp Pp wx h4 (by omega) (hP.old ho)
 clear h4 hy hl hno hC hO hna hnb hnp hA hB hP
 cases hIn : inI P Q y with
 | false =>
  have HV : Hid (eltB P Q y l C no O na A nb B np Pp = false) := by unfold Hid eltB; simp [hIn]
  rw [hIn] at HIn
  go_enter func80, ntmps80
  go_upto_region 1 with fail
  generalize (w.alloc (.cells (gc P Q G H a m cap) 25)).alloc (.cells (tkc ba na ca X bb nb cb Y Z bp np cp) 41) = W1 at *
  have HG : Hid (∀ wx, Old W1 wx -> wx.heap[w.heap.size]? = some (.cells (gc P Q G H a m cap) 25 (0, 0))) := HG0
  have HT : Hid (∀ wx, Old W1 wx -> wx.heap[w.heap.size + 1]? = some (.cells (tkc ba na ca X bb nb cb Y Z bp np cp) 41 (0, 0))) := HT0
  clear HG0 HT0
  have HS := g8 HG.out HT.out
  clear HG HT
  generalize w.heap.size = gb at *
  have O0 : Hid (Old W1 W1) := Old.refl _
  obtain ⟨x0, x1, x2, x3, x4, x5, x6, x7⟩ := HS.out _ O0.out
  go_wp2_with (first
   | (go_at_call 52; refine (HIn.out _ (HW0.out.trans O0.out)).mono ?_; rintro e w1 ⟨rfl, o⟩; have O1 : Hid (Old W1 w1) := O0.out.trans o; clear o; clear x0 x1 x2 x3 x4 x5 x6 x7; obtain ⟨x0, x1, x2, x3, x4, x5, x6, x7⟩ := HS.out _ O1.out))
  go_ret
  exact ⟨by rw [HV.out]; rfl, HW0.out.trans O1.out⟩
 | true =>
  rw [hIn] at HIn
  cases hBi : batB P Q l C with
  | false =>
   have HV : Hid (eltB P Q y l C no O na A nb B np Pp = false) := by unfold Hid eltB; simp [hBi]
   rw [hBi] at HBi
   go_enter func80, ntmps80
   go_upto_region 1 with fail
   generalize (w.alloc (.cells (gc P Q G H a m cap) 25)).alloc (.cells (tkc ba na ca X bb nb cb Y Z bp np cp) 41) = W1 at *
   have HG : Hid (∀ wx, Old W1 wx -> wx.heap[w.heap.size]? = some (.cells (gc P Q G H a m cap) 25 (0, 0))) := HG0
   have HT : Hid (∀ wx, Old W1 wx -> wx.heap[w.heap.size + 1]? = some (.cells (tkc ba na ca X bb nb cb Y Z bp np cp) 41 (0, 0))) := HT0
   clear HG0 HT0
   have HS := g8 HG.out HT.out
   clear HG HT
   generalize w.heap.size = gb at *
   have O0 : Hid (Old W1 W1) := Old.refl _
   obtain ⟨x0, x1, x2, x3, x4, x5, x6, x7⟩ := HS.out _ O0.out
   go_wp2_with (first
    | (go_at_call 51; refine (HBi.out _ (HW0.out.trans O1.out)).mono ?_; rintro e w2 ⟨rfl, o⟩; have O2 : Hid (Old W1 w2) := O1.out.trans o; clear o; clear x0 x1 x2 x3 x4 x5 x6 x7; obtain ⟨x0, x1, x2, x3, x4, x5, x6, x7⟩ := HS.out _ O2.out)
    | (go_at_call 52; refine (HIn.out _ (HW0.out.trans O0.out)).mono ?_; rintro e w1 ⟨rfl, o⟩; have O1 : Hid (Old W1 w1) := O0.out.trans o; clear o; clear x0 x1 x2 x3 x4 x5 x6 x7; obtain ⟨x0, x1, x2, x3, x4, x5, x6, x7⟩ := HS.out _ O1.out))
   go_ret
   exact ⟨by rw [HV.out]; rfl, HW0.out.trans O2.out⟩
  | true =>
   rw [hBi] at HBi
   cases hBo : batB P Q no O with
   | false =>
    have HV : Hid (eltB P Q y l C no O na A nb B np Pp = false) := by unfold Hid eltB; simp [hBo]
    rw [hBo] at HBo
    go_enter func80, ntmps80
    go_upto_region 1 with fail
    generalize (w.alloc (.cells (gc P Q G H a m cap) 25)).alloc (.cells (tkc ba na ca X bb nb cb Y Z bp np cp) 41) = W1 at *
    have HG : Hid (∀ wx, Old W1 wx -> wx.heap[w.heap.size]? = some (.cells (gc P Q G H a m cap) 25 (0, 0))) := HG0
    have HT : Hid (∀ wx, Old W1 wx -> wx.heap[w.heap.size + 1]? = some (.cells (tkc ba na ca X bb nb cb Y Z bp np cp) 41 (0, 0))) := HT0
    clear HG0 HT0
    have HS := g8 HG.out HT.out
    clear HG HT
    generalize w.heap.size = gb at *
    have O0 : Hid (Old W1 W1) := Old.refl _
    obtain ⟨x0, x1, x2, x3, x4, x5, x6, x7⟩ := HS.out _ O0.out
    go_wp2_with (first
     | (go_at_call 51; refine (HBo.out _ (HW0.out.trans O2.out)).mono ?_; rintro e w3 ⟨rfl, o⟩; have O3 : Hid (Old W1 w3) := O2.out.trans o; clear o; clear x0 x1 x2 x3 x4 x5 x6 x7; obtain ⟨x0, x1, x2, x3, x4, x5, x6, x7⟩ := HS.out _ O3.out)
     | (go_at_call 51; refine (HBi.out _ (HW0.out.trans O1.out)).mono ?_; rintro e w2 ⟨rfl, o⟩; have O2 : Hid (Old W1 w2) := O1.out.trans o; clear o; clear x0 x1 x2 x3 x4 x5 x6 x7; obtain ⟨x0, x1, x2, x3, x4, x5, x6, x7⟩ := HS.out _ O2.out)
     | (go_at_call 52; refine (HIn.out _ (HW0.out.trans O0.out)).mono ?_; rintro e w1 ⟨rfl, o⟩; have O1 : Hid (Old W1 w1) := O0.out.trans o; clear o; clear x0 x1 x2 x3 x4 x5 x6 x7; obtain ⟨x0, x1, x2, x3, x4, x5, x6, x7⟩ := HS.out _ O1.out))
    go_ret
    exact ⟨by rw [HV.out]; rfl, HW0.out.trans O3.out⟩
   | true =>
    rw [hBo] at HBo
    cases hEA : elB P Q na A with
    | false =>
     have HV : Hid (eltB P Q y l C no O na A nb B np Pp = false) := by unfold Hid eltB; simp [hEA]
     rw [hEA] at HEA
     go_enter func80, ntmps80
     go_upto_region 1 with fail
     generalize (w.alloc (.cells (gc P Q G H a m cap) 25)).alloc (.cells (tkc ba na ca X bb nb cb Y Z bp np cp) 41) = W1 at *
     have HG : Hid (∀ wx, Old W1 wx -> wx.heap[w.heap.size]? = some (.cells (gc P Q G H a m cap) 25 (0, 0))) := HG0
     have HT : Hid (∀ wx, Old W1 wx -> wx.heap[w.heap.size + 1]? = some (.cells (tkc ba na ca X bb nb cb Y Z bp np cp) 41 (0, 0))) := HT0
     clear HG0 HT0
     have HS := g8 HG.out HT.out
     clear HG HT
     generalize w.heap.size = gb at *
     have O0 : Hid (Old W1 W1) := Old.refl _
     obtain ⟨x0, x1, x2, x3, x4, x5, x6, x7⟩ := HS.out _ O0.out
     go_wp2_with (first
      | (go_at_call 103; refine (HEA.out _ (HW0.out.trans O3.out)).mono ?_; rintro e w4 ⟨rfl, o⟩; have O4 : Hid (Old W1 w4) := O3.out.trans o; clear o; clear x0 x1 x2 x3 x4 x5 x6 x7; obtain ⟨x0, x1, x2, x3, x4, x5, x6, x7⟩ := HS.out _ O4.out)
      | (go_at_call 51; refine (HBo.out _ (HW0.out.trans O2.out)).mono ?_; rintro e w3 ⟨rfl, o⟩; have O3 : Hid (Old W1 w3) := O2.out.trans o; clear o; clear x0 x1 x2 x3 x4 x5 x6 x7; obtain ⟨x0, x1, x2, x3, x4, x5, x6, x7⟩ := HS.out _ O3.out)
      | (go_at_call 51; refine (HBi.out _ (HW0.out.trans O1.out)).mono ?_; rintro e w2 ⟨rfl, o⟩; have O2 : Hid (Old W1 w2) := O1.out.trans o; clear o; clear x0 x1 x2 x3 x4 x5 x6 x7; obtain ⟨x0, x1, x2, x3, x4, x5, x6, x7⟩ := HS.out _ O2.out)
      | (go_at_call 52; refine (HIn.out _ (HW0.out.trans O0.out)).mono ?_; rintro e w1 ⟨rfl, o⟩; have O1 : Hid (Old W1 w1) := O0.out.trans o; clear o; clear x0 x1 x2 x3 x4 x5 x6 x7; obtain ⟨x0, x1, x2, x3, x4, x5, x6, x7⟩ := HS.out _ O1.out))
     go_ret
     exact ⟨by rw [HV.out]; rfl, HW0.out.trans O4.out⟩
    | true =>
     rw [hEA] at HEA
     cases hEB : elB P Q nb B with
     | false =>
      have HV : Hid (eltB P Q y l C no O na A nb B np Pp = false) := by unfold Hid eltB; simp [hEB]
      rw [hEB] at HEB
      go_enter func80, ntmps80
      go_upto_region 1 with fail
      generalize (w.alloc (.cells (gc P Q G H a m cap) 25)).alloc (.cells (tkc ba na ca X bb nb cb Y Z bp np cp) 41) = W1 at *
      have HG : Hid (∀ wx, Old W1 wx -> wx.heap[w.heap.size]? = some (.cells (gc P Q G H a m cap) 25 (0, 0))) := HG0
      have HT : Hid (∀ wx, Old W1 wx -> wx.heap[w.heap.size + 1]? = some (.cells (tkc ba na ca X bb nb cb Y Z bp np cp) 41 (0, 0))) := HT0
      clear HG0 HT0
      have HS := g8 HG.out HT.out
      clear HG HT
      generalize w.heap.size = gb at *
      have O0 : Hid (Old W1 W1) := Old.refl _
      obtain ⟨x0, x1, x2, x3, x4, x5, x6, x7⟩ := HS.out _ O0.out
      go_wp2_with (first
       | (go_at_call 103; refine (HEB.out _ (HW0.out.trans O4.out)).mono ?_; rintro e w5 ⟨rfl, o⟩; have O5 : Hid (Old W1 w5) := O4.out.trans o; clear o; clear x0 x1 x2 x3 x4 x5 x6 x7; obtain ⟨x0, x1, x2, x3, x4, x5, x6, x7⟩ := HS.out _ O5.out)
       | (go_at_call 103; refine (HEA.out _ (HW0.out.trans O3.out)).mono ?_; rintro e w4 ⟨rfl, o⟩; have O4 : Hid (Old W1 w4) := O3.out.trans o; clear o; clear x0 x1 x2 x3 x4 x5 x6 x7; obtain ⟨x0, x1, x2, x3, x4, x5, x6, x7⟩ := HS.out _ O4.out)
       | (go_at_call 51; refine (HBo.out _ (HW0.out.trans O2.out)).mono ?_; rintro e w3 ⟨rfl, o⟩; have O3 : Hid (Old W1 w3) := O2.out.trans o; clear o; clear x0 x1 x2 x3 x4 x5 x6 x7; obtain ⟨x0, x1, x2, x3, x4, x5, x6, x7⟩ := HS.out _ O3.out)
       | (go_at_call 51; refine (HBi.out _ (HW0.out.trans O1.out)).mono ?_; rintro e w2 ⟨rfl, o⟩; have O2 : Hid (Old W1 w2) := O1.out.trans o; clear o; clear x0 x1 x2 x3 x4 x5 x6 x7; obtain ⟨x0, x1, x2, x3, x4, x5, x6, x7⟩ := HS.out _ O2.out)
       | (go_at_call 52; refine (HIn.out _ (HW0.out.trans O0.out)).mono ?_; rintro e w1 ⟨rfl, o⟩; have O1 : Hid (Old W1 w1) := O0.out.trans o; clear o; clear x0 x1 x2 x3 x4 x5 x6 x7; obtain ⟨x0, x1, x2, x3, x4, x5, x6, x7⟩ := HS.out _ O1.out))
      go_ret
      exact ⟨by rw [HV.out]; rfl, HW0.out.trans O5.out⟩
     | true =>
      rw [hEB] at HEB
      cases hEP : elB P Q np Pp with
      | false =>
       have HV : Hid (eltB P Q y l C no O na A nb B np Pp = false) := by unfold Hid eltB; simp [hEP]
       rw [hEP] at HEP
       go_enter func80, ntmps80
       go_upto_region 1 with fail
       generalize (w.alloc (.cells (gc P Q G H a m cap) 25)).alloc (.cells (tkc ba na ca X bb nb cb Y Z bp np cp) 41) = W1 at *
       have HG : Hid (∀ wx, Old W1 wx -> wx.heap[w.heap.size]? = some (.cells (gc P Q G H a m cap) 25 (0, 0))) := HG0
       have HT : Hid (∀ wx, Old W1 wx -> wx.heap[w.heap.size + 1]? = some (.cells (tkc ba na ca X bb nb cb Y Z bp np cp) 41 (0, 0))) := HT0
       clear HG0 HT0
       have HS := g8 HG.out HT.out
       clear HG HT
       generalize w.heap.size = gb at *
       have O0 : Hid (Old W1 W1) := Old.refl _
       obtain ⟨x0, x1, x2, x3, x4, x5, x6, x7⟩ := HS.out _ O0.out
       go_wp2_with (first
        | (go_at_call 103; refine (HEP.out _ (HW0.out.trans O5.out)).mono ?_; rintro e w6 ⟨rfl, o⟩; have O6 : Hid (Old W1 w6) := O5.out.trans o; clear o; clear x0 x1 x2 x3 x4 x5 x6 x7; obtain ⟨x0, x1, x2, x3, x4, x5, x6, x7⟩ := HS.out _ O6.out)
        | (go_at_call 103; refine (HEB.out _ (HW0.out.trans O4.out)).mono ?_; rintro e w5 ⟨rfl, o⟩; have O5 : Hid (Old W1 w5) := O4.out.trans o; clear o; clear x0 x1 x2 x3 x4 x5 x6 x7; obtain ⟨x0, x1, x2, x3, x4, x5, x6, x7⟩ := HS.out _ O5.out)
        | (go_at_call 103; refine (HEA.out _ (HW0.out.trans O3.out)).mono ?_; rintro e w4 ⟨rfl, o⟩; have O4 : Hid (Old W1 w4) := O3.out.trans o; clear o; clear x0 x1 x2 x3 x4 x5 x6 x7; obtain ⟨x0, x1, x2, x3, x4, x5, x6, x7⟩ := HS.out _ O4.out)
        | (go_at_call 51; refine (HBo.out _ (HW0.out.trans O2.out)).mono ?_; rintro e w3 ⟨rfl, o⟩; have O3 : Hid (Old W1 w3) := O2.out.trans o; clear o; clear x0 x1 x2 x3 x4 x5 x6 x7; obtain ⟨x0, x1, x2, x3, x4, x5, x6, x7⟩ := HS.out _ O3.out)
        | (go_at_call 51; refine (HBi.out _ (HW0.out.trans O1.out)).mono ?_; rintro e w2 ⟨rfl, o⟩; have O2 : Hid (Old W1 w2) := O1.out.trans o; clear o; clear x0 x1 x2 x3 x4 x5 x6 x7; obtain ⟨x0, x1, x2, x3, x4, x5, x6, x7⟩ := HS.out _ O2.out)
        | (go_at_call 52; refine (HIn.out _ (HW0.out.trans O0.out)).mono ?_; rintro e w1 ⟨rfl, o⟩; have O1 : Hid (Old W1 w1) := O0.out.trans o; clear o; clear x0 x1 x2 x3 x4 x5 x6 x7; obtain ⟨x0, x1, x2, x3, x4, x5, x6, x7⟩ := HS.out _ O1.out))
       go_ret
       exact ⟨by rw [HV.out]; rfl, HW0.out.trans O6.out⟩
      | true =>
       rw [hEP] at HEP
       have HV : Hid (eltB P Q y l C no O na A nb B np Pp = true) := by unfold Hid eltB; simp [hIn, hBi, hBo, hEA, hEB, hEP]
       go_enter func80, ntmps80
       go_upto_region 1 with fail
       generalize (w.alloc (.cells (gc P Q G H a m cap) 25)).alloc (.cells (tkc ba na ca X bb nb cb Y Z bp np cp) 41) = W1 at *
       have HG : Hid (∀ wx, Old W1 wx -> wx.heap[w.heap.size]? = some (.cells (gc P Q G H a m cap) 25 (0, 0))) := HG0
       have HT : Hid (∀ wx, Old W1 wx -> wx.heap[w.heap.size + 1]? = some (.cells (tkc ba na ca X bb nb cb Y Z bp np cp) 41 (0, 0))) := HT0
       clear HG0 HT0
       have HS := g8 HG.out HT.out
       clear HG HT
       generalize w.heap.size = gb at *
       have O0 : Hid (Old W1 W1) := Old.refl _
       obtain ⟨x0, x1, x2, x3, x4, x5, x6, x7⟩ := HS.out _ O0.out
       go_wp2_with (first
        | (go_at_call 103; refine (HEP.out _ (HW0.out.trans O5.out)).mono ?_; rintro e w6 ⟨rfl, o⟩; have O6 : Hid (Old W1 w6) := O5.out.trans o; clear o; clear x0 x1 x2 x3 x4 x5 x6 x7; obtain ⟨x0, x1, x2, x3, x4, x5, x6, x7⟩ := HS.out _ O6.out)
        | (go_at_call 103; refine (HEB.out _ (HW0.out.trans O4.out)).mono ?_; rintro e w5 ⟨rfl, o⟩; have O5 : Hid (Old W1 w5) := O4.out.trans o; clear o; clear x0 x1 x2 x3 x4 x5 x6 x7; obtain ⟨x0, x1, x2, x3, x4, x5, x6, x7⟩ := HS.out _ O5.out)
        | (go_at_call 103; refine (HEA.out _ (HW0.out.trans O3.out)).mono ?_; rintro e w4 ⟨rfl, o⟩; have O4 : Hid (Old W1 w4) := O3.out.trans o; clear o; clear x0 x1 x2 x3 x4 x5 x6 x7; obtain ⟨x0, x1, x2, x3, x4, x5, x6, x7⟩ := HS.out _ O4.out)
        | (go_at_call 51; refine (HBo.out _ (HW0.out.trans O2.out)).mono ?_; rintro e w3 ⟨rfl, o⟩; have O3 : Hid (Old W1 w3) := O2.out.trans o; clear o; clear x0 x1 x2 x3 x4 x5 x6 x7; obtain ⟨x0, x1, x2, x3, x4, x5, x6, x7⟩ := HS.out _ O3.out)
        | (go_at_call 51; refine (HBi.out _ (HW0.out.trans O1.out)).mono ?_; rintro e w2 ⟨rfl, o⟩; have O2 : Hid (Old W1 w2) := O1.out.trans o; clear o; clear x0 x1 x2 x3 x4 x5 x6 x7; obtain ⟨x0, x1, x2, x3, x4, x5, x6, x7⟩ := HS.out _ O2.out)
        | (go_at_call 52; refine (HIn.out _ (HW0.out.trans O0.out)).mono ?_; rintro e w1 ⟨rfl, o⟩; have O1 : Hid (Old W1 w1) := O0.out.trans o; clear o; clear x0 x1 x2 x3 x4 x5 x6 x7; obtain ⟨x0, x1, x2, x3, x4, x5, x6, x7⟩ := HS.out _ O1.out))
       go_ret
       exact ⟨by rw [HV.out]; rfl, HW0.out.trans O6.out⟩
def fromTo (i : Nat) (F O : NI) : Nat -> Int := fun k => if k < i then O k else F k
set_option linter.unusedSimpArgs false in
theorem laccepts_gen (P Q G H : Int) (a : OA) (n cap : Nat) (bt : OA) (nt ct : Nat) (T : NI) (bb : OA) (nb cb : Nat) (BA : Nat -> Option Addr) (L C : Nat -> Nat) (B : NN) (bk : OA) (nk ck : Nat) (K : NI) (ch : Int) (bz : OA) (nz cz : Nat) (X : NI) (w : World) (h4 : Four P Q G H) (hr : Righ P Q G) (he : U64 ch) (mk : nk <= 9223372036854775807) (hC : ClaimIn w bt nt ct T bb nb cb BA L C B) (hK : FacsIn w bk nk K) (hX : FacsIn w bz nz X) :
  Calls prog 45 #[gv P Q G H a n cap, cv bt nt ct bb nb cb, .slice bk nk ck, .int .u64 ch, .slice bz nz cz] w fun e w' => e = .returned (.bool (accB P Q nt T nb L B nk K ch nz X)) /\ Old w w' := by
 have HZ := lain2 w (gc P Q G H a n cap) (cc bt nt ct bb nb cb) 25 50
 have HT : Hid (∀ w', Old ((w.alloc (.cells (gc P Q G H a n cap) 25)).alloc (.cells (cc bt nt ct bb nb cb) 50)) w' -> G6 w' (w.heap.size) P Q G H (.slice a n cap) (w'.cell? ⟨w.heap.size + 1, 0, none⟩ = some (.slice bt nt ct) /\ w'.cell? ⟨w.heap.size + 1, 1, none⟩ = some (.slice bb nb cb))) := fun w' ho => by
  have h := HZ.then ho
  exact ⟨h.cell 0 0 (by simp) rfl, h.cell 0 1 (by simp) rfl, h.cell 0 2 (by simp) rfl, h.cell 0 3 (by simp) rfl, h.cell 0 4 (by simp) rfl, h.cell 1 0 (by simp) rfl, h.cell 1 1 (by simp) rfl⟩
 have HC := hid hC.tar
 have HKK := hid hK
 have HIm := hid fun wx (ho : Old w wx) => zeY P Q G H a n cap bt nt ct T bb nb cb BA L C B bz nz cz X wx h4 hr (hC.old ho) (hX.old ho)
 have mt : nt <= 9223372036854775807 := Nat.le_trans hC.tc hC.tm
 obtain ⟨F, hF⟩ : ∃ F : Nat -> Int, F = fun j => imI P Q (B j) X (sizeN P Q nt T nb L B) := ⟨_, rfl⟩
 obtain ⟨E, hE⟩ : ∃ E : Nat -> Int, E = fun j => expI P Q (T j) ch := ⟨_, rfl⟩
 obtain ⟨M, hM⟩ : ∃ M : Nat -> Int, M = fun j => mulI (K j) (E j) P := ⟨_, rfl⟩
 have HYES : Hid (fitsB (sizeN P Q nt T nb L B) nz = true -> nk = nt -> elB P Q nk K = true -> (∀ j, j < nt -> F j = M j) -> accB P Q nt T nb L B nk K ch nz X = true) := fun h1 h2 h3 h5 => zdW.2 ⟨h1, h2, fun j hj => ⟨zaZ.1 h3 j (h2 ▸ hj), by have := h5 j hj; rw [hF, hM, hE] at this; exact this⟩⟩
 have HNO : Hid ((fitsB (sizeN P Q nt T nb L B) nz = true -> nk = nt -> elB P Q nk K = true -> (∀ j, j < nt -> F j = M j) -> False) -> accB P Q nt T nb L B nk K ch nz X = false) := fun h => no_of fun hc => by
  obtain ⟨h1, h2, h3⟩ := zdW.1 hc
  exact h h1 h2 (zaZ.2 fun j hj => (h3 j (h2 ▸ hj)).1) fun j hj => by rw [hF, hM, hE]; exact (h3 j hj).2
 rw [<- hF] at HIm
 have HNT : Hid (fitsB (sizeN P Q nt T nb L B) nz = true -> 0 < nt) := fun h => (zcY (za2.1 h).1).t1
 have HEl : Hid (∀ wx, Old w wx -> Calls prog 97 #[gv P Q G H a n cap, .slice bk nk ck] wx fun e w' => e = .returned (.bool (elB P Q nk K)) /\ Old wx w') := fun wx ho => lels_any P Q G H a n cap bk nk ck K wx h4 mk (hK.old ho)
 have HEx : Hid (∀ j wx, j < nt -> Calls prog 65 #[gv P Q G H a n cap, .int .u64 (T j), .int .u64 ch] wx fun e w' => e = .returned (.int .u64 (E j)) /\ Old wx w') := fun j wx hj => (za8 P Q G H (T j) ch a n cap wx h4 hr (hC.tar.u64 j hj).1 (hC.tar.u64 j hj).2 he.1 he.2).mono fun e w' ⟨h, k⟩ => ⟨by rw [h, hE], k⟩
 have HPr : Hid (∀ (j : Nat) (wx : World) (t : TypeId), j < nk -> Calls prog 64 #[gv P Q G H a n cap, .slice (some ⟨wx.heap.size, 0, none⟩) 2 2] (wx.alloc (.cells #[.int .u64 (K j), .int .u64 (E j)] t)) fun r w' => r = .returned (.int .u64 (M j)) /\ Old (wx.alloc (.cells #[.int .u64 (K j), .int .u64 (E j)] t)) w') :=
  fun j wx t hj => by
   have hu : U64 (E j) := by rw [hE]; exact zaz _ _ _ _
   have hf := zdT wx (K j) (E j) t (hK.u64 j hj) hu
   have hm : mulI (K j) (E j) P = M j := by rw [hM]
   have hp := prod5 hr (K j) (E j)
   generalize two5 (K j) (E j) = F2 at *
   have hg := zcl P Q G H a n cap (some ⟨wx.heap.size, 0, none⟩) 2 2 F2 _ h4 hr (by decide) (by decide) hf
   rw [hp, hm] at hg
   exact hg
 clear hM hE hF h4 hr he hC hK hX
 generalize accB P Q nt T nb L B nk K ch nz X = R at *
 generalize fitsB (sizeN P Q nt T nb L B) nz = ok at *
 cases ok with
 | false =>
  have HN : Hid (R = false) := HNO.out fun h _ _ _ => by cases h
  go_enter func45, ntmps45
  go_upto_region 1 with fail
  have HW0 := hid HZ.old
  generalize hW : (w.alloc (.cells (gc P Q G H a n cap) 25)).alloc (.cells (cc bt nt ct bb nb cb) 50) = W at *
  clear hW
  obtain ⟨d0, d1, d2, d3, d4, t0, t1⟩ := HT.out _ (Old.refl _)
  go_upto_region 2 with (go_at_call 42; refine (HIm.out _ HW0.out).mono ?_; rintro e w2 ⟨h2, ⟨_, rfl⟩ | ⟨hno, _⟩⟩; rotate_left; exact absurd hno (by decide))
  clear d0 d1 d2 d3 d4 t0 t1
  go_wp2_with fail
  go_ret
  exact ⟨zad HN.out.symm, HW0.out.trans h2⟩
 | true =>
  have hpos := HNT.out (by trivial)
  by_cases hnk : nk = nt
  ·cases hel : elB P Q nk K with
   | false =>
    have HN : Hid (R = false) := HNO.out fun _ _ h _ => by rw [hel] at h; cases h
    rw [hel] at HEl
    have k1 : (nk : Int) = (nt : Int) := by omega
    have k4 : ((nk : Int) != (nt : Int)) = false := by simp; omega
    clear hel HYES HNO hnk
    go_enter func45, ntmps45
    go_upto_region 1 with fail
    have HW0 := hid HZ.old
    generalize hW : (w.alloc (.cells (gc P Q G H a n cap) 25)).alloc (.cells (cc bt nt ct bb nb cb) 50) = W at *
    clear hW
    obtain ⟨d0, d1, d2, d3, d4, t0, t1⟩ := HT.out _ (Old.refl _)
    go_upto_region 2 with (go_at_call 42; refine (HIm.out _ HW0.out).mono ?_; rintro e w2 ⟨h2, ⟨hno, _⟩ | ⟨_, bf, hbf, rfl, hff⟩⟩; exact absurd hno (by decide))
    clear d0 d1 d2 d3 d4 t0 t1
    obtain ⟨d0, d1, d2, d3, d4, t0, t1⟩ := HT.out _ h2
    go_wp2_with (go_at_call 97; refine (HEl.out _ (HW0.out.trans h2)).mono ?_; rintro e w3 ⟨rfl, h3⟩)
    go_ret
    exact ⟨zad HN.out.symm, (HW0.out.trans h2).trans h3⟩
   | true =>
    have HYE : Hid ((∀ j, j < nt -> F j = M j) -> R = true) := fun h => HYES.out (by trivial) hnk hel h
    have HNE := hid fun j (hj : j < nt) (hne : ¬ F j = M j) => HNO.out fun _ _ _ h => hne (h j hj)
    rw [hel] at HEl
    clear hel HYES HNO
    subst hnk
    rcases HC.out with h0 | ⟨tb, tof, hqt, _, hrt⟩
    ·omega
    rcases HKK.out with h0 | ⟨kb, ko, hqk, _, hrk⟩
    ·omega
    subst hqt hqk
    have HRT : Hid (∀ j, j < nk -> ∀ w', Old w w' -> w'.cell? ⟨tb, tof + j, none⟩ = some (.int .u64 (T j))) := fun j hj w' ho => ho.cellOf (hrt j hj).1
    have HRK : Hid (∀ j, j < nk -> ∀ w', Old w w' -> w'.cell? ⟨kb, ko + j, none⟩ = some (.int .u64 (K j))) := fun j hj w' ho => ho.cellOf (hrk j hj).1
    clear hrt hrk
    go_enter func45, ntmps45
    go_upto_region 1 with fail
    have HW0 := hid HZ.old
    generalize hW : (w.alloc (.cells (gc P Q G H a n cap) 25)).alloc (.cells (cc (some ⟨tb, tof, none⟩) nk ct bb nb cb) 50) = W at *
    clear hW
    obtain ⟨d0, d1, d2, d3, d4, t0, t1⟩ := HT.out _ (Old.refl _)
    go_upto_region 2 with (go_at_call 42; refine (HIm.out _ HW0.out).mono ?_; rintro e w2 ⟨h2, ⟨hno, _⟩ | ⟨_, bf, hbf, rfl, hff⟩⟩; exact absurd hno (by decide))
    clear d0 d1 d2 d3 d4 t0 t1
    obtain ⟨d0, d1, d2, d3, d4, t0, t1⟩ := HT.out _ h2
    go_upto_region 4 with (go_at_call 97; refine (HEl.out _ (HW0.out.trans h2)).mono ?_; rintro e w3 ⟨rfl, h3⟩)
    have HRF : Hid (∀ j, j < nk -> ∀ w', Old w2 w' -> w'.cell? ⟨bf, j, none⟩ = some (.int .u64 (F j))) := fun j hj w' ho => ho.cellOf (hff.cell j hj)
    have HW2 := hid h2
    have HW3 := hid h3
    clear d0 d1 d2 d3 d4 t0 t1 hff h2 h3
    obtain ⟨d0, d1, d2, d3, d4, t0, t1⟩ := HT.out _ (HW2.out.trans HW3.out)
    go_upto_region 5 with fail
    clear d0 d1 d2 d3 d4 t0 t1
    go_loopw [40] (fun iv wx => ∃ i : Nat, iv = .int .i64 (i : Int) /\ i <= nk /\ Hid (∀ j, j < i -> F j = M j) /\ Hid (Old w2 wx)) (fun iv _ => nk - (intOf iv).toNat)
    case atStart => exact ⟨0, rfl, Nat.zero_le _, fun j hj => by omega, HW3⟩
    case round =>
     obtain ⟨i, rfl, hi1, HJ, HW⟩ := hrel
     by_cases hlt : i < nk
     ·have HT2 : Hid (∀ w', Old w2 w' -> G6 w' (w.heap.size) P Q G H (.slice a n cap) (w'.cell? ⟨bf, i, none⟩ = some (.int .u64 (F i)) /\ w'.cell? ⟨kb, ko + i, none⟩ = some (.int .u64 (K i)))) := fun w' ho => by
       obtain ⟨d0, d1, d2, d3, d4, t0, t1⟩ := HT.out _ (HW2.out.trans ho)
       exact ⟨d0, d1, d2, d3, d4, HRF.out i hlt _ ho, HRK.out i hlt _ ((HW0.out.trans HW2.out).trans ho)⟩
      obtain ⟨d0, d1, d2, d3, d4, cf1, ck1⟩ := HT2.out _ HW.out
      have cx := HRT.out i hlt _ ((HW0.out.trans HW2.out).trans HW.out)
      have HM : Hid (∀ wx, Calls prog 65 #[gv P Q G H a n cap, .int .u64 (T i), .int .u64 ch] wx fun r w' => r = .returned (.int .u64 (E i)) /\ Old wx w') := fun wx => HEx.out i wx hlt
      have HV : Hid (∀ (wx : World) (t : TypeId), Calls prog 64 #[gv P Q G H a n cap, .slice (some ⟨wx.heap.size, 0, none⟩) 2 2] (wx.alloc (.cells #[.int .u64 (K i), .int .u64 (E i)] t)) fun r w' => r = .returned (.int .u64 (M i)) /\ Old (wx.alloc (.cells #[.int .u64 (K i), .int .u64 (E i)] t)) w') := fun wx t => HPr.out i wx t hlt
      by_cases heq : F i = M i
      ·have HQ : Hid (F i = M i) := heq
       rw [<- heq] at HV
       clear heq
       go_upto_region 7 with fail
       go_region_held3 (fun w' => w'.cell? ⟨w.heap.size, 0, none⟩ = some (.int .u64 P) /\ w'.cell? ⟨w.heap.size, 1, none⟩ = some (.int .u64 Q) /\ w'.cell? ⟨w.heap.size, 2, none⟩ = some (.int .u64 G) /\ w'.cell? ⟨w.heap.size, 3, none⟩ = some (.int .u64 H) /\ w'.cell? ⟨w.heap.size, 4, none⟩ = some (.slice a n cap) /\ w'.cell? ⟨bf, i, none⟩ = some (.int .u64 (F i)) /\ w'.cell? ⟨kb, ko + i, none⟩ = some (.int .u64 (K i))) (first | exact HT2.out _ h5 | exact HT2.out _ (h4.alloc _) | exact HT2.out _ h4 | exact HT2.out _ HW.out.drew) (first
        | (go_at_call 65; refine (HM.out _).mono ?_; rintro e w4 ⟨rfl, o4⟩; have h4 : Old w2 w4 := HW.out.drew.trans o4)
        | (go_at_call 64; refine (HV.out _ _).mono ?_; rintro e w5 ⟨rfl, o5⟩; have h5 : Old w2 w5 := (h4.alloc _).trans o5))
       go_wp2_with fail
       go_roundw
       case rel => exact ⟨i + 1, zab i, by omega, zav HJ.out HQ.out, h5⟩
       case measure => simp [intOf]; omega
      ·have HN : Hid (R = false) := HNE.out i hlt heq
       go_upto_region 7 with fail
       go_region_held3 (fun w' => w'.cell? ⟨w.heap.size, 0, none⟩ = some (.int .u64 P) /\ w'.cell? ⟨w.heap.size, 1, none⟩ = some (.int .u64 Q) /\ w'.cell? ⟨w.heap.size, 2, none⟩ = some (.int .u64 G) /\ w'.cell? ⟨w.heap.size, 3, none⟩ = some (.int .u64 H) /\ w'.cell? ⟨w.heap.size, 4, none⟩ = some (.slice a n cap) /\ w'.cell? ⟨bf, i, none⟩ = some (.int .u64 (F i)) /\ w'.cell? ⟨kb, ko + i, none⟩ = some (.int .u64 (K i))) (first | exact HT2.out _ h5 | exact HT2.out _ (h4.alloc _) | exact HT2.out _ h4 | exact HT2.out _ HW.out.drew) (first
        | (go_at_call 65; refine (HM.out _).mono ?_; rintro e w4 ⟨rfl, o4⟩; have h4 : Old w2 w4 := HW.out.drew.trans o4)
        | (go_at_call 64; refine (HV.out _ _).mono ?_; rintro e w5 ⟨rfl, o5⟩; have h5 : Old w2 w5 := (h4.alloc _).trans o5))
       go_wp2_with fail
       go_ret
       exact ⟨zad HN.out.symm, (HW0.out.trans HW2.out).trans h5⟩
     ·have hei : nk = i := by omega
      subst hei
      have HN := hid (HYE.out HJ.out)
      go_wp2_with fail
      go_ret
      exact ⟨zad HN.out.symm, (HW0.out.trans HW2.out).trans HW.out⟩
  ·have HN : Hid (R = false) := HNO.out fun _ h _ _ => hnk h
   have k1 : ¬ (nk : Int) = (nt : Int) := by omega
   have k4 : ((nk : Int) != (nt : Int)) = true := by simp; omega
   have k5 : ((nk : Int) == (nt : Int)) = false := by simp; omega
   clear HYES HNO
   go_enter func45, ntmps45
   go_upto_region 1 with fail
   have HW0 := hid HZ.old
   generalize hW : (w.alloc (.cells (gc P Q G H a n cap) 25)).alloc (.cells (cc bt nt ct bb nb cb) 50) = W at *
   clear hW
   obtain ⟨d0, d1, d2, d3, d4, t0, t1⟩ := HT.out _ (Old.refl _)
   go_upto_region 2 with (go_at_call 42; refine (HIm.out _ HW0.out).mono ?_; rintro e w2 ⟨h2, ⟨hno, _⟩ | ⟨_, bf, hbf, rfl, hff⟩⟩; exact absurd hno (by decide))
   clear d0 d1 d2 d3 d4 t0 t1
   go_wp2_with fail
   go_ret
   exact ⟨zad HN.out.symm, HW0.out.trans h2⟩
set_option linter.unusedSimpArgs false in
theorem pprove_any (label : List Int) (P Q G H : Int) (a : OA) (n cap : Nat) (bt : OA) (nt ct : Nat) (T : NI) (bb : OA) (nb cb : Nat) (BA : Nat -> Option Addr) (L C : Nat -> Nat) (B : NN) (bw : OA) (nw cw : Nat) (X : NI) (bd : OA) (nd cd : Nat) (Y F : NI) (hF : F = fun j => imI P Q (B j) Y (sizeN P Q nt T nb L B)) (w : World) (h4 : Four P Q G H) (hr : Righ P Q G) (hlb : Bts label) (hll : label.length <= 1000) (mt : nt <= 80) (mb : nb <= 80) (mL : ∀ j, j < nb -> L j <= 80) (mw : nw <= 80) (md : nd <= 80) (hcw : nw <= cw) (hcd : nd <= cd) (hC : ClaimIn w bt nt ct T bb nb cb BA L C B) (hX : FacsIn w bw nw X) (hY : FacsIn w bd nd Y) :
  Calls prog 90 #[gv P Q G H a n cap, .string (strOfNums label), cv bt nt ct bb nb cb, .slice bw nw cw, .slice bd nd cd] w (GivesP w (provB (sizeN P Q nt T nb L B) nw nd) nt F nw (fun k => ansI Q (chI label P Q G H nt T nb L B nt F) (X k) (Y k))) := by
 have HZ := lain3 w (gc P Q G H a n cap) (cc bt nt ct bb nb cb) (cc none 0 0 none 0 0) 25 50 55
 have HT : Hid (∀ w', Old (((w.alloc (.cells (gc P Q G H a n cap) 25)).alloc (.cells (cc bt nt ct bb nb cb) 50)).alloc (.cells (cc none 0 0 none 0 0) 55)) w' -> G6 w' (w.heap.size) P Q G H (.slice a n cap) (w'.cell? ⟨w.heap.size + 1, 0, none⟩ = some (.slice bt nt ct) /\ w'.cell? ⟨w.heap.size + 1, 1, none⟩ = some (.slice bb nb cb))) := fun w' ho => by
  have h := HZ.then ho
  exact ⟨h.cell 0 0 (by simp) rfl, h.cell 0 1 (by simp) rfl, h.cell 0 2 (by simp) rfl, h.cell 0 3 (by simp) rfl, h.cell 0 4 (by simp) rfl, h.cell 1 0 (by simp) rfl, h.cell 1 1 (by simp) rfl⟩
 have HRS := hid fun w' (ho : Old (((w.alloc (.cells (gc P Q G H a n cap) 25)).alloc (.cells (cc bt nt ct bb nb cb) 50)).alloc (.cells (cc none 0 0 none 0 0) 55)) w') => (HZ.then ho).row 2 (by simp)
 have HIm : Hid (∀ wx, Old w wx -> Calls prog 42 #[gv P Q G H a n cap, cv bt nt ct bb nb cb, .slice bd nd cd] wx (Gives wx (fitsB (sizeN P Q nt T nb L B) nd) nt F)) := fun wx ho => by rw [hF]; exact (zeY P Q G H a n cap bt nt ct T bb nb cb BA L C B bd nd cd Y wx h4 hr (hC.old ho) (hY.old ho)).mono fun e w' h => h.gives (by omega)
 have HFU : Hid (∀ j, U64 (F j)) := fun j => by rw [hF]; exact zdm _ _ _
 have HCh := hid fun b c wx (ho : Old w wx) (hf : FacsIn wx b nt F) => pchal_any label P Q G H a n cap bt nt ct T bb nb cb BA L C B b nt c F wx h4 hlb hll mt mb mL mt (hC.old ho) hf
 have hcu := ch_u64 label P Q G H nt T nb L B nt F
 generalize chI label P Q G H nt T nb L B nt F = ch at *
 obtain ⟨Z, hZ⟩ : ∃ Z : Nat -> Int, Z = fun k => ansI Q ch (X k) (Y k) := ⟨_, rfl⟩
 rw [<- hZ]
 have HAn : Hid (∀ wx, Old w wx -> Calls prog 43 #[gv P Q G H a n cap, .slice bw nw cw, .slice bd nd cd, .int .u64 ch] wx (Gives wx (decide (nw = nd)) nw Z)) := fun wx ho => by rw [hZ]; exact lanswer_any P Q G H a n cap bw nw cw X bd nd cd Y ch wx h4 hr hcu mw md hcw hcd (hX.old ho) (hY.old ho)
 have HZU : Hid (∀ k, U64 (Z k)) := fun k => by rw [hZ]; exact zeH _ _ _ _
 clear hZ hF h4 hr hlb hll mL hC hX hY hcu mt mb mw md hcw hcd
 generalize sizeN P Q nt T nb L B = sz at *
 cases hok : fitsB sz nd with
 | false =>
  have HN : Hid (provB sz nw nd = false) := by unfold Hid provB; rw [hok]; rfl
  rw [hok] at HIm
  clear hok
  go_enter func90, ntmps90
  go_upto_region 1 with fail
  have HW0 := hid HZ.old
  generalize hW : ((w.alloc (.cells (gc P Q G H a n cap) 25)).alloc (.cells (cc bt nt ct bb nb cb) 50)).alloc (.cells (cc none 0 0 none 0 0) 55) = W at *
  clear hW
  obtain ⟨d0, d1, d2, d3, d4, z0, z1⟩ := HT.out _ (Old.refl _)
  go_upto_region 2 with (go_at_call 42; refine (HIm.out _ HW0.out).mono ?_; rintro e w2 ⟨v, rfl, hN, h2⟩)
  clear d0 d1 d2 d3 d4 z0 z1 hN
  have HR := HRS.out _ h2
  have q0 : w2.cell? ⟨w.heap.size + 1 + 1, 0, none⟩ = some (.slice none 0 0) := Y0 HR
  have q1 : w2.cell? ⟨w.heap.size + 1 + 1, 1, none⟩ = some (.slice none 0 0) := Y1 HR
  have f0 : w2.frozen? ⟨w.heap.size + 1 + 1, 0, none⟩ = false := zac HR 0
  have f1 : w2.frozen? ⟨w.heap.size + 1 + 1, 1, none⟩ = false := zac HR 1
  have HRh := hid HR
  clear HR
  go_wp2_with fail
  exact bodyPost_ret (zay (b := w.heap.size + 1 + 1) rfl rfl rfl (zaW HRh.out U55 zbp)) rfl (zc3 HN.out (Old.setCell (p := ⟨w.heap.size + 1 + 1, 1, none⟩) (Old.setCell (p := ⟨w.heap.size + 1 + 1, 0, none⟩) (HW0.out.trans h2) (by show w.heap.size <= w.heap.size + 1 + 1; omega) _) (by show w.heap.size <= w.heap.size + 1 + 1; omega) _))
 | true =>
  rw [hok] at HIm
  by_cases hnn : nw = nd
  ·subst hnn
   have HN : Hid (provB sz nw nw = true) := by unfold Hid provB; rw [hok]; simp
   have k1 : decide (nw = nw) = true := by simp
   rw [k1] at HAn
   clear hok k1
   go_enter func90, ntmps90
   go_upto_region 1 with fail
   have HW0 := hid HZ.old
   have hs0 : w.heap.size + 1 + 1 < (((w.alloc (.cells (gc P Q G H a n cap) 25)).alloc (.cells (cc bt nt ct bb nb cb) 50)).alloc (.cells (cc none 0 0 none 0 0) 55)).heap.size := by simp
   generalize hW : ((w.alloc (.cells (gc P Q G H a n cap) 25)).alloc (.cells (cc bt nt ct bb nb cb) 50)).alloc (.cells (cc none 0 0 none 0 0) 55) = W at *
   clear hW
   obtain ⟨d0, d1, d2, d3, d4, z0, z1⟩ := HT.out _ (Old.refl _)
   go_upto_region 2 with (go_at_call 42; refine (HIm.out _ HW0.out).mono ?_; rintro e w2 ⟨v, rfl, hN, h2⟩)
   simp only [if_true] at hN
   obtain ⟨bf, cf, rfl, hcf, hff⟩ := hN.facs (fun j _ => HFU.out j)
   have HNu := hid hN
   have HFF := hid hff
   have HW2 := hid h2
   clear d0 d1 d2 d3 d4 z0 z1 hN hff h2
   obtain ⟨d0, d1, d2, d3, d4, z0, z1⟩ := HT.out _ HW2.out
   go_upto_region 4 with fail
   have hd : Old W w2.drew := HW2.out.drew
   go_region_held3 (fun w' => w'.cell? ⟨w.heap.size, 0, none⟩ = some (.int .u64 P) /\ w'.cell? ⟨w.heap.size, 1, none⟩ = some (.int .u64 Q) /\ w'.cell? ⟨w.heap.size, 2, none⟩ = some (.int .u64 G) /\ w'.cell? ⟨w.heap.size, 3, none⟩ = some (.int .u64 H) /\ w'.cell? ⟨w.heap.size, 4, none⟩ = some (.slice a n cap) /\ w'.cell? ⟨w.heap.size + 1, 0, none⟩ = some (.slice bt nt ct) /\ w'.cell? ⟨w.heap.size + 1, 1, none⟩ = some (.slice bb nb cb)) (first | exact HT.out _ h5 | exact HT.out _ h4 | exact HT.out _ hd) (first
    | (go_at_call 129; refine (HCh.out _ _ _ (HW0.out.trans hd) (HFF.out.old (Old.refl _).drew)).mono ?_; rintro e w4 ⟨rfl, o4⟩; have h4 : Old W w4 := hd.trans o4)
    | (go_at_call 43; refine (HAn.out _ (HW0.out.trans h4)).mono ?_; rintro e w5 ⟨u, rfl, hNz, o5⟩; have h5 : Old W w5 := h4.trans o5))
   simp only [if_true] at hNz
   obtain ⟨bu, cu, rfl, hcu2, _⟩ := hNz.facs (fun j _ => HZU.out j)
   have HNz := hid (hNz.mono h4.size)
   have HNv := hid (HNu.out.old (((Old.refl w2).drew.trans o4).trans o5))
   have HW5 := hid h5
   clear d0 d1 d2 d3 d4 z0 z1 hNz
   have HR := HRS.out _ HW5.out
   have q0 : w5.cell? ⟨w.heap.size + 1 + 1, 0, none⟩ = some (.slice none 0 0) := Y0 HR
   have q1 : w5.cell? ⟨w.heap.size + 1 + 1, 1, none⟩ = some (.slice none 0 0) := Y1 HR
   have f0 : w5.frozen? ⟨w.heap.size + 1 + 1, 0, none⟩ = false := zac HR 0
   have f1 : w5.frozen? ⟨w.heap.size + 1 + 1, 1, none⟩ = false := zac HR 1
   have HRh := hid HR
   clear HR
   go_wp2_with fail
   refine bodyPost_ret (zay (b := w.heap.size + 1 + 1) rfl rfl rfl (zaW HRh.out U55 zbp)) rfl ?_
   refine zge HN.out (Old.setCell (p := ⟨w.heap.size + 1 + 1, 1, none⟩) (Old.setCell (p := ⟨w.heap.size + 1 + 1, 0, none⟩) (HW0.out.trans HW5.out) (by show w.heap.size <= w.heap.size + 1 + 1; omega) _) (by show w.heap.size <= w.heap.size + 1 + 1; omega) _) ?_ ?_
   ·exact (ownsRow_setCell_below (ownsRow_setCell_below HNv.out (by show w.heap.size + 1 + 1 < W.heap.size; exact hs0) _) (by show w.heap.size + 1 + 1 < W.heap.size; exact hs0) _).mono HW0.out.size
   ·exact (ownsRow_setCell_below (ownsRow_setCell_below HNz.out (by show w.heap.size + 1 + 1 < W.heap.size; exact hs0) _) (by show w.heap.size + 1 + 1 < W.heap.size; exact hs0) _).mono HW0.out.size
  ·have HN : Hid (provB sz nw nd = false) := by unfold Hid provB; simp [hnn]
   have k1 : decide (nw = nd) = false := decide_eq_false hnn
   rw [k1] at HAn
   clear hok k1
   go_enter func90, ntmps90
   go_upto_region 1 with fail
   have HW0 := hid HZ.old
   have hs0 : w.heap.size + 1 + 1 < (((w.alloc (.cells (gc P Q G H a n cap) 25)).alloc (.cells (cc bt nt ct bb nb cb) 50)).alloc (.cells (cc none 0 0 none 0 0) 55)).heap.size := by simp
   generalize hW : ((w.alloc (.cells (gc P Q G H a n cap) 25)).alloc (.cells (cc bt nt ct bb nb cb) 50)).alloc (.cells (cc none 0 0 none 0 0) 55) = W at *
   clear hW
   obtain ⟨d0, d1, d2, d3, d4, z0, z1⟩ := HT.out _ (Old.refl _)
   go_upto_region 2 with (go_at_call 42; refine (HIm.out _ HW0.out).mono ?_; rintro e w2 ⟨v, rfl, hN, h2⟩)
   simp only [if_true] at hN
   obtain ⟨bf, cf, rfl, hcf, hff⟩ := hN.facs (fun j _ => HFU.out j)
   have HNu := hid hN
   have HFF := hid hff
   have HW2 := hid h2
   clear d0 d1 d2 d3 d4 z0 z1 hN hff h2
   obtain ⟨d0, d1, d2, d3, d4, z0, z1⟩ := HT.out _ HW2.out
   go_upto_region 4 with fail
   have hd : Old W w2.drew := HW2.out.drew
   go_region_held3 (fun w' => w'.cell? ⟨w.heap.size, 0, none⟩ = some (.int .u64 P) /\ w'.cell? ⟨w.heap.size, 1, none⟩ = some (.int .u64 Q) /\ w'.cell? ⟨w.heap.size, 2, none⟩ = some (.int .u64 G) /\ w'.cell? ⟨w.heap.size, 3, none⟩ = some (.int .u64 H) /\ w'.cell? ⟨w.heap.size, 4, none⟩ = some (.slice a n cap) /\ w'.cell? ⟨w.heap.size + 1, 0, none⟩ = some (.slice bt nt ct) /\ w'.cell? ⟨w.heap.size + 1, 1, none⟩ = some (.slice bb nb cb)) (first | exact HT.out _ h5 | exact HT.out _ h4 | exact HT.out _ hd) (first
    | (go_at_call 129; refine (HCh.out _ _ _ (HW0.out.trans hd) (HFF.out.old (Old.refl _).drew)).mono ?_; rintro e w4 ⟨rfl, o4⟩; have h4 : Old W w4 := hd.trans o4)
    | (go_at_call 43; refine (HAn.out _ (HW0.out.trans h4)).mono ?_; rintro e w5 ⟨u, rfl, hNz, o5⟩; have h5 : Old W w5 := h4.trans o5))
   clear d0 d1 d2 d3 d4 z0 z1 hNz
   have HR := HRS.out _ h5
   have q0 : w5.cell? ⟨w.heap.size + 1 + 1, 0, none⟩ = some (.slice none 0 0) := Y0 HR
   have q1 : w5.cell? ⟨w.heap.size + 1 + 1, 1, none⟩ = some (.slice none 0 0) := Y1 HR
   have f0 : w5.frozen? ⟨w.heap.size + 1 + 1, 0, none⟩ = false := zac HR 0
   have f1 : w5.frozen? ⟨w.heap.size + 1 + 1, 1, none⟩ = false := zac HR 1
   have HRh := hid HR
   clear HR
   go_wp2_with fail
   exact bodyPost_ret (zay (b := w.heap.size + 1 + 1) rfl rfl rfl (zaW HRh.out U55 zbp)) rfl (zc3 HN.out (Old.setCell (p := ⟨w.heap.size + 1 + 1, 1, none⟩) (Old.setCell (p := ⟨w.heap.size + 1 + 1, 0, none⟩) (HW0.out.trans h5) (by show w.heap.size <= w.heap.size + 1 + 1; omega) _) (by show w.heap.size <= w.heap.size + 1 + 1; omega) _))
end
end Go.Proofs.YtlnmjbbpenhdbaaGreat
