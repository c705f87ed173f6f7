/-
  The contract of the program's Mac (layer 3).
  The contract of the program's Mac (layer 3).
  The contract of the program's Number (layer 3).
  The statements' Few (layer 6).
  The statements' claim (layer 6): one that holds for the exponents.
  What is asked of the program's functions of layer 6, and the statements' awake by it.
  Lists that are made whole and then filled place by place (layer 6).
-/
import Derived.Test.YtokhpppealdfmafK17
import Derived.Test.YtokhpppealdfmafK07
import Derived.Test.YtokhpppealdfmafK10
import Derived.Test.YtokhpppealdfmafK15
import Derived.Laws.ResultCell
import Derived.Deep.OwnRows
namespace Go.Proofs.Ytokhpppealdfmaf
open Go.RowKit

/-- Bytes that lie in a row and may be written. -/
def BytesIn (w : World) (g n : Nat) (f : Nat → Int) : Prop := ∀ j, j < n → w.cell? ⟨g, j, none⟩ = some (.int .u8 (f j)) ∧ w.frozen? ⟨g, j, none⟩ = false
theorem BytesIn.set {w : World} {g n : Nat} {f : Nat → Int} (h : BytesIn w g n f) {i : Nat} (hi : i < n) (x : Int) : BytesIn (w.setCell ⟨g, i, none⟩ (.int .u8 x)) g n (fun j => if j = i then x else f j) := by
  intro j hj
  refine ⟨?_, by rw [World.frozen?_setCell]; exact (h j hj).2⟩
  by_cases he : j = i
  · subst he
    rw [World.cell?_setCell_same _ _ _ (h j hj).1]
    simp
  · rw [World.cell?_setCell_other _ _ _ _ (fun e => he (congrArg Addr.off e).symm), (h j hj).1]
    simp [he]
theorem BytesIn.congr {w : World} {g n : Nat} {f f' : Nat → Int} (h : BytesIn w g n f) (e : ∀ j, j < n → f j = f' j) : BytesIn w g n f' := fun j hj => ⟨by rw [(h j hj).1, e j hj], (h j hj).2⟩
/-- What []byte lays. -/
theorem bytes_laid (w : World) (xs : List Int) (t : TypeId) (cap : Nat) (hx : Bts xs) (h : xs.length ≤ cap) :
    BytesIn (w.alloc (.cells (bytesRow (strOfNums xs) cap) t ((bytesRow (strOfNums xs) cap).size, (bytesRow (strOfNums xs) cap).size + 1))) w.heap.size xs.length (fun j => xs.getD j 0) := by
  have hsz : (bytesRow (strOfNums xs) cap).size = cap := by
    unfold bytesRow
    rw [Array.size_append, Array.size_map, Array.size_replicate]
    have h1 : (strOfNums xs).data.size = (strOfNums xs).size := rfl
    have h2 := strOfNums_size xs
    omega
  intro j hj
  refine ⟨?_, ?_⟩
  · rw [World.cell?_alloc_mark, bytesRow_at _ _ _ (by have : (strOfNums xs).data.size = xs.length := strOfNums_size xs; omega)]
    have e := str_index hx (i := j) (by rw [strOfNums_size]; exact hj)
    show some (Value.int .u8 _) = some (Value.int .u8 (xs.getD j 0))
    rw [← e]
    rfl
  · rw [World.frozen?_alloc_mark, hsz]
    simp
    omega

theorem mask_row {wr : World} {W : World} {g : Nat} {q : List Int} {m : Int} {i : Nat} {x : Int} (hi : i < 64) (h : Old W wr ∧ W.heap.size ≤ g ∧ BytesIn wr g 64 (fun j => if j < i then xor8 (q.getD j 0) m else q.getD j 0)) (hx : x = xor8 (q.getD i 0) m) :
    Old W (wr.setCell ⟨g, i, none⟩ (.int .u8 x)) ∧ W.heap.size ≤ g ∧ BytesIn (wr.setCell ⟨g, i, none⟩ (.int .u8 x)) g 64 (fun j => if j < i + 1 then xor8 (q.getD j 0) m else q.getD j 0) := by
  refine ⟨h.1.setCell h.2.1 _, h.2.1, (h.2.2.set hi x).congr fun j _ => ?_⟩
  by_cases he : j = i
  · subst he
    rw [hx]
    simp
  · by_cases hl : j < i
    · simp [he, hl, show j < i + 1 by omega]
    · simp [he, hl, show ¬ j < i + 1 by omega]

theorem mask_done {P : Program} {g cap : Nat} {wr : World} {src e : TypeId} {q : List Int} {m : Int} (hs : P.underlying src = some (.slice e)) (he : P.underlying e = some (.int .u8)) (hr : BytesIn wr g 64 (fun j => if j < 64 then xor8 (q.getD j 0) m else q.getD j 0)) (dst : TypeId) (hd : P.underlying dst = some .string) :
    (convert src dst (.slice (some ⟨g, 0, none⟩) 64 cap)).run P wr = .ok (.string (strOfNums (masked q m))) wr :=
  run_convert_bytes_arg wr src e hs he g 0 64 cap (masked q m) (masked_len q m) (fun i hi => by
    rw [Nat.zero_add, (hr i hi).1]
    simp [masked, hi]) dst hd

theorem masked_pad (q : List Int) (m : Int) : masked (q ++ List.replicate (64 - q.length) 0) m = masked q m := by
  unfold masked
  refine List.map_congr_left fun i hi => ?_
  have h64 : i < 64 := by simpa using hi
  have e : (q ++ List.replicate (64 - q.length) 0).getD i 0 = q.getD i 0 := by
    by_cases hl : i < q.length
    · rw [List.getD, List.getElem?_append_left hl, List.getD]
    · rw [List.getD, List.getElem?_append_right (by omega), List.getElem?_replicate, if_pos (by omega), List.getD, List.getElem?_eq_none (by omega)]
      rfl
  rw [e]

end Go.Proofs.Ytokhpppealdfmaf

namespace Go.Proofs.Ytokhpppealdfmaf
open Go.RowKit

end Go.Proofs.Ytokhpppealdfmaf

namespace Go.Proofs.Ytokhpppealdfmaf
open Go.RowKit

theorem dlen_any (xs : List Int) (w : World) (hl : xs.length ≤ 1000000) :
    Calls Try.prog 88 #[.string (strOfNums xs)] w fun e w' => e = .returned (.string (strOfNums (bytesL (xs.length : Int) 8 ++ xs))) ∧ Old w w' := by
  have hadd : ∀ xs ys : List Int, strOfNums xs ++ strOfNums ys = strOfNums (xs ++ ys) := str_add
  have hsz : ∀ xs : List Int, (strOfNums xs).size = xs.length := strOfNums_size
  have z2 := bytesL_len (xs.length : Int) 8
  have hw : IntKind.u64.wrap (xs.length : Int) = (xs.length : Int) := by rw [IntKind.wrap_u64]; omega
  go_enter Try.func88, Try.ntmps88
  go_wp2_with (go_at_call 98; refine (dbytes_any _ 8 _ (by omega) (by omega)).mono ?_; rintro e w1 ⟨rfl, ho1⟩)
  go_ret
  exact ⟨rfl, ho1⟩

theorem valP_congr {X Y : Nat → Int} : ∀ i, (∀ j, j < i → X j = Y j) → valP X i = valP Y i
  | 0, _ => rfl
  | i + 1, h => by
    show valP X i * 256 + X i = valP Y i * 256 + Y i
    rw [valP_congr i fun j hj => h j (by omega), h i (by omega)]
theorem valP_add (X : Nat → Int) (m : Nat) : ∀ k, valP X (m + k) = valP X m * 256 ^ k + valP (fun i => X (m + i)) k
  | 0 => by show valP X m = valP X m * 256 ^ 0 + 0; simp
  | k + 1 => by
    show valP X (m + k) * 256 + X (m + k) = valP X m * 256 ^ (k + 1) + (valP (fun i => X (m + i)) k * 256 + X (m + k))
    rw [valP_add X m k, Int.pow_succ, Int.add_mul, Int.mul_assoc]
    omega
theorem numF_val (X : Nat → Int) (q : Int) (hq : okM q = true) : ∀ i, numF X q i = valP X i % q
  | 0 => by show (0 : Int) = 0 % q; simp
  | i + 1 => by
    show addI (mulI (numF X q i) 256 q) (X i) q = (valP X i * 256 + X i) % q
    rw [numF_val X q hq i, addI_yes hq, mulI_yes hq]
    exact cong_add (by rw [mod_self]; exact cong_mul (mod_self _ _) rfl) rfl
/-- Two halves make the whole. -/
theorem number_halves (X : Nat → Int) (q : Int) : addI (mulI (valP X 8) (powI 2 64 q) q) (valP (fun i => X (8 + i)) 8) q = if okM q then numF X q 16 else 0 := by
  cases hq : okM q
  · rw [addI_no hq]; rfl
  · rw [if_pos rfl, numF_val X q hq 16, show (16 : Nat) = 8 + 8 from rfl, valP_add X 8 8, addI_yes hq, mulI_yes hq, powI_yes hq]
    refine cong_add ?_ rfl
    rw [mod_self]
    exact cong_mul rfl (mod_self _ _)

theorem dhalf_any (h : List Int) (a : Nat) (w : World) (hb : Bts h) (ha : a + 8 ≤ h.length) :
    Calls Try.prog 91 #[.string (strOfNums ((h.drop a).take 8))] w fun e w' => e = .returned (.int .u64 (valP (fun i => h.getD (a + i) 0) 8)) ∧ w' = w := by
  have hl : ((h.drop a).take 8).length = 8 := by rw [List.length_take, List.length_drop]; omega
  have := dnum_any ((h.drop a).take 8) w (fun x hx => hb x (List.mem_of_mem_drop (List.mem_of_mem_take hx))) (by omega)
  rw [hl] at this
  rwa [valP_congr 8 (X := fun i => ((h.drop a).take 8).getD i 0) (Y := fun i => h.getD (a + i) 0) fun j hj => by rw [getD_take hj, getD_drop]] at this
theorem valP_bd8 {X : Nat → Int} (h : ∀ i, 0 ≤ X i ∧ X i ≤ 255) : 0 ≤ valP X 8 ∧ valP X 8 ≤ 18446744073709551615 := by
  have := valP_bd h 8
  have e : (256 : Int) ^ 8 = 18446744073709551616 := by decide
  rw [e] at this
  omega

set_option maxHeartbeats 2000000 in
theorem dnumber_any (label : List Int) (a : Option Addr) (n cap : Nat) (S : Nat → List Int) (q : Int) (w : World) (hl : Bts label) (hin : StrsIn w a n S) (hn : n ≤ 1000) (hlen : (numL label S n).length ≤ 1000000) :
    Calls Try.prog 79 #[.string (strOfNums label), .slice a n cap, .int .u64 q] w fun e w' => e = .returned (.int .u64 (numberI label S n q)) ∧ Old w w' := by
  have HB : Hid (Bts label ∧ StrsIn w a n S) := ⟨hl, hin⟩
  clear hl hin
  have ll : (numL label S 0).length ≤ 1000000 := Nat.le_trans (numL_mono label S n (Nat.zero_le _)) hlen
  have ll' : (numL label S 0).length = 8 + label.length := by show (bytesL label.length 8 ++ label).length = _; rw [List.length_append, bytesL_len]
  have H0 : Hid (numL label S 0 = bytesL (label.length : Int) 8 ++ label) := rfl
  rw [ll'] at ll
  have HN := Bld.new w
  have HW : Hid (∀ wx, Old w wx → Bld w.heap.size w.heap.size [] wx → Calls Try.prog 87 #[.pointer (some ⟨w.heap.size, 0, none⟩), .string (strOfNums (bytesL (label.length : Int) 8 ++ label))] wx fun e w' => (∃ v, e = .returned (.tuple #[v, .nilIface])) ∧ Bld w.heap.size w.heap.size (numL label S 0) w' ∧ Below w.heap.size wx w') := fun wx ho hb => by
    refine (bld_write w.heap.size w.heap.size [] (bytesL (label.length : Int) 8 ++ label) wx hb (by rw [List.length_append, bytesL_len]; simp; omega) ho.size).mono ?_
    rintro e w' ⟨rfl, h1, h2⟩
    exact ⟨⟨_, rfl⟩, h1, h2⟩
  have HN : Hid (Bld w.heap.size w.heap.size [] (w.alloc (.cells #[.pointer none, .slice none 0 0] 116)) ∧ Old w (w.alloc (.cells #[.pointer none, .slice none 0 0] 116))) := ⟨HN, (Old.refl w).alloc _⟩
  go_enter Try.func79, Try.ntmps79
  go_wp2_with (first
    | (go_at_call 88; refine (dlen_any label _ (by omega)).mono ?_; rintro e w1 ⟨rfl, ho1⟩)
    | (go_at_call 87; refine (HW.out _ (HN.out.2.trans ho1) (HN.out.1.old ho1)).mono ?_; rintro e w2 ⟨⟨v, rfl⟩, hb2, hbel⟩))
  have HS : Hid (Old w w2 ∧ Bld w.heap.size w.heap.size (numL label S 0) w2) := ⟨(HN.out.2.trans ho1).thenBelow (Nat.le_refl _) hbel, hb2⟩
  clear ho1 hbel hb2 HN HW
  go_loopw [18] (fun iv wx => ∃ i : Nat, iv = .int .i64 (i : Int) ∧ i ≤ n ∧ Hid (Old w wx ∧ Bld w.heap.size w.heap.size (numL label S i) wx)) (fun iv _ => n - (intOf iv).toNat)
  case atStart => exact ⟨0, rfl, Nat.zero_le _, HS⟩
  case round =>
    obtain ⟨i, rfl, hi, HR⟩ := hrel
    by_cases hlt : i < n
    · have hm := numL_mono label S n (show i + 1 ≤ n by omega)
      rw [numL_succ_len] at hm
      rcases HB.out.2.old HR.out.1 with h0 | ⟨b, off, rfl, hb, hr⟩
      · omega
      have cp := (hr i hlt).1
      clear hr hb
      have HE : Hid (numL label S (i + 1) = numL label S i ++ (bytesL ((S i).length : Int) 8 ++ S i)) := rfl
      have HW : Hid (∀ wx, Old wr wx → Calls Try.prog 87 #[.pointer (some ⟨w.heap.size, 0, none⟩), .string (strOfNums (bytesL ((S i).length : Int) 8 ++ S i))] wx fun e w' => (∃ v, e = .returned (.tuple #[v, .nilIface])) ∧ Bld w.heap.size w.heap.size (numL label S (i + 1)) w' ∧ Below w.heap.size wx w') := fun wx ho => by
        refine (bld_write w.heap.size w.heap.size (numL label S i) (bytesL ((S i).length : Int) 8 ++ S i) wx (HR.out.2.old ho) (by rw [List.length_append, bytesL_len]; omega) (Nat.le_trans HR.out.1.size ho.size)).mono ?_
        rintro e w' ⟨rfl, h1, h2⟩
        exact ⟨⟨_, rfl⟩, by rw [HE.out]; exact h1, h2⟩
      have hl2 : (S i).length ≤ 1000000 := by omega
      clear hm
      go_wp2_with (first
        | (go_at_call 88; refine (dlen_any (S i) _ hl2).mono ?_; rintro e w1 ⟨rfl, ho1⟩)
        | (go_at_call 87; refine (HW.out _ ho1).mono ?_; rintro e w2 ⟨⟨v, rfl⟩, hb2, hbel⟩))
      go_roundw
      case rel => exact ⟨i + 1, by go_num, by omega, (HR.out.1.trans ho1).thenBelow (Nat.le_refl _) hbel, hb2⟩
      case measure => simp [intOf]; omega
    · have he : i = n := by omega
      subst he
      have HC : Hid (∀ wx, Calls Try.prog 89 #[.string (strOfNums (numL label S i))] wx fun e w' => e = .returned (.string (strOfNums (sumL (numL label S i)))) ∧ Old wx w') := fun wx => dsum_any _ wx (numL_bd HB.out.1 _ fun j hj => HB.out.2.bts hj) hlen
      have HG : Hid (Bts (sumL (numL label S i)) ∧ (sumL (numL label S i)).length = 32) := ⟨sumL_bd _, sumL_len _⟩
      have HF : Hid (numberI label S i q = if okM q then numF (fun j => (sumL (numL label S i)).getD j 0) q 16 else 0) := rfl
      generalize sumL (numL label S i) = h at *
      have zh := HG.out.2
      have hsz : (strOfNums h).size = 32 := by rw [strOfNums_size]; exact zh
      have hc1 : (strOfNums h).extract 0 8 = strOfNums ((h.drop 0).take 8) := str_part h 0 8
      have hc2 : (strOfNums h).extract 8 16 = strOfNums ((h.drop 8).take 8) := str_part h 8 16
      have A1 := fun wx => dhalf_any h 0 wx HG.out.1 (by omega)
      have A2 := fun wx => dhalf_any h 8 wx HG.out.1 (by omega)
      have e1 : valP (fun i => h.getD (0 + i) 0) 8 = valP (fun i => h.getD i 0) 8 := valP_congr 8 fun j _ => by rw [Nat.zero_add]
      have hv := number_halves (fun i => h.getD i 0) q
      obtain ⟨b0, b1⟩ := valP_bd8 (getD_bd HG.out.1)
      obtain ⟨d0, d1⟩ := valP_bd8 (X := fun i => h.getD (8 + i) 0) (fun i => getD_bd HG.out.1 (8 + i))
      rw [e1] at A1
      have HV : Hid (addI (mulI (valP (fun i => h.getD i 0) 8) (powI 2 64 q) q) (valP (fun i => h.getD (8 + i) 0) 8) q = numberI label S i q) := by rw [HF.out]; exact hv
      clear hv
      generalize valP (fun i => h.getD i 0) 8 = x at *
      generalize valP (fun i => h.getD (8 + i) 0) 8 = y at *
      generalize (h.drop 0).take 8 = h1 at *
      generalize (h.drop 8).take 8 = h2 at *
      have A1 : Hid (∀ wx, Calls Try.prog 91 #[.string (strOfNums h1)] wx fun e w' => e = .returned (.int .u64 x) ∧ w' = wx) := A1
      have A2 : Hid (∀ wx, Calls Try.prog 91 #[.string (strOfNums h2)] wx fun e w' => e = .returned (.int .u64 y) ∧ w' = wx) := A2
      clear e1
      obtain ⟨p0, p1⟩ := powI_bd 2 64 q
      obtain ⟨m0, m1⟩ := mulI_bd x (powI 2 64 q) q
      have CP : Hid (∀ wx, Calls Try.prog 77 #[.int .u64 2, .int .u64 64, .int .u64 q] wx fun e w' => e = .returned (.int .u64 (powI 2 64 q)) ∧ ∃ n, w' = wx.drewN n) := fun wx => pow_any 2 64 q wx (by decide) (by decide) (by decide) (by decide)
      generalize powI 2 64 q = p at *
      have CM : Hid (∀ wx, Calls Try.prog 48 #[.int .u64 x, .int .u64 p, .int .u64 q] wx fun e w' => e = .returned (.int .u64 (mulI x p q)) ∧ ∃ n, w' = wx.drewN n) := fun wx => mul_any x p q wx b0 b1 p0 (by omega)
      generalize mulI x p q = z at *
      have CA : Hid (∀ wx, Calls Try.prog 47 #[.int .u64 z, .int .u64 y, .int .u64 q] wx fun e w' => e = .returned (.int .u64 (addI z y q)) ∧ ∃ n, w' = wx.drewN n) := fun wx => add_any z y q wx m0 (by omega) d0 d1
      generalize addI z y q = r at *
      go_wp2_with (first
        | (go_at_call 90; refine (bld_string w.heap.size w.heap.size _ _ HR.out.2 HR.out.1.size).mono ?_; rintro e w3 ⟨rfl, hbel⟩)
        | (go_at_call 89; refine (HC.out _).mono ?_; rintro e w4 ⟨rfl, ho4⟩))
      have HO : Hid (Old w w4) := (HR.out.1.thenBelow (Nat.le_refl _) hbel).trans ho4
      clear ho4 hbel
      go_quiet (first
        | (go_at_call_of 91 (Value.string (strOfNums h1)); exact Calls.quiet_of_same (A1.out _))
        | (go_at_call_of 91 (Value.string (strOfNums h2)); exact Calls.quiet_of_same (A2.out _)))
      go_wp2_with (first
        | (go_at_call 77; refine (CP.out _).mono ?_; rintro e w5 ⟨rfl, n5, hw5⟩)
        | (go_at_call 48; refine (CM.out _).mono ?_; rintro e w6 ⟨rfl, n6, hw6⟩)
        | (go_at_call 47; refine (CA.out _).mono ?_; rintro e w7 ⟨rfl, n7, hw7⟩))
      go_ret
      refine ⟨by rw [← HV.out]; rfl, ?_⟩
      first
        | exact HO.out.drewN _
        | (rw [hw7, hw6, hw5]; exact (((HO.out.drewN _).drewN n5).drewN n6).drewN n7)

end Go.Proofs.Ytokhpppealdfmaf

namespace Go.Proofs.Ytokhpppealdfmaf
open Go.RowKit

/-- Lists that lie one behind the other: how long each is. -/
def LensIn (w : World) (a : Option Addr) (n : Nat) (LA : Nat → Option Addr) (M C : Nat → Nat) : Prop :=
  n = 0 ∨ ∃ b off, a = some ⟨b, off, none⟩ ∧ b < w.heap.size ∧ ∀ i, i < n → w.cell? ⟨b, off + i, none⟩ = some (.slice (LA i) (M i) (C i))
theorem LensIn.old {w w' : World} {a : Option Addr} {n : Nat} {LA : Nat → Option Addr} {M C : Nat → Nat} (h : LensIn w a n LA M C) (ho : Old w w') : LensIn w' a n LA M C := by
  rcases h with h | ⟨b, off, ha, hb, hr⟩
  · exact Or.inl h
  · exact Or.inr ⟨b, off, ha, Nat.lt_of_lt_of_le hb ho.size, fun i hi => ho.cellOf (hr i hi)⟩
theorem ListsIn.lens {w : World} {a : Option Addr} {n : Nat} {BA : Nat → Option Addr} {L C : Nat → Nat} {B : Nat → Nat → Int} (h : ListsIn w a n BA L C B) : LensIn w a n BA L C := by
  rcases h with h | ⟨b, off, ha, hb, hr⟩
  · exact Or.inl h
  · exact Or.inr ⟨b, off, ha, hb, fun i hi => (hr i hi).1⟩

def fewL (k : Nat) (M : Nat → Nat) (m : Nat) : Bool := (List.range k).all fun i => decide (M i ≤ m)
theorem fewL_iff {k : Nat} {M : Nat → Nat} {m : Nat} : fewL k M m = true ↔ ∀ i, i < k → M i ≤ m := by simp [fewL]
def fewC (nt nb : Nat) (L : Nat → Nat) (k : Nat) (M : Nat → Nat) : Bool := decide (nt ≤ 20) && (decide (nb ≤ 20) && (fewL nb L 20 && fewL k M 80))
theorem fewC_iff {nt nb : Nat} {L : Nat → Nat} {k : Nat} {M : Nat → Nat} : fewC nt nb L k M = true ↔ nt ≤ 20 ∧ nb ≤ 20 ∧ (∀ i, i < nb → L i ≤ 20) ∧ ∀ i, i < k → M i ≤ 80 := by
  simp [fewC, fewL_iff]

set_option maxHeartbeats 4000000 in
theorem few6_any (bt : Option Addr) (nt ct : Nat) (bb : Option Addr) (nb cb : Nat) (BA : Nat → Option Addr) (L C : Nat → Nat) (bl : Option Addr) (nl cl : Nat) (LA : Nat → Option Addr) (M C2 : Nat → Nat) (w : World) (hnl : nl ≤ 9) (hB : LensIn w bb nb BA L C) (hL : LensIn w bl nl LA M C2) :
    Calls Try.prog 21 #[cv bt nt ct bb nb cb, .slice bl nl cl] w fun e w' => e = .returned (.bool (fewC nt nb L nl M)) ∧ Old w w' := by
  have HB : Hid (LensIn w bb nb BA L C) := hB
  have HL : Hid (LensIn w bl nl LA M C2) := hL
  clear hB hL
  have HZ := lain1 w (cc bt nt ct bb nb cb) 34
  have HF : Hid (∀ w', Lain w [(cc bt nt ct bb nb cb, 34)] w' → w'.cell? ⟨w.heap.size, 0, none⟩ = some (.slice bt nt ct) ∧ w'.cell? ⟨w.heap.size, 1, none⟩ = some (.slice bb nb cb)) := fun _ h => ⟨h.cell 0 0 (by simp) rfl, h.cell 0 1 (by simp) rfl⟩
  go_enter Try.func21, Try.ntmps21
  go_upto_region 1 with fail
  generalize hW : w.alloc (.cells (cc bt nt ct bb nb cb) 34) = W at *
  clear hW
  have HW0 : Hid (Old w W) := HZ.old
  obtain ⟨t0, t1⟩ := HF.out _ HZ
  by_cases h1 : 20 < nt
  · have HN : Hid (fewC nt nb L nl M = false) := no_of fun h => by have := (fewC_iff.1 h).1; omega
    have k1 : (20 : Int) < (nt : Int) := by omega
    go_wp2_with fail
    go_ret
    exact ⟨ret_bool HN.out.symm, HW0.out⟩
  by_cases h2 : 20 < nb
  · have HN : Hid (fewC nt nb L nl M = false) := no_of fun h => by have := (fewC_iff.1 h).2.1; omega
    have k1 : ¬ (20 : Int) < (nt : Int) := by omega
    have k2 : (20 : Int) < (nb : Int) := by omega
    go_wp2_with fail
    go_ret
    exact ⟨ret_bool HN.out.symm, HW0.out⟩
  have k1 : ¬ (20 : Int) < (nt : Int) := by omega
  have k2 : ¬ (20 : Int) < (nb : Int) := by omega
  go_wp2_with fail
  clear k1 k2
  go_loopw [22] (fun iv wx => ∃ i : Nat, iv = .int .i64 (i : Int) ∧ i ≤ nb ∧ wx = W ∧ Hid (∀ j, j < i → L j ≤ 20)) (fun iv _ => nb - (intOf iv).toNat)
  case atStart => exact ⟨0, rfl, Nat.zero_le _, rfl, fun j hj => by omega⟩
  case round =>
    obtain ⟨i, rfl, hi, rfl, HJ⟩ := hrel
    by_cases hlt : i < nb
    · rcases HB.out.old HW0.out with h0 | ⟨b, off, hq, _, hr⟩
      · omega
      have cl1 := hr i hlt
      clear hr
      subst hq
      by_cases hl : 20 < L i
      · have HN : Hid (fewC nt nb L nl M = false) := no_of fun h => by have := (fewC_iff.1 h).2.2.1 i hlt; omega
        have k3 : (20 : Int) < (L i : Int) := by omega
        go_wp2_with fail
        go_ret
        exact ⟨ret_bool HN.out.symm, HW0.out⟩
      · have HM : Hid (L i ≤ 20) := by unfold Hid; omega
        have k3 : ¬ (20 : Int) < (L i : Int) := by omega
        go_wp2_with fail
        go_roundw
        case rel => exact ⟨i + 1, idx_next i, by omega, by trivial, upto_succ HJ.out HM.out⟩
        case measure => simp [intOf]; omega
    · have he : nb = i := by omega
      subst he
      go_wp2_with fail
      go_loopw [32] (fun iv wx => ∃ i : Nat, iv = .int .i64 (i : Int) ∧ i ≤ nl ∧ Hid (Old w wx) ∧ Hid (∀ j, j < i → M j ≤ 80)) (fun iv _ => nl - (intOf iv).toNat)
      case atStart => exact ⟨0, rfl, Nat.zero_le _, HW0, fun j hj => by omega⟩
      case round =>
        obtain ⟨i, rfl, hi2, HO, HM⟩ := hrel
        by_cases hlt : i < nl
        · rcases HL.out.old HO.out with h0 | ⟨b, off, hq, _, hr⟩
          · omega
          have cl1 := hr i hlt
          clear hr
          subst hq
          by_cases hl : 80 < M i
          · have HN : Hid (fewC nt nb L nl M = false) := no_of fun h => by have := (fewC_iff.1 h).2.2.2 i hlt; omega
            have k3 : (80 : Int) < (M i : Int) := by omega
            go_wp2_with fail
            go_ret
            exact ⟨ret_bool HN.out.symm, HO.out⟩
          · have HM1 : Hid (M i ≤ 80) := by unfold Hid; omega
            have k3 : ¬ (80 : Int) < (M i : Int) := by omega
            go_wp2_with fail
            go_roundw
            case rel => exact ⟨i + 1, idx_next i, by omega, HO, upto_succ HM.out HM1.out⟩
            case measure => simp [intOf]; omega
        · have he : nl = i := by omega
          subst he
          have HN : Hid (fewC nt nb L nl M = true) := fewC_iff.2 ⟨by omega, by omega, HJ.out, HM.out⟩
          go_wp2_with fail
          go_ret
          exact ⟨ret_bool HN.out.symm, HO.out⟩

end Go.Proofs.Ytokhpppealdfmaf

namespace Go.Proofs.Ytokhpppealdfmaf
open Go.RowKit

theorem info_claim : (Try.prog.info? 34).map (·.size) = some 2 := by kernel_rfl
theorem result_pair {P : Program} {fn : Func} {p u : Tmp} {t : TypeId} {tmps : Array Value} {w : World} {b : Nat} {v x : Value} (h : fn.results = #[.cell p t, .tmp u]) (hp : tmps.getD p undef = .pointer (some ⟨b, 0, none⟩)) (hu : tmps.getD u undef = x) (hl : (loadVar t ⟨b, 0, none⟩).run P w = .ok v w) :
    (results fn tmps).run P w = .ok (.tuple #[v, x]) w := by
  rw [results_cell_tmp h, hp, hu]
  simp [asAddr, hl, Result.andThen]

theorem Nums.facs2 {w : World} {base k : Nat} {v : Value} {F : Nat → Int} (h : Nums w base v k F) (hF : ∀ i, i < k → U64 (F i)) : ∃ b c, v = .slice b k c ∧ k ≤ c ∧ c ≤ 9223372036854775807 ∧ FacsIn w b k F := by
  have hm : ∀ b c, v = .slice b k c → c ≤ 9223372036854775807 := fun b c e => by
    rcases h.2 with ⟨e2, _⟩ | ⟨g, cap, cur, e2, _, _, _, hm, _⟩
    · rw [e] at e2
      cases e2
      omega
    · rw [e] at e2
      cases e2
      unfold maxLen at hm
      omega
  obtain ⟨b, c, e, h1, h2⟩ := h.facs hF
  exact ⟨b, c, e, h1, hm b c e, h2⟩

/-- The claim in its variable, with as many targets as it has come to. -/
structure Cl (W : World) (bb : Option Addr) (nb cb : Nat) (v : Value) (i : Nat) (wx : World) : Prop where
  old : Old W wx
  row : wx.heap[W.heap.size]? = some (.cells #[v, .slice bb nb cb] 34 (0, 0))
  nums : Nums wx (W.heap.size + 1) v i (fun _ => 1)
theorem Cl.size {W wx : World} {bb : Option Addr} {nb cb : Nat} {v : Value} {i : Nat} (h : Cl W bb nb cb v i wx) : W.heap.size + 1 ≤ wx.heap.size := (Array.getElem?_eq_some_iff.1 h.row).1
theorem Cl.new (W : World) (bb : Option Addr) (nb cb : Nat) : Cl W bb nb cb (.slice none 0 0) 0 (W.alloc (.cells #[.slice none 0 0, .slice bb nb cb] 34)) :=
  ⟨(Old.refl _).alloc _, heap_alloc_last W _, nums_nil _ _ _⟩
theorem Cl.old' {W wx w' : World} {bb : Option Addr} {nb cb : Nat} {v : Value} {i : Nat} (h : Cl W bb nb cb v i wx) (ho : Old wx w') : Cl W bb nb cb v i w' :=
  ⟨h.old.trans ho, (ho.block _ h.size).trans h.row, h.nums.old ho⟩
theorem Cl.set {W wx : World} {bb : Option Addr} {nb cb : Nat} {v u : Value} {i k : Nat} (h : Old W wx) (hrow : wx.heap[W.heap.size]? = some (.cells #[v, .slice bb nb cb] 34 (0, 0))) (hn : Nums wx (W.heap.size + 1) u k (fun _ => 1)) (_hi : i = k) : Cl W bb nb cb u k (wx.setCell ⟨W.heap.size, 0, none⟩ u) :=
  ⟨h.setCell (Nat.le_refl _) _, by have := set_row hrow 0 u; simpa using this, ownsRow_setCell_below hn (Nat.lt_succ_self _) _⟩
theorem Cl.grown {W wx w' : World} {bb : Option Addr} {nb cb : Nat} {v : Value} {i : Nat} {o : Obj} (h : Cl W bb nb cb v i wx) (hg : (wx.alloc o).grownBy w' v.ownBlock) : Old W w' ∧ w'.heap[W.heap.size]? = some (.cells #[v, .slice bb nb cb] 34 (0, 0)) := by
  have hk : ∀ k, v.ownBlock = some k → W.heap.size + 1 ≤ k := fun k hk => (World.ownsRow.lt h.nums k hk).1
  refine ⟨(h.old.alloc o).grown hg fun k e => by have := hk k e; omega, ?_⟩
  have hs := h.size
  rw [hg.block W.heap.size (by simp; omega) (fun e => by have := hk _ e.symm; omega), Below.heap_alloc _ _ _ (by omega)]
  exact h.row

theorem lens_one (w : World) (b : Option Addr) (n c : Nat) (t : TypeId) : LensIn (w.alloc (.cells #[.slice b n c] t)) (some ⟨w.heap.size, 0, none⟩) 1 (fun _ => b) (fun _ => n) (fun _ => c) := by
  refine Or.inr ⟨_, _, rfl, by simp, fun j hj => ?_⟩
  match j, hj with
  | 0, _ => exact (World.cell?_alloc_mark w _ t (0, 0) 0).trans rfl

/-- A claim was made, or none. -/
def MadeC (fw ok : Bool) (F : Nat → Int) (bb : Option Addr) (nb cb : Nat) (BA : Nat → Option Addr) (L C : Nat → Nat) (B : Nat → Nat → Int) (w : World) (r : Ending) (w' : World) : Prop :=
  ∃ bt nt ct o, r = .returned (.tuple #[cv bt nt ct bb nb cb, .bool o]) ∧ Old w w' ∧ (o = true → fw = true ∧ ok = true ∧ nt = nb ∧ ClaimIn w' bt nb ct F bb nb cb BA L C B)

set_option linter.unusedSimpArgs false in
set_option maxRecDepth 100000 in
set_option maxHeartbeats 8000000 in
theorem claim6_any (P Q G H : Int) (a : Option Addr) (n cap : Nat) (bb : Option Addr) (nb cb : Nat) (BA : Nat → Option Addr) (L C : Nat → Nat) (B : Nat → Nat → Int) (bw : Option Addr) (nw cw : Nat) (X : Nat → Int) (w : World) (h4 : Four P Q G H) (hbn : nb ≤ 5864062014634) (hcb : nb ≤ cb) (hcm : cb ≤ 9223372036854775807) (hB : ListsIn w bb nb BA L C B) (hX : FacsIn w bw nw X) :
    Calls Try.prog 11 #[gv P Q G H a n cap, .slice bb nb cb, .slice bw nw cw] w (MadeC (fewC nb nb L 1 (fun _ => nw)) (fitsB (sizeN P Q nb (fun _ => 1) nb L B) nw) (fun j => imI P Q (B j) X (sizeN P Q nb (fun _ => 1) nb L B)) bb nb cb BA L C B w) := by
  have HZ := lain2 w (gc P Q G H a n cap) (cc none 0 0 none 0 0) 25 34
  have HB : Hid (ListsIn w bb nb BA L C B) := hB
  have HFe : Hid (∀ bt ct wx t, Old w wx → Calls Try.prog 21 #[cv bt nb ct bb nb cb, .slice (some ⟨wx.heap.size, 0, none⟩) 1 1] (wx.alloc (.cells #[.slice bw nw cw] t)) fun e w' => e = .returned (.bool (fewC nb nb L 1 (fun _ => nw))) ∧ Old wx w') := fun bt ct wx t ho =>
    (few6_any bt nb ct bb nb cb BA L C _ 1 1 _ (fun _ => nw) _ _ (by omega) ((hB.lens.old ho).old ((Old.refl _).alloc _)) (lens_one wx bw nw cw t)).mono fun e w' ⟨h, k⟩ => ⟨h, ((Old.refl _).alloc _).trans k⟩
  have HIm : Hid (∀ bt ct wx, Old w wx → nb ≤ ct → ct ≤ 9223372036854775807 → FacsIn wx bt nb (fun _ => 1) → Calls Try.prog 46 #[gv P Q G H a n cap, cv bt nb ct bb nb cb, .slice bw nw cw] wx (Gives wx (fitsB (sizeN P Q nb (fun _ => 1) nb L B) nw) nb (fun j => imI P Q (B j) X (sizeN P Q nb (fun _ => 1) nb L B)))) := fun bt ct wx ho h1 h2 hT =>
    rimage_any P Q G H a n cap bt nb ct (fun _ => 1) bb nb cb BA L C B bw nw cw X wx h4 ⟨h1, h2, hcb, hcm, hT, hB.old ho⟩ (hX.old ho)
  have HFU : Hid (∀ j, U64 (imI P Q (B j) X (sizeN P Q nb (fun _ => 1) nb L B))) := fun j => u64_prod _ _ _
  obtain ⟨F, hF⟩ : ∃ F : Nat → Int, F = fun j => imI P Q (B j) X (sizeN P Q nb (fun _ => 1) nb L B) := ⟨_, rfl⟩
  have HFU : Hid (∀ j, U64 (F j)) := fun j => by rw [hF]; exact u64_prod _ _ _
  rw [← hF] at HIm ⊢
  clear hF h4 hX hB
  generalize fitsB (sizeN P Q nb (fun _ => 1) nb L B) nw = ok at *
  generalize fewC nb nb L 1 (fun _ => nw) = fw at *
  obtain ⟨i0, hi, hz0, hz1, hz2⟩ := info_parts u64info
  go_enter Try.func11, Try.ntmps11
  go_upto_region 1 with fail
  generalize hW : (w.alloc (.cells (gc P Q G H a n cap) 25)).alloc (.cells (cc none 0 0 none 0 0) 34) = W at *
  clear hW
  have HW0 : Hid (Old w W) := HZ.old
  have hWs : w.heap.size + 2 ≤ W.heap.size := HZ.size
  have HC0 := Cl.new W bb nb cb
  go_wp2_with fail
  generalize W.alloc (.cells #[.slice none 0 0, .slice bb nb cb] 34) = W3 at *
  go_loopw [15] (fun iv wx => ∃ i : Nat, ∃ v : Value, iv = .int .i64 (i : Int) ∧ i ≤ nb ∧ Hid (Cl W bb nb cb v i wx)) (fun iv _ => nb - (intOf iv).toNat)
  case atStart => exact ⟨0, _, rfl, Nat.zero_le _, HC0⟩
  case round =>
    obtain ⟨i, v, rfl, hi1, HCl⟩ := hrel
    have hs := HCl.out.size
    have c0 : wr.cell? ⟨W.heap.size, 0, none⟩ = some v := cell_of_row _ _ 0 _ _ (0, 0) HCl.out.row
    have c1 : wr.cell? ⟨W.heap.size, 1, none⟩ = some (.slice bb nb cb) := cell_of_row _ _ 1 _ _ (0, 0) HCl.out.row
    by_cases hlt : i < nb
    · go_upto_region 4 with fail
      go_wp2_with (at_builtin; refine wpList_append_lies _ rfl _ _ 27 rfl (W.heap.size + 1) 22 i0 (.int .u64 0) 1 8 Try.underlying27 hi hz0 hz1 hz2 rfl (by decide) _ _ _ rfl (World.ownsRow.alloc HCl.out.nums _) ⟨wr.heap.size, 0, none⟩ 1 1 [.int .u64 1] rfl rfl ?c1 ?c2 (by decide) ?c3 ?c4 ?c5 _ rfl ?_)
      case c1 => exact cell_one_new _ _ _
      case c2 => intro u hu; simp at hu; subst hu; rfl
      case c3 => unfold maxLen; omega
      case c4 => omega
      case c5 => simp; omega
      intro g5 cap5 w5 hown5 hgrow5 _ _
      have hg5 := HCl.out.grown hgrow5
      have hN5 := Nums.app (F := fun _ => 1) hown5 rfl
      have HR5 : Hid (w5.heap[W.heap.size]? = some (.cells #[v, .slice bb nb cb] 34 (0, 0))) := hg5.2
      have HO5 : Hid (Old W w5) := hg5.1
      have HN5 : Hid (Nums w5 (W.heap.size + 1) (.slice (some ⟨g5, 0, none⟩) (i + 1) cap5) (i + 1) (fun _ => 1)) := hN5
      clear hg5 hN5 hown5 hgrow5
      have q0 : w5.cell? ⟨W.heap.size, 0, none⟩ = some v := cell_of_row _ _ 0 _ _ (0, 0) HR5.out
      have f0 : w5.frozen? ⟨W.heap.size, 0, none⟩ = false := row_frozen HR5.out 0
      go_wp2
      go_roundw
      case rel => exact ⟨i + 1, _, idx_next i, by omega, Cl.set HO5.out HR5.out HN5.out rfl⟩
      case measure => simp [intOf]; omega
    · have he : nb = i := by omega
      subst he
      obtain ⟨bt, ct, rfl, hct, hctm, hft⟩ := HCl.out.nums.facs2 (fun _ _ => ⟨by omega, by omega⟩)
      have HOw : Hid (Old w wr) := HW0.out.trans HCl.out.old
      have HF1 : Hid (∀ t, Calls Try.prog 21 #[cv bt nb ct bb nb cb, .slice (some ⟨wr.heap.size, 0, none⟩) 1 1] (wr.alloc (.cells #[.slice bw nw cw] t)) fun e w' => e = .returned (.bool fw) ∧ Old wr w') := fun t => HFe.out bt ct wr t HOw.out
      have HPC : Hid (∀ w', Old W w' → w'.cell? ⟨w.heap.size, 0, none⟩ = some (.int .u64 P) ∧ w'.cell? ⟨w.heap.size, 1, none⟩ = some (.int .u64 Q) ∧ w'.cell? ⟨w.heap.size, 2, none⟩ = some (.int .u64 G) ∧ w'.cell? ⟨w.heap.size, 3, none⟩ = some (.int .u64 H) ∧ w'.cell? ⟨w.heap.size, 4, none⟩ = some (.slice a n cap)) := fun w' ho => ⟨(HZ.then ho).cell 0 0 (by simp) rfl, (HZ.then ho).cell 0 1 (by simp) rfl, (HZ.then ho).cell 0 2 (by simp) rfl, (HZ.then ho).cell 0 3 (by simp) rfl, (HZ.then ho).cell 0 4 (by simp) rfl⟩
      have HRS : Hid (∀ w', Old W w' → w'.heap[w.heap.size + 1]? = some (.cells #[.slice none 0 0, .slice none 0 0] 34 (0, 0))) := fun w' ho => (HZ.then ho).row 1 (by simp)
      cases fw with
      | false =>
        go_upto_region 7 with (go_at_call 21; refine (HF1.out _).mono ?_; rintro e w5 ⟨rfl, h5⟩)
        have hc5 := HCl.out.old' h5
        have HR5 : Hid (w5.heap[w.heap.size + 1]? = some (.cells #[.slice none 0 0, .slice none 0 0] 34 (0, 0))) := HRS.out _ hc5.old
        have HO5 : Hid (Old w w5) := HOw.out.trans h5
        have z0 : w5.cell? ⟨W.heap.size, 0, none⟩ = some (.slice bt nb ct) := cell_of_row _ _ 0 _ _ (0, 0) hc5.row
        have z1 : w5.cell? ⟨W.heap.size, 1, none⟩ = some (.slice bb nb cb) := cell_of_row _ _ 1 _ _ (0, 0) hc5.row
        have q0 : w5.cell? ⟨w.heap.size + 1, 0, none⟩ = some (.slice none 0 0) := cell_of_row _ _ 0 _ _ (0, 0) HR5.out
        have q1 : w5.cell? ⟨w.heap.size + 1, 1, none⟩ = some (.slice none 0 0) := cell_of_row _ _ 1 _ _ (0, 0) HR5.out
        have f0 : w5.frozen? ⟨w.heap.size + 1, 0, none⟩ = false := row_frozen HR5.out 0
        have f1 : w5.frozen? ⟨w.heap.size + 1, 1, none⟩ = false := row_frozen HR5.out 1
        clear hc5 h5 HF1
        go_wp2_with fail
        exact bodyPost_ret (result_pair (b := w.heap.size + 1) rfl rfl rfl (load_two HR5.out Try.underlying34 info_claim)) rfl ⟨bt, nb, ct, false, rfl, (HO5.out.setCell (by simp) _).setCell (by simp) _, fun h => by cases h⟩
      | true =>
        go_upto_region 8 with (go_at_call 21; refine (HF1.out _).mono ?_; rintro e w5 ⟨rfl, h5⟩)
        have HC5 : Hid (Cl W bb nb cb (.slice bt nb ct) nb w5) := HCl.out.old' h5
        have HO5 : Hid (Old w w5) := HOw.out.trans h5
        have HI5 : Hid (Calls Try.prog 46 #[gv P Q G H a n cap, cv bt nb ct bb nb cb, .slice bw nw cw] w5 (Gives w5 ok nb F)) := HIm.out bt ct w5 HO5.out hct hctm (hft.old h5)
        have z0 : w5.cell? ⟨W.heap.size, 0, none⟩ = some (.slice bt nb ct) := cell_of_row _ _ 0 _ _ (0, 0) HC5.out.row
        have z1 : w5.cell? ⟨W.heap.size, 1, none⟩ = some (.slice bb nb cb) := cell_of_row _ _ 1 _ _ (0, 0) HC5.out.row
        obtain ⟨p0, p1, p2, p3, p4⟩ := HPC.out _ HC5.out.old
        go_upto_region 9 with (go_at_call 46; refine HI5.out.mono ?_; rintro e w6 ⟨v6, rfl, hN6, h6⟩)
        obtain ⟨b6, c6, rfl, hc6, hm6, _⟩ := hN6.facs2 (fun j _ => HFU.out j)
        have HC6 : Hid (Cl W bb nb cb (.slice bt nb ct) nb w6) := HC5.out.old' h6
        have HO6 : Hid (Old w w6) := HO5.out.trans h6
        have hs5 := HC5.out.size
        have hs6 := HC6.out.size
        have HN6 : Hid (Nums w6 w5.heap.size (.slice b6 (if ok = true then nb else 0) c6) (if ok = true then nb else 0) F) := hN6
        clear p0 p1 p2 p3 p4 z0 z1 c0 c1 hN6 h6 h5 hft
        generalize hk : (if ok = true then nb else 0) = k6 at *
        have HK : Hid ((if ok = true then nb else 0) = k6) := hk
        clear hk
        have q0 : w6.cell? ⟨W.heap.size, 0, none⟩ = some (.slice bt nb ct) := cell_of_row _ _ 0 _ _ (0, 0) HC6.out.row
        have f0 : w6.frozen? ⟨W.heap.size, 0, none⟩ = false := row_frozen HC6.out.row 0
        go_upto_region 10 with fail
        have hr7 := set_row HC6.out.row 0 (.slice b6 k6 c6)
        have HO7 : Hid (Old w (w6.setCell ⟨W.heap.size, 0, none⟩ (.slice b6 k6 c6))) := HO6.out.setCell (by show w.heap.size ≤ W.heap.size; omega) _
        have HN7 : Hid (Nums (w6.setCell ⟨W.heap.size, 0, none⟩ (.slice b6 k6 c6)) w5.heap.size (.slice b6 k6 c6) k6 F) := ownsRow_setCell_below HN6.out (by show W.heap.size < w5.heap.size; omega) _
        have HR7 : Hid ((w6.setCell ⟨W.heap.size, 0, none⟩ (.slice b6 k6 c6)).heap[w.heap.size + 1]? = some (.cells #[.slice none 0 0, .slice none 0 0] 34 (0, 0))) := HRS.out _ (HC6.out.old.setCell (Nat.le_refl _) _)
        generalize w6.setCell ⟨W.heap.size, 0, none⟩ (.slice b6 k6 c6) = w7 at *
        have z0 : w7.cell? ⟨W.heap.size, 0, none⟩ = some (.slice b6 k6 c6) := by rw [cell_of_row _ _ 0 _ _ (0, 0) hr7]; simp
        have z1 : w7.cell? ⟨W.heap.size, 1, none⟩ = some (.slice bb nb cb) := by rw [cell_of_row _ _ 1 _ _ (0, 0) hr7]; simp
        clear hr7 q0 f0
        have q0 : w7.cell? ⟨w.heap.size + 1, 0, none⟩ = some (.slice none 0 0) := cell_of_row _ _ 0 _ _ (0, 0) HR7.out
        have q1 : w7.cell? ⟨w.heap.size + 1, 1, none⟩ = some (.slice none 0 0) := cell_of_row _ _ 1 _ _ (0, 0) HR7.out
        have f0 : w7.frozen? ⟨w.heap.size + 1, 0, none⟩ = false := row_frozen HR7.out 0
        have f1 : w7.frozen? ⟨w.heap.size + 1, 1, none⟩ = false := row_frozen HR7.out 1
        go_wp2_with fail
        refine bodyPost_ret (result_pair (b := w.heap.size + 1) rfl rfl rfl (load_two HR7.out Try.underlying34 info_claim)) rfl ⟨b6, k6, c6, ok, rfl, (HO7.out.setCell (by simp) _).setCell (by simp) _, fun hok => ?_⟩
        have hk : nb = k6 := by have := HK.out; rw [if_pos hok] at this; exact this
        subst hk
        have hn9 : Nums ((w7.setCell ⟨w.heap.size + 1, 0, none⟩ (.slice b6 nb c6)).setCell ⟨w.heap.size + 1, 1, none⟩ (.slice bb nb cb)) w5.heap.size (.slice b6 nb c6) nb F := ownsRow_setCell_below (ownsRow_setCell_below HN7.out (by show w.heap.size + 1 < w5.heap.size; omega) _) (by show w.heap.size + 1 < w5.heap.size; omega) _
        obtain ⟨_, _, e9, _, _, hf9⟩ := hn9.facs2 (fun j _ => HFU.out j)
        cases e9
        exact ⟨rfl, hok, rfl, hc6, hm6, hcb, hcm, hf9, HB.out.old ((HO7.out.setCell (by simp) _).setCell (by simp) _)⟩

end Go.Proofs.Ytokhpppealdfmaf

namespace Go.Proofs.Ytokhpppealdfmaf
open Go.RowKit

/-- A claim of few targets and bases. -/
def FewI (nt nb : Nat) (L : Nat → Nat) : Prop := nt ≤ 20 ∧ nb ≤ 20 ∧ ∀ j, j < nb → L j ≤ 20
/-- The program's size answers as the document says, of groups that are right. -/
def Lsize : Prop := ∀ (P Q G H : Int) (a : Option Addr) (n cap : Nat) (bt : Option Addr) (nt ct : Nat) (T : Nat → Int) (bb : Option Addr) (nb cb : Nat) (BA : Nat → Option Addr) (L C : Nat → Nat) (B : Nat → Nat → Int) (w : World), Four P Q G H → Righ P Q G → FewI nt nb L → ClaimIn w bt nt ct T bb nb cb BA L C B →
    Calls Try.prog 44 #[gv P Q G H a n cap, cv bt nt ct bb nb cb] w fun e w' => e = .returned (.int .i64 (sizeN P Q nt T nb L B : Nat)) ∧ Old w w'
/-- The program's image answers as the document says, of groups that are right. -/
def Limage : Prop := ∀ (P Q G H : Int) (a : Option Addr) (n cap : Nat) (bt : Option Addr) (nt ct : Nat) (T : Nat → Int) (bb : Option Addr) (nb cb : Nat) (BA : Nat → Option Addr) (L C : Nat → Nat) (B : Nat → Nat → Int) (bz : Option Addr) (nz cz : Nat) (X : Nat → Int) (w : World), Four P Q G H → Righ P Q G → FewI nt nb L → nz ≤ 80 → nz ≤ cz → ClaimIn w bt nt ct T bb nb cb BA L C B → FacsIn w bz nz X →
    Calls Try.prog 15 #[gv P Q G H a n cap, cv bt nt ct bb nb cb, .slice bz nz cz] w (Gives w (fitsB (sizeN P Q nt T nb L B) nz) nt (fun j => imI P Q (B j) X (sizeN P Q nt T nb L B)))
/-- The program's holds answers as the document says, of groups that are right. -/
def Lholds : Prop := ∀ (P Q G H : Int) (a : Option Addr) (n cap : Nat) (bt : Option Addr) (nt ct : Nat) (T : Nat → Int) (bb : Option Addr) (nb cb : Nat) (BA : Nat → Option Addr) (L C : Nat → Nat) (B : Nat → Nat → Int) (bz : Option Addr) (nz cz : Nat) (X : Nat → Int) (w : World), Four P Q G H → Righ P Q G → FewI nt nb L → nz ≤ 80 → nz ≤ cz → ClaimIn w bt nt ct T bb nb cb BA L C B → FacsIn w bz nz X →
    Calls Try.prog 14 #[gv P Q G H a n cap, cv bt nt ct bb nb cb, .slice bz nz cz] w fun e w' => e = .returned (.bool (holdsL P Q nt T nb L B nz X)) ∧ Old w w'
/-- The program's answer answers as the document says, of groups that are right. -/
def Lanswer : Prop := ∀ (P Q G H : Int) (a : Option Addr) (n cap : Nat) (b1 : Option Addr) (n1 c1 : Nat) (X : Nat → Int) (b2 : Option Addr) (n2 c2 : Nat) (Y : Nat → Int) (e : Int) (w : World), Four P Q G H → Righ P Q G → U64 e → n1 ≤ 80 → n2 ≤ 80 → n1 ≤ c1 → n2 ≤ c2 → FacsIn w b1 n1 X → FacsIn w b2 n2 Y →
    Calls Try.prog 12 #[gv P Q G H a n cap, .slice b1 n1 c1, .slice b2 n2 c2, .int .u64 e] w (Gives w (decide (n1 = n2)) n1 (fun k => ansI Q e (X k) (Y k)))
/-- The program's draws answers as the document says, of groups that are right. -/
def Ldraws : Prop := ∀ (P Q G H : Int) (a : Option Addr) (n cap : Nat) (b1 : Option Addr) (n1 c1 : Nat) (X : Nat → Int) (b2 : Option Addr) (n2 c2 : Nat) (Y : Nat → Int) (e : Int) (w : World), Four P Q G H → Righ P Q G → U64 e → n1 ≤ 80 → n2 ≤ 80 → n1 ≤ c1 → n2 ≤ c2 → FacsIn w b1 n1 X → FacsIn w b2 n2 Y →
    Calls Try.prog 17 #[gv P Q G H a n cap, .slice b1 n1 c1, .slice b2 n2 c2, .int .u64 e] w (Gives w (decide (n1 = n2)) n1 (fun k => drwI Q e (X k) (Y k)))
/-- The program's extract answers as the document says, of groups that are right. -/
def Lextract : Prop := ∀ (P Q G H : Int) (a : Option Addr) (n cap : Nat) (b1 : Option Addr) (n1 c1 : Nat) (X : Nat → Int) (b2 : Option Addr) (n2 c2 : Nat) (Y : Nat → Int) (e f : Int) (w : World), Four P Q G H → Righ P Q G → U64 e → U64 f → n1 ≤ 80 → n2 ≤ 80 → n1 ≤ c1 → n2 ≤ c2 → FacsIn w b1 n1 X → FacsIn w b2 n2 Y →
    Calls Try.prog 13 #[gv P Q G H a n cap, .int .u64 e, .slice b1 n1 c1, .int .u64 f, .slice b2 n2 c2] w (Gives w (invB (subI e f Q) Q && decide (n1 = n2)) n1 (fun k => exI Q (invI (subI e f Q) Q) (X k) (Y k)))
/-- The program's accepts answers as the document says, of groups that are right. -/
def Laccepts : Prop := ∀ (P Q G H : Int) (a : Option Addr) (n cap : Nat) (bt : Option Addr) (nt ct : Nat) (T : Nat → Int) (bb : Option Addr) (nb cb : Nat) (BA : Nat → Option Addr) (L C : Nat → Nat) (B : Nat → Nat → Int) (bk : Option Addr) (nk ck : Nat) (K : Nat → Int) (ch : Int) (bz : Option Addr) (nz cz : Nat) (X : Nat → Int) (w : World), Four P Q G H → Righ P Q G → FewI nt nb L → U64 ch → nk ≤ 80 → nk ≤ ck → nz ≤ 80 → nz ≤ cz → ClaimIn w bt nt ct T bb nb cb BA L C B → FacsIn w bk nk K → FacsIn w bz nz X →
    Calls Try.prog 59 #[gv P Q G H a n cap, cv bt nt ct bb nb cb, .slice bk nk ck, .int .u64 ch, .slice bz nz cz] w fun e w' => e = .returned (.bool (accB P Q nt T nb L B nk K ch nz X)) ∧ Old w w'
/-- The program's fake answers as the document says, of groups that are right. -/
def Lfake : Prop := ∀ (P Q G H : Int) (a : Option Addr) (n cap : Nat) (bt : Option Addr) (nt ct : Nat) (T : Nat → Int) (bb : Option Addr) (nb cb : Nat) (BA : Nat → Option Addr) (L C : Nat → Nat) (B : Nat → Nat → Int) (ch : Int) (bz : Option Addr) (nz cz : Nat) (X : Nat → Int) (w : World), Four P Q G H → Righ P Q G → FewI nt nb L → U64 ch → nz ≤ 80 → nz ≤ cz → ClaimIn w bt nt ct T bb nb cb BA L C B → FacsIn w bz nz X →
    Calls Try.prog 16 #[gv P Q G H a n cap, cv bt nt ct bb nb cb, .int .u64 ch, .slice bz nz cz] w (Gives w (fitsB (sizeN P Q nt T nb L B) nz) nt (fun j => overI P (imI P Q (B j) X (sizeN P Q nt T nb L B)) (expI P Q (T j) ch)))

theorem row_new2 (x : World) (o1 o2 o3 o4 : Obj) : Old (x.alloc o1) ((((x.alloc o1).alloc o2).alloc o3).alloc o4) ∧ Old ((x.alloc o1).alloc o2) ((((x.alloc o1).alloc o2).alloc o3).alloc o4) ∧ Old (((x.alloc o1).alloc o2).alloc o3) ((((x.alloc o1).alloc o2).alloc o3).alloc o4) :=
  ⟨(((Old.refl _).alloc _).alloc _).alloc _, ((Old.refl _).alloc _).alloc _, (Old.refl _).alloc _⟩
theorem size_al (x : World) (o : Obj) : (x.alloc o).heap.size = x.heap.size + 1 := by simp

/-- The claim that awake lays out. -/
theorem awk_claim (x W : World) (t1 t2 t3 t4 : TypeId) (v : Value) (ho : Old ((((x.alloc (.cells #[.int .u64 64] t1)).alloc (.cells #[.int .u64 4] t2)).alloc (.cells #[.slice (some ⟨x.heap.size + 1, 0, none⟩) 1 1] t3)).alloc (.cells #[v, .slice (some ⟨x.heap.size + 1 + 1, 0, none⟩) 1 1] t4)) W) :
    ClaimIn W (some ⟨x.heap.size, 0, none⟩) 1 1 (fun _ => 64) (some ⟨x.heap.size + 1 + 1, 0, none⟩) 1 1 (fun _ => some ⟨x.heap.size + 1, 0, none⟩) (fun _ => 1) (fun _ => 1) (fun _ _ => 4) := by
  have e1 := facs_one x 64 t1 ⟨by omega, by omega⟩
  have e2 := facs_one (x.alloc (.cells #[.int .u64 64] t1)) 4 t2 ⟨by omega, by omega⟩
  have e3 := lens_one ((x.alloc (.cells #[.int .u64 64] t1)).alloc (.cells #[.int .u64 4] t2)) (some ⟨x.heap.size + 1, 0, none⟩) 1 1 t3
  rw [size_al] at e2
  rw [size_al, size_al] at e3
  have o := row_new2 x (.cells #[.int .u64 64] t1) (.cells #[.int .u64 4] t2) (.cells #[.slice (some ⟨x.heap.size + 1, 0, none⟩) 1 1] t3) (.cells #[v, .slice (some ⟨x.heap.size + 1 + 1, 0, none⟩) 1 1] t4)
  refine ⟨by omega, by omega, by omega, by omega, e1.old (o.1.trans ho), ?_⟩
  rcases e3.old (o.2.2.trans ho) with h | ⟨b, off, hq, hb, hr⟩
  · omega
  · exact Or.inr ⟨b, off, hq, hb, fun j hj => ⟨hr j hj, Nat.le_refl _, show (1 : Nat) ≤ 9223372036854775807 by omega, e2.old (o.2.1.trans ho)⟩⟩
theorem awk_size : sizeN 2027 1013 1 (fun _ => 64) 1 (fun _ => 1) (fun _ _ => 4) = 1 := by decide +kernel
theorem awk_yes : holdsL 2027 1013 1 (fun _ => 64) 1 (fun _ => 1) (fun _ _ => 4) 1 (fun _ => 3) = true := by decide +kernel
theorem awk_no : holdsL 2027 1013 1 (fun _ => 64) 1 (fun _ => 1) (fun _ _ => 4) 1 (fun _ => 4) = false := by decide +kernel

set_option maxRecDepth 100000 in
set_option maxHeartbeats 8000000 in
theorem awake6_any (hLs : Lsize) (hLh : Lholds) (w : World) : Calls Try.prog 9 #[] w fun e w' => e = .returned (.bool true) ∧ Old w w' := by
  go_enter Try.func9, Try.ntmps9
  go_upto_region 2 with (go_at_call 43; refine (small4_any _).mono ?_; rintro e w1 ⟨a, FA, rfl, hrow, ho1⟩)
  have HZ := lain1 w1 (gc 2027 1013 4 9 a 5 5) 25
  have HW : Hid (Old w w1) := ho1
  clear hrow ho1
  generalize hx : w1.alloc (.cells (gc 2027 1013 4 9 a 5 5) 25) = x at *
  clear hx
  go_upto_region 3 with fail
  have HCl : Hid (∀ w', Old ((((x.alloc (.cells #[.int .u64 64] 22)).alloc (.cells #[.int .u64 4] 22)).alloc (.cells #[.slice (some ⟨x.heap.size + 1, 0, none⟩) 1 1] 27)).alloc (.cells #[.slice (some ⟨x.heap.size, 0, none⟩) 1 1, .slice (some ⟨x.heap.size + 1 + 1, 0, none⟩) 1 1] 34)) w' → ClaimIn w' (some ⟨x.heap.size, 0, none⟩) 1 1 (fun _ => 64) (some ⟨x.heap.size + 1 + 1, 0, none⟩) 1 1 (fun _ => some ⟨x.heap.size + 1, 0, none⟩) (fun _ => 1) (fun _ => 1) (fun _ _ => 4)) := fun w' ho => awk_claim x w' _ _ _ _ _ ho
  have HT : Hid (∀ w', Old ((((x.alloc (.cells #[.int .u64 64] 22)).alloc (.cells #[.int .u64 4] 22)).alloc (.cells #[.slice (some ⟨x.heap.size + 1, 0, none⟩) 1 1] 27)).alloc (.cells #[.slice (some ⟨x.heap.size, 0, none⟩) 1 1, .slice (some ⟨x.heap.size + 1 + 1, 0, none⟩) 1 1] 34)) w' → w'.cell? ⟨w1.heap.size, 0, none⟩ = some (.int .u64 2027) ∧ w'.cell? ⟨w1.heap.size, 1, none⟩ = some (.int .u64 1013) ∧ w'.cell? ⟨w1.heap.size, 2, none⟩ = some (.int .u64 4) ∧ w'.cell? ⟨w1.heap.size, 3, none⟩ = some (.int .u64 9) ∧ w'.cell? ⟨w1.heap.size, 4, none⟩ = some (.slice a 5 5) ∧ w'.cell? ⟨x.heap.size + 1 + 1 + 1, 0, none⟩ = some (.slice (some ⟨x.heap.size, 0, none⟩) 1 1) ∧ w'.cell? ⟨x.heap.size + 1 + 1 + 1, 1, none⟩ = some (.slice (some ⟨x.heap.size + 1 + 1, 0, none⟩) 1 1)) := fun w' ho => by
    have hz := HZ.then ((((((Old.refl x).alloc (.cells #[.int .u64 64] 22)).alloc (.cells #[.int .u64 4] 22)).alloc (.cells #[.slice (some ⟨x.heap.size + 1, 0, none⟩) 1 1] 27)).alloc (.cells #[.slice (some ⟨x.heap.size, 0, none⟩) 1 1, .slice (some ⟨x.heap.size + 1 + 1, 0, none⟩) 1 1] 34)).trans ho)
    have hs : (((x.alloc (.cells #[.int .u64 64] 22)).alloc (.cells #[.int .u64 4] 22)).alloc (.cells #[.slice (some ⟨x.heap.size + 1, 0, none⟩) 1 1] 27)).heap.size = x.heap.size + 1 + 1 + 1 := by rw [size_al, size_al, size_al]
    have z0 := ho.cellOf ((World.cell?_alloc_mark (((x.alloc (.cells #[.int .u64 64] 22)).alloc (.cells #[.int .u64 4] 22)).alloc (.cells #[.slice (some ⟨x.heap.size + 1, 0, none⟩) 1 1] 27)) #[.slice (some ⟨x.heap.size, 0, none⟩) 1 1, .slice (some ⟨x.heap.size + 1 + 1, 0, none⟩) 1 1] 34 (0, 0) 0).trans rfl)
    have z1 := ho.cellOf ((World.cell?_alloc_mark (((x.alloc (.cells #[.int .u64 64] 22)).alloc (.cells #[.int .u64 4] 22)).alloc (.cells #[.slice (some ⟨x.heap.size + 1, 0, none⟩) 1 1] 27)) #[.slice (some ⟨x.heap.size, 0, none⟩) 1 1, .slice (some ⟨x.heap.size + 1 + 1, 0, none⟩) 1 1] 34 (0, 0) 1).trans rfl)
    rw [hs] at z0 z1
    exact ⟨hz.cell 0 0 (by simp) rfl, hz.cell 0 1 (by simp) rfl, hz.cell 0 2 (by simp) rfl, hz.cell 0 3 (by simp) rfl, hz.cell 0 4 (by simp) rfl, z0, z1⟩
  have HO4 : Hid (Old w ((((x.alloc (.cells #[.int .u64 64] 22)).alloc (.cells #[.int .u64 4] 22)).alloc (.cells #[.slice (some ⟨x.heap.size + 1, 0, none⟩) 1 1] 27)).alloc (.cells #[.slice (some ⟨x.heap.size, 0, none⟩) 1 1, .slice (some ⟨x.heap.size + 1 + 1, 0, none⟩) 1 1] 34))) := ((((HW.out.trans HZ.old).alloc _).alloc _).alloc _).alloc _
  have hfew : FewI 1 1 (fun _ => 1) := ⟨by omega, by omega, fun _ _ => show (1 : Nat) ≤ 20 by omega⟩
  generalize ((((x.alloc (.cells #[.int .u64 64] 22)).alloc (.cells #[.int .u64 4] 22)).alloc (.cells #[.slice (some ⟨x.heap.size + 1, 0, none⟩) 1 1] 27)).alloc (.cells #[.slice (some ⟨x.heap.size, 0, none⟩) 1 1, .slice (some ⟨x.heap.size + 1 + 1, 0, none⟩) 1 1] 34)) = W at *
  have HSz : Hid (∀ wx, Old W wx → Calls Try.prog 44 #[gv 2027 1013 4 9 a 5 5, cv (some ⟨x.heap.size, 0, none⟩) 1 1 (some ⟨x.heap.size + 1 + 1, 0, none⟩) 1 1] wx fun e w' => e = .returned (.int .i64 1) ∧ Old W w') := fun wx ho => (hLs 2027 1013 4 9 a 5 5 (some ⟨x.heap.size, 0, none⟩) 1 1 (fun _ => 64) (some ⟨x.heap.size + 1 + 1, 0, none⟩) 1 1 (fun _ => some ⟨x.heap.size + 1, 0, none⟩) (fun _ => 1) (fun _ => 1) (fun _ _ => 4) wx four_sm small_righ hfew (HCl.out _ ho)).mono fun e w' ⟨h, k⟩ => ⟨by rw [h, awk_size]; rfl, ho.trans k⟩
  have HHy : Hid (∀ wx t, Old W wx → Calls Try.prog 14 #[gv 2027 1013 4 9 a 5 5, cv (some ⟨x.heap.size, 0, none⟩) 1 1 (some ⟨x.heap.size + 1 + 1, 0, none⟩) 1 1, .slice (some ⟨wx.heap.size, 0, none⟩) 1 1] (wx.alloc (.cells #[.int .u64 3] t)) fun e w' => e = .returned (.bool true) ∧ Old W w') := fun wx t ho => (hLh 2027 1013 4 9 a 5 5 (some ⟨x.heap.size, 0, none⟩) 1 1 (fun _ => 64) (some ⟨x.heap.size + 1 + 1, 0, none⟩) 1 1 (fun _ => some ⟨x.heap.size + 1, 0, none⟩) (fun _ => 1) (fun _ => 1) (fun _ _ => 4) _ 1 1 (fun _ => 3) _ four_sm small_righ hfew (by omega) (by omega) (HCl.out _ (ho.alloc _)) (facs_one wx 3 t ⟨by omega, by omega⟩)).mono fun e w' ⟨h, k⟩ => ⟨by rw [h, awk_yes], (ho.alloc _).trans k⟩
  have HHn : Hid (∀ wx t, Old W wx → Calls Try.prog 14 #[gv 2027 1013 4 9 a 5 5, cv (some ⟨x.heap.size, 0, none⟩) 1 1 (some ⟨x.heap.size + 1 + 1, 0, none⟩) 1 1, .slice (some ⟨wx.heap.size, 0, none⟩) 1 1] (wx.alloc (.cells #[.int .u64 4] t)) fun e w' => e = .returned (.bool false) ∧ Old W w') := fun wx t ho => (hLh 2027 1013 4 9 a 5 5 (some ⟨x.heap.size, 0, none⟩) 1 1 (fun _ => 64) (some ⟨x.heap.size + 1 + 1, 0, none⟩) 1 1 (fun _ => some ⟨x.heap.size + 1, 0, none⟩) (fun _ => 1) (fun _ => 1) (fun _ _ => 4) _ 1 1 (fun _ => 4) _ four_sm small_righ hfew (by omega) (by omega) (HCl.out _ (ho.alloc _)) (facs_one wx 4 t ⟨by omega, by omega⟩)).mono fun e w' ⟨h, k⟩ => ⟨by rw [h, awk_no], (ho.alloc _).trans k⟩
  clear HCl hfew HZ HW hLs hLh
  obtain ⟨d0, d1, d2, d3, d4, z0, z1⟩ := HT.out _ (Old.refl _)
  go_wp2_with (first
    | (go_at_call 44; refine (HSz.out _ (Old.refl _)).mono ?_; rintro e w5 ⟨rfl, h5⟩; obtain ⟨d0, d1, d2, d3, d4, z0, z1⟩ := HT.out _ h5)
    | (go_at_call 14; have hg6 := h6; refine (HHn.out _ _ hg6).mono ?_; rintro e w7 ⟨rfl, h7⟩)
    | (go_at_call 14; refine (HHy.out _ _ h5).mono ?_; rintro e w6 ⟨rfl, h6⟩; obtain ⟨d0, d1, d2, d3, d4, z0, z1⟩ := HT.out _ h6))
  go_ret
  exact ⟨rfl, HO4.out.trans h7⟩

end Go.Proofs.Ytokhpppealdfmaf

namespace Go.Proofs.Ytokhpppealdfmaf
open Go.RowKit

/-- A block of n numbers. -/
def Full (w : World) (b n : Nat) (F : Nat → Int) : Prop := w.heap[b]? = some (.cells ((List.range n).map fun k => Value.int .u64 (F k)).toArray 22 (0, 0))
theorem full_made (n : Nat) : madeCells #[Value.int .u64 0] n = ((List.range n).map fun _ => Value.int .u64 0).toArray := by
  unfold madeCells
  apply Array.ext
  · simp
  · intro i h1 h2
    simp [Nat.mod_one]
theorem full_new (w : World) (n : Nat) (F : Nat → Int) (h : ∀ k, k < n → F k = 0) : Full (w.alloc (.cells (madeCells #[Value.int .u64 0] n) 22)) w.heap.size n F := by
  unfold Full
  rw [full_made, heap_alloc_last]
  congr 3
  apply List.map_congr_left
  intro k hk
  rw [h k (List.mem_range.1 hk)]
theorem Full.lt {w : World} {b n : Nat} {F : Nat → Int} (h : Full w b n F) : b < w.heap.size := (Array.getElem?_eq_some_iff.1 h).1
theorem Full.old {w w' : World} {b n : Nat} {F : Nat → Int} (h : Full w b n F) (ho : Old w w') : Full w' b n F := (ho.block b h.lt).trans h
theorem Full.cell {w : World} {b n : Nat} {F : Nat → Int} (h : Full w b n F) (i : Nat) (hi : i < n) : w.cell? ⟨b, i, none⟩ = some (.int .u64 (F i)) := by
  rw [cell_of_row _ _ i _ _ (0, 0) h]
  simp [hi]
theorem Full.free {w : World} {b n : Nat} {F : Nat → Int} (h : Full w b n F) (i : Nat) : w.frozen? ⟨b, i, none⟩ = false := row_frozen h i
theorem Full.congr {w : World} {b n : Nat} {F G : Nat → Int} (h : Full w b n F) (he : ∀ k, k < n → F k = G k) : Full w b n G := by
  unfold Full at h ⊢
  rw [h]
  congr 3
  apply List.map_congr_left
  intro k hk
  rw [he k (List.mem_range.1 hk)]
theorem Full.set {w : World} {b n : Nat} {F : Nat → Int} (h : Full w b n F) (i : Nat) (x : Int) : Full (w.setCell ⟨b, i, none⟩ (.int .u64 x)) b n (fun k => if k = i then x else F k) := by
  unfold Full
  rw [set_row h, List.setIfInBounds_toArray]
  congr 3
  apply List.ext_getElem
  · simp
  · intro k h1 h2
    simp only [List.getElem_set, List.getElem_map, List.getElem_range]
    by_cases hk : i = k
    · subst hk; simp
    · rw [if_neg hk, if_neg (fun e => hk e.symm)]
/-- Filled up to i, nought behind. -/
def upTo (i : Nat) (F : Nat → Int) : Nat → Int := fun k => if k < i then F k else 0
theorem full_zero (w : World) (n : Nat) (F : Nat → Int) : Full (w.alloc (.cells (madeCells #[Value.int .u64 0] n) 22)) w.heap.size n (upTo 0 F) := full_new w n _ fun k _ => by simp [upTo]
theorem Full.next {w : World} {b n i : Nat} {F : Nat → Int} (h : Full w b n (upTo i F)) : Full (w.setCell ⟨b, i, none⟩ (.int .u64 (F i))) b n (upTo (i + 1) F) :=
  (h.set i (F i)).congr fun k _ => by
    unfold upTo
    by_cases hk : k = i
    · subst hk; simp
    · rw [if_neg hk]
      by_cases h2 : k < i
      · rw [if_pos h2, if_pos (by omega)]
      · rw [if_neg h2, if_neg (by omega)]
theorem Full.done {w : World} {b n : Nat} {F : Nat → Int} (h : Full w b n (upTo n F)) : Full w b n F := h.congr fun k hk => by simp [upTo, hk]
theorem Full.nums {w : World} {base b n : Nat} {F : Nat → Int} (h : Full w b n F) (hb : base ≤ b) (hn : n ≤ 9223372036854775807) : Nums w base (.slice (some ⟨b, 0, none⟩) n n) n F := by
  refine ⟨by simp, Or.inr ⟨b, n, _, rfl, hb, h, Nat.le_refl _, by unfold maxLen; omega, by simp, by simp [List.take_of_length_le]⟩⟩
theorem Full.facs {w : World} {b n : Nat} {F : Nat → Int} (h : Full w b n F) (hF : ∀ k, k < n → U64 (F k)) : FacsIn w (some ⟨b, 0, none⟩) n F :=
  Or.inr ⟨b, 0, rfl, h.lt, fun j hj => ⟨by rw [Nat.zero_add]; exact h.cell j hj, (hF j hj).1, (hF j hj).2⟩⟩
theorem make_run (n : Nat) (h : n ≤ 80) (w : World) : (Instr.makeSlice 27 (.int .i64 (n : Int)) (.int .i64 (n : Int))).run Try.prog w = .ok (.slice (some ⟨w.heap.size, 0, none⟩) n n) (w.alloc (.cells (madeCells #[Value.int .u64 0] n) 22)) :=
  run_make_row' (P := Try.prog) 27 22 (.int .u64 0) 8 Try.underlying27 u64info rfl .i64 .i64 n (by omega) (by omega) w

end Go.Proofs.Ytokhpppealdfmaf
