/-
  Numbers as bytes (layer 7), and the document's Numbers.
-/
import Derived.Test.YtokhpppealdfmafK07
import Derived.Test.YtokhpppealdfmafK12
namespace Go.Proofs.Ytokhpppealdfmaf
open Go.RowKit

/-- The first i numbers, in eight bytes each. -/
def packL (F : Nat → Int) : Nat → List Int
  | 0 => []
  | i + 1 => packL F i ++ bytesL (F i) 8
theorem packL_len (F : Nat → Int) : ∀ n, (packL F n).length = 8 * n
  | 0 => rfl
  | n + 1 => by
    show (packL F n ++ bytesL (F n) 8).length = _
    rw [List.length_append, packL_len F n, bytesL_len]
    omega
theorem packL_bd (F : Nat → Int) : ∀ n, Bts (packL F n)
  | 0 => fun x hx => by cases hx
  | n + 1 => bts_app (packL_bd F n) (bytesL_bd _ _)

set_option maxHeartbeats 2000000 in
theorem rnumbers_any (b : Option Addr) (n cap : Nat) (F : Nat → Int) (w : World) (hn : n ≤ 1000) (h : FacsIn w b n F) :
    Calls Try.prog 80 #[.slice b n cap] w fun e w' => e = .returned (.string (strOfNums (packL F n))) ∧ Old w w' := by
  have HX : Hid (FacsIn w b n F) := h
  have HBy : Hid (∀ i wx, i < n → Calls Try.prog 92 #[.int .u64 (F i), .int .i64 8] wx fun e w' => e = .returned (.string (strOfNums (bytesL (F i) 8))) ∧ Old wx w') := fun i wx hi => (bytes_any (F i) 8 wx (h.u64 i hi).1 (h.u64 i hi).2 (by omega) (by omega)).mono fun e w' ⟨h1, h2⟩ => ⟨h1, Old.ofBelow h2⟩
  clear h
  have hadd : ∀ xs ys : List Int, strOfNums xs ++ strOfNums ys = strOfNums (xs ++ ys) := str_add
  have hsz : ∀ xs : List Int, (strOfNums xs).size = xs.length := strOfNums_size
  go_enter Try.func80, Try.ntmps80
  go_wp2_with fail
  go_loopw [3, 4] (fun sv iv wx => ∃ i : Nat, iv = .int .i64 (i : Int) ∧ i ≤ n ∧ sv = .string (strOfNums (packL F i)) ∧ Hid (Old w wx)) (fun _ iv _ => n - (intOf iv).toNat)
  case atStart => exact ⟨0, rfl, Nat.zero_le _, rfl, Old.refl _⟩
  case round =>
    obtain ⟨i, rfl, hi, rfl, HO⟩ := hrel
    by_cases hlt : i < n
    · rcases HX.out.old HO.out with h0 | ⟨bx, ox, hqx, _, hrx⟩
      · omega
      have cx := (hrx i hlt).1
      clear hrx
      subst hqx
      have HC : Hid (∀ wx, Calls Try.prog 92 #[.int .u64 (F i), .int .i64 8] wx fun e w' => e = .returned (.string (strOfNums (bytesL (F i) 8))) ∧ Old wx w') := fun wx => HBy.out i wx hlt
      have zl := packL_len F i
      have z8 := bytesL_len (F i) 8
      have l1 : 8 * i + 8 ≤ 9223372036854775807 := by omega
      have l2 : ¬ 9223372036854775807 < 8 * i + 8 := by omega
      have l3 : 8 * i ≤ 9223372036854775799 := by omega
      have l4 : ¬ 9223372036854775799 < 8 * i := by omega
      have HP : Hid (packL F (i + 1) = packL F i ++ bytesL (F i) 8) := rfl
      go_wp2_with (go_at_call 92; refine (HC.out _).mono ?_; rintro e w2 ⟨rfl, o2⟩)
      go_roundw
      case rel => exact ⟨i + 1, by first | exact idx_next i | exact idx_up i, by omega, by rw [HP.out], HO.out.trans o2⟩
      case measure => simp [intOf]; omega
    · have he : n = i := by omega
      subst he
      go_wp2_with fail
      go_ret
      exact ⟨rfl, HO.out⟩

end Go.Proofs.Ytokhpppealdfmaf
