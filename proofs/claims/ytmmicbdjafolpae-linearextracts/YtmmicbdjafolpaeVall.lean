/-
  The statements' Group, all and awake (layer 5).
-/
import Derived.Test.YtmmicbdjafolpaeVgam3
import Derived.Test.YtmmicbdjafolpaeGawk0
namespace Go.Proofs.Ytmmicbdjafolpae
open Go.RowKit

set_option maxHeartbeats 1000000 in
theorem group5_any (P Q G H : Int) (a : Option Addr) (n cap : Nat) (N A : Nat → Int) (FA : Nat → Option Addr) (L C : Nat → Nat) (F : Nat → Nat → Int) (w : World) (h4 : Four P Q G H) (hin : RowsIn w a n N A FA L C F) :
    Calls Try.prog 10 #[gv P Q G H a n cap] w fun e w' => e = .returned (.bool (fewB L n && rightI P Q G H N A F L n)) ∧ Old w w' := by
  have HI : Hid (RowsIn w a n N A FA L C F) := hin
  have HR : Hid (n ≤ 80 → ∀ wx, Beh w P Q G H a n cap wx → Calls Try.prog 39 #[gv P Q G H a n cap] wx fun e w' => e = .returned (.bool (rightI P Q G H N A F L n)) ∧ Beh w P Q G H a n cap w') := fun hn wx hb => (rright_any P Q G H a n cap N A FA L C F wx hn (hin.old hb.old) h4.q0 h4.q1 h4.g1 h4.h1).mono fun e w' ⟨h, k⟩ => ⟨h, hb.then k⟩
  have HF : Hid (∀ wx, Beh w P Q G H a n cap wx → wx.cell? ⟨w.heap.size, 0, none⟩ = some (.int .u64 P) ∧ wx.cell? ⟨w.heap.size, 1, none⟩ = some (.int .u64 Q) ∧ wx.cell? ⟨w.heap.size, 2, none⟩ = some (.int .u64 G) ∧ wx.cell? ⟨w.heap.size, 3, none⟩ = some (.int .u64 H) ∧ wx.cell? ⟨w.heap.size, 4, none⟩ = some (.slice a n cap)) := fun _ hb => ⟨hb.cell rfl, hb.cell rfl, hb.cell rfl, hb.cell rfl, hb.cell rfl⟩
  clear hin h4
  generalize rightI P Q G H N A F L n = R at *
  by_cases h80 : 80 < n
  · have HN : Hid (fewB L n = false) := no_of fun hc => by have := (fewB_iff.1 hc).1; omega
    go_enter Try.func10, Try.ntmps10
    go_wp2_with fail
    go_ret
    exact ⟨ret_bool (by rw [HN.out]; rfl), (Old.refl _).alloc _⟩
  go_enter Try.func10, Try.ntmps10
  go_wp2_with fail
  go_loopw [12] (fun iv wx => ∃ i : Nat, iv = .int .i64 (i : Int) ∧ i ≤ n ∧ Hid (Beh w P Q G H a n cap wx) ∧ Hid (∀ j, j < i → L j ≤ 40)) (fun iv _ => n - (intOf iv).toNat)
  case atStart => exact ⟨0, rfl, Nat.zero_le _, Beh.new .., fun j hj => by omega⟩
  case round =>
    obtain ⟨i, rfl, hi, HB, HJ⟩ := hrel
    by_cases hlt : i < n
    · rcases HI.out.old HB.out.old with h0 | ⟨b, off, rfl, hb, hr⟩
      · omega
      have r := hr i hlt
      clear hr
      obtain ⟨c0, c1, c2⟩ := (⟨r.c0, r.c1, r.c2⟩ : _ ∧ _ ∧ _)
      clear r
      by_cases h40 : 40 < L i
      · have HN : Hid (fewB L n = false) := no_of fun hc => by have := (fewB_iff.1 hc).2 i hlt; omega
        go_wp2_with fail
        go_ret
        exact ⟨ret_bool (by rw [HN.out]; rfl), HB.out.old.alloc _⟩
      · have HM : Hid (L i ≤ 40) := Nat.le_of_not_lt h40
        go_wp2_with fail
        go_roundw
        case rel => exact ⟨i + 1, idx_next i, by omega, HB.out.then ((Old.refl _).alloc _), upto_succ HJ.out HM.out⟩
        case measure => simp [intOf]; omega
    · have he : i = n := by omega
      subst he
      have HN : Hid (fewB L i = true) := fewB_iff.2 ⟨by omega, HJ.out⟩
      have HR' : Hid (∀ wx, Beh w P Q G H a i cap wx → Calls Try.prog 39 #[gv P Q G H a i cap] wx fun e w' => e = .returned (.bool R) ∧ Beh w P Q G H a i cap w') := HR.out (by omega)
      obtain ⟨d0, d1, d2, d3, d4⟩ := HF.out _ HB.out
      go_wp2_with (go_at_call 39; refine (HR'.out _ HB.out).mono ?_; rintro e w1 ⟨rfl, hb1⟩)
      go_ret
      exact ⟨ret_bool (by rw [HN.out]; rfl), hb1.old⟩

/-- All elements? -/
def allB (P Q : Int) (F : Nat → Int) (len : Nat) : Bool := (List.range len).all fun i => inI P Q (F i)
theorem allB_iff {P Q : Int} {F : Nat → Int} {len : Nat} : allB P Q F len = true ↔ ∀ i, i < len → inI P Q (F i) = true := by
  simp [allB]
set_option maxHeartbeats 1000000 in
theorem all5_any (P Q G H : Int) (a : Option Addr) (n cap : Nat) (b : Option Addr) (len c : Nat) (F : Nat → Int) (w : World) (h4 : Four P Q G H) (hl : len ≤ 9223372036854775807) (hin : FacsIn w b len F) :
    Calls Try.prog 11 #[gv P Q G H a n cap, .slice b len c] w fun e w' => e = .returned (.bool (allB P Q F len)) ∧ Old w w' := by
  have HI : Hid (FacsIn w b len F) := hin
  have HC : Hid (∀ x wx, x ≤ 18446744073709551615 → Beh w P Q G H a n cap wx → Calls Try.prog 40 #[gv P Q G H a n cap, .int .u64 x] wx fun e w' => e = .returned (.bool (inI P Q x)) ∧ Beh w P Q G H a n cap w') := fun x wx hx hb => (rin_any P Q G H x a n cap wx h4.q0 h4.q1 hx).mono fun e w' ⟨h, k⟩ => ⟨h, hb.then k⟩
  have HF : Hid (∀ wx, Beh w P Q G H a n cap wx → wx.cell? ⟨w.heap.size, 0, none⟩ = some (.int .u64 P) ∧ wx.cell? ⟨w.heap.size, 1, none⟩ = some (.int .u64 Q) ∧ wx.cell? ⟨w.heap.size, 2, none⟩ = some (.int .u64 G) ∧ wx.cell? ⟨w.heap.size, 3, none⟩ = some (.int .u64 H) ∧ wx.cell? ⟨w.heap.size, 4, none⟩ = some (.slice a n cap)) := fun _ hb => ⟨hb.cell rfl, hb.cell rfl, hb.cell rfl, hb.cell rfl, hb.cell rfl⟩
  clear hin h4
  go_enter Try.func11, Try.ntmps11
  go_wp2_with fail
  go_loopw [9] (fun iv wx => ∃ i : Nat, iv = .int .i64 (i : Int) ∧ i ≤ len ∧ Hid (Beh w P Q G H a n cap wx) ∧ Hid (∀ j, j < i → inI P Q (F j) = true)) (fun iv _ => len - (intOf iv).toNat)
  case atStart => exact ⟨0, rfl, Nat.zero_le _, Beh.new .., fun j hj => by omega⟩
  case round =>
    obtain ⟨i, rfl, hi, HB, HJ⟩ := hrel
    by_cases hlt : i < len
    · rcases HI.out.old HB.out.old with h0 | ⟨bb, off, rfl, hb, hr⟩
      · omega
      obtain ⟨c0, f0, f1⟩ := hr i hlt
      clear hr
      obtain ⟨d0, d1, d2, d3, d4⟩ := HF.out _ HB.out
      have HC' : Hid (∀ wx, Beh w P Q G H a n cap wx → Calls Try.prog 40 #[gv P Q G H a n cap, .int .u64 (F i)] wx fun e w' => e = .returned (.bool (inI P Q (F i))) ∧ Beh w P Q G H a n cap w') := fun wx hb => HC.out (F i) wx f1 hb
      cases he : inI P Q (F i)
      · have HN : Hid (allB P Q F len = false) := no_of fun hc => by have := allB_iff.1 hc i hlt; rw [he] at this; cases this
        rw [he] at HC'
        clear he
        go_wp2_with (go_at_call 40; refine (HC'.out _ HB.out).mono ?_; rintro e w1 ⟨rfl, hb1⟩)
        go_ret
        exact ⟨ret_bool (by rw [HN.out]), hb1.old⟩
      · have HM : Hid (inI P Q (F i) = true) := he
        rw [he] at HC'
        clear he
        go_wp2_with (go_at_call 40; refine (HC'.out _ HB.out).mono ?_; rintro e w1 ⟨rfl, hb1⟩)
        go_roundw
        case rel => exact ⟨i + 1, idx_next i, by omega, hb1, upto_succ HJ.out HM.out⟩
        case measure => simp [intOf]; omega
    · have he : i = len := by omega
      subst he
      have HN : Hid (allB P Q F i = true) := allB_iff.2 HJ.out
      go_wp2_with fail
      go_ret
      exact ⟨ret_bool (by rw [HN.out]), HB.out.old⟩

end Go.Proofs.Ytmmicbdjafolpae
