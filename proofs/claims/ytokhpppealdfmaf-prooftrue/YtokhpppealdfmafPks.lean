/-
  Keeps and Shares, of the document and of the program (layer 7).
-/
import Derived.Test.YtokhpppealdfmafPmk
namespace Go.Proofs.Ytokhpppealdfmaf
open Go.RowKit

theorem size_al7 (x : World) (o : Obj) : (x.alloc o).heap.size = x.heap.size + 1 := by simp

set_option linter.unusedSimpArgs false in
set_option maxRecDepth 100000 in
set_option maxHeartbeats 8000000 in
theorem rkeeps_any (P Q G H : Int) (a : Option Addr) (n cap : Nat) (key : Int) (w : World) :
    Calls Try.prog 31 #[gv P Q G H a n cap, .int .u64 key] w (GivesC w 1 (fun _ => key) 1 (fun _ => 1) (fun _ _ => G)) := by
  have HZ := lain2 w (gc P Q G H a n cap) (cc none 0 0 none 0 0) 25 34
  have hs0 : w.heap.size + 1 < ((w.alloc (.cells (gc P Q G H a n cap) 25)).alloc (.cells (cc none 0 0 none 0 0) 34)).heap.size := by simp
  have HW0 : Hid (Old w ((w.alloc (.cells (gc P Q G H a n cap) 25)).alloc (.cells (cc none 0 0 none 0 0) 34))) := HZ.old
  have d2 : ((w.alloc (.cells (gc P Q G H a n cap) 25)).alloc (.cells (cc none 0 0 none 0 0) 34)).cell? ⟨w.heap.size, 2, none⟩ = some (.int .u64 G) := HZ.cell 0 2 (by simp) rfl
  have HRS0 : ∀ w', Old ((w.alloc (.cells (gc P Q G H a n cap) 25)).alloc (.cells (cc none 0 0 none 0 0) 34)) w' → w'.heap[w.heap.size + 1]? = some (.cells #[.slice none 0 0, .slice none 0 0] 34 (0, 0)) := fun w' ho => (HZ.then ho).row 1 (by simp)
  clear HZ
  go_enter Try.func31, Try.ntmps31
  go_upto_region 1 with fail
  generalize ((w.alloc (.cells (gc P Q G H a n cap) 25)).alloc (.cells (cc none 0 0 none 0 0) 34)) = W at *
  have HRS : Hid (∀ w', Old W w' → w'.heap[w.heap.size + 1]? = some (.cells #[.slice none 0 0, .slice none 0 0] 34 (0, 0))) := HRS0
  clear HRS0
  have e2 := ((Old.refl W).alloc (.cells #[.int .u64 key] 22)).cellOf d2
  have N1 : Hid (Nums (((W.alloc (.cells #[.int .u64 key] 22)).alloc (.cells #[.int .u64 G] 22)).alloc (.cells #[.slice (some ⟨W.heap.size + 1, 0, none⟩) 1 1] 27)) W.heap.size (.slice (some ⟨W.heap.size, 0, none⟩) 1 1) 1 (fun _ => key)) := (nums_new W W.heap.size 1 [.int .u64 key] (fun _ => key) (Nat.le_refl _) (by omega) rfl).old (((Old.refl _).alloc _).alloc _)
  have N2 : Hid (Rws (((W.alloc (.cells #[.int .u64 key] 22)).alloc (.cells #[.int .u64 G] 22)).alloc (.cells #[.slice (some ⟨W.heap.size + 1, 0, none⟩) 1 1] 27)) W.heap.size (.slice (some ⟨W.heap.size + 1 + 1, 0, none⟩) 1 1) 1 (fun _ => 1) (fun _ _ => G)) := by
    have h := nums_new (W.alloc (.cells #[.int .u64 key] 22)) W.heap.size 1 [.int .u64 G] (fun _ => G) (by rw [size_al7]; omega) (by omega) rfl
    have h2 := rws_new ((W.alloc (.cells #[.int .u64 key] 22)).alloc (.cells #[.int .u64 G] 22)) W.heap.size 1 [.slice (some ⟨W.heap.size + 1, 0, none⟩) 1 1] (fun _ => some ⟨W.heap.size + 1, 0, none⟩) (fun _ => 1) (fun _ => 1) (fun _ _ => G) (by rw [size_al7, size_al7]; omega) (by omega) rfl (fun j _ => by rw [size_al7] at h; exact h)
    rw [size_al7, size_al7] at h2
    exact h2
  have HO : Hid (Old W (((W.alloc (.cells #[.int .u64 key] 22)).alloc (.cells #[.int .u64 G] 22)).alloc (.cells #[.slice (some ⟨W.heap.size + 1, 0, none⟩) 1 1] 27))) := (((Old.refl _).alloc _).alloc _).alloc _
  have HR := HRS.out _ HO.out
  have q0 := cell_of_row _ _ 0 _ _ (0, 0) HR
  have q1 := cell_of_row _ _ 1 _ _ (0, 0) HR
  have f0 := row_frozen HR 0
  have f1 := row_frozen HR 1
  have HRh : Hid ((((W.alloc (.cells #[.int .u64 key] 22)).alloc (.cells #[.int .u64 G] 22)).alloc (.cells #[.slice (some ⟨W.heap.size + 1, 0, none⟩) 1 1] 27)).heap[w.heap.size + 1]? = some (.cells #[.slice none 0 0, .slice none 0 0] 34 (0, 0))) := HR
  clear HR
  simp only [List.getElem?_toArray, List.getElem?_cons_zero, List.getElem?_cons_succ] at q0 q1
  go_wp2_with fail
  exact bodyPost_ret (result5 (b := w.heap.size + 1) rfl rfl (load_two HRh.out Try.underlying34 info_claim)) rfl (givesC_set (by omega) hs0 (HW0.out.trans HO.out) (by omega) N1.out N2.out)

set_option linter.unusedSimpArgs false in
set_option maxRecDepth 100000 in
set_option maxHeartbeats 8000000 in
theorem pkeeps_any (P Q G H : Int) (a : Option Addr) (n cap : Nat) (key : Int) (w : World) :
    Calls Try.prog 30 #[gv P Q G H a n cap, .int .u64 key] w (GivesC w 1 (fun _ => key) 1 (fun _ => 1) (fun _ _ => G)) := by
  have HZ := lain2 w (gc P Q G H a n cap) (cc none 0 0 none 0 0) 25 34
  have hs0 : w.heap.size + 1 < ((w.alloc (.cells (gc P Q G H a n cap) 25)).alloc (.cells (cc none 0 0 none 0 0) 34)).heap.size := by simp
  have HW0 : Hid (Old w ((w.alloc (.cells (gc P Q G H a n cap) 25)).alloc (.cells (cc none 0 0 none 0 0) 34))) := HZ.old
  have d2 : ((w.alloc (.cells (gc P Q G H a n cap) 25)).alloc (.cells (cc none 0 0 none 0 0) 34)).cell? ⟨w.heap.size, 2, none⟩ = some (.int .u64 G) := HZ.cell 0 2 (by simp) rfl
  have HRS0 : ∀ w', Old ((w.alloc (.cells (gc P Q G H a n cap) 25)).alloc (.cells (cc none 0 0 none 0 0) 34)) w' → w'.heap[w.heap.size + 1]? = some (.cells #[.slice none 0 0, .slice none 0 0] 34 (0, 0)) := fun w' ho => (HZ.then ho).row 1 (by simp)
  clear HZ
  go_enter Try.func30, Try.ntmps30
  go_upto_region 1 with fail
  generalize ((w.alloc (.cells (gc P Q G H a n cap) 25)).alloc (.cells (cc none 0 0 none 0 0) 34)) = W at *
  have HRS : Hid (∀ w', Old W w' → w'.heap[w.heap.size + 1]? = some (.cells #[.slice none 0 0, .slice none 0 0] 34 (0, 0))) := HRS0
  clear HRS0
  have e2 := ((Old.refl W).alloc (.cells #[.int .u64 key] 22)).cellOf d2
  have N1 : Hid (Nums (((W.alloc (.cells #[.int .u64 key] 22)).alloc (.cells #[.int .u64 G] 22)).alloc (.cells #[.slice (some ⟨W.heap.size + 1, 0, none⟩) 1 1] 27)) W.heap.size (.slice (some ⟨W.heap.size, 0, none⟩) 1 1) 1 (fun _ => key)) := (nums_new W W.heap.size 1 [.int .u64 key] (fun _ => key) (Nat.le_refl _) (by omega) rfl).old (((Old.refl _).alloc _).alloc _)
  have N2 : Hid (Rws (((W.alloc (.cells #[.int .u64 key] 22)).alloc (.cells #[.int .u64 G] 22)).alloc (.cells #[.slice (some ⟨W.heap.size + 1, 0, none⟩) 1 1] 27)) W.heap.size (.slice (some ⟨W.heap.size + 1 + 1, 0, none⟩) 1 1) 1 (fun _ => 1) (fun _ _ => G)) := by
    have h := nums_new (W.alloc (.cells #[.int .u64 key] 22)) W.heap.size 1 [.int .u64 G] (fun _ => G) (by rw [size_al7]; omega) (by omega) rfl
    have h2 := rws_new ((W.alloc (.cells #[.int .u64 key] 22)).alloc (.cells #[.int .u64 G] 22)) W.heap.size 1 [.slice (some ⟨W.heap.size + 1, 0, none⟩) 1 1] (fun _ => some ⟨W.heap.size + 1, 0, none⟩) (fun _ => 1) (fun _ => 1) (fun _ _ => G) (by rw [size_al7, size_al7]; omega) (by omega) rfl (fun j _ => by rw [size_al7] at h; exact h)
    rw [size_al7, size_al7] at h2
    exact h2
  have HO : Hid (Old W (((W.alloc (.cells #[.int .u64 key] 22)).alloc (.cells #[.int .u64 G] 22)).alloc (.cells #[.slice (some ⟨W.heap.size + 1, 0, none⟩) 1 1] 27))) := (((Old.refl _).alloc _).alloc _).alloc _
  have HR := HRS.out _ HO.out
  have q0 := cell_of_row _ _ 0 _ _ (0, 0) HR
  have q1 := cell_of_row _ _ 1 _ _ (0, 0) HR
  have f0 := row_frozen HR 0
  have f1 := row_frozen HR 1
  have HRh : Hid ((((W.alloc (.cells #[.int .u64 key] 22)).alloc (.cells #[.int .u64 G] 22)).alloc (.cells #[.slice (some ⟨W.heap.size + 1, 0, none⟩) 1 1] 27)).heap[w.heap.size + 1]? = some (.cells #[.slice none 0 0, .slice none 0 0] 34 (0, 0))) := HR
  clear HR
  simp only [List.getElem?_toArray, List.getElem?_cons_zero, List.getElem?_cons_succ] at q0 q1
  go_wp2_with fail
  exact bodyPost_ret (result5 (b := w.heap.size + 1) rfl rfl (load_two HRh.out Try.underlying34 info_claim)) rfl (givesC_set (by omega) hs0 (HW0.out.trans HO.out) (by omega) N1.out N2.out)

set_option linter.unusedSimpArgs false in
set_option maxRecDepth 100000 in
set_option maxHeartbeats 8000000 in
theorem rshares_any (P Q G H : Int) (a : Option Addr) (n cap : Nat) (key u v share : Int) (w : World) :
    Calls Try.prog 35 #[gv P Q G H a n cap, .int .u64 key, pv u v, .int .u64 share] w (GivesC w 2 (two7 key share) 2 (fun _ => 1) (two7r (fun _ => G) (fun _ => u))) := by
  have HZ := lain3 w (gc P Q G H a n cap) (pc u v) (cc none 0 0 none 0 0) 25 58 34
  have hs0 : w.heap.size + 1 + 1 < (((w.alloc (.cells (gc P Q G H a n cap) 25)).alloc (.cells (pc u v) 58)).alloc (.cells (cc none 0 0 none 0 0) 34)).heap.size := by simp
  have HW0 : Hid (Old w (((w.alloc (.cells (gc P Q G H a n cap) 25)).alloc (.cells (pc u v) 58)).alloc (.cells (cc none 0 0 none 0 0) 34))) := HZ.old
  have HT0 : ∀ w', Old (((w.alloc (.cells (gc P Q G H a n cap) 25)).alloc (.cells (pc u v) 58)).alloc (.cells (cc none 0 0 none 0 0) 34)) w' → w'.cell? ⟨w.heap.size, 2, none⟩ = some (.int .u64 G) ∧ w'.cell? ⟨w.heap.size + 1, 0, none⟩ = some (.int .u64 u) := fun w' ho => ⟨(HZ.then ho).cell 0 2 (by simp) rfl, (HZ.then ho).cell 1 0 (by simp) rfl⟩
  have HRS0 : ∀ w', Old (((w.alloc (.cells (gc P Q G H a n cap) 25)).alloc (.cells (pc u v) 58)).alloc (.cells (cc none 0 0 none 0 0) 34)) w' → w'.heap[w.heap.size + 1 + 1]? = some (.cells #[.slice none 0 0, .slice none 0 0] 34 (0, 0)) := fun w' ho => (HZ.then ho).row 2 (by simp)
  clear HZ
  go_enter Try.func35, Try.ntmps35
  go_upto_region 1 with fail
  generalize (((w.alloc (.cells (gc P Q G H a n cap) 25)).alloc (.cells (pc u v) 58)).alloc (.cells (cc none 0 0 none 0 0) 34)) = W at *
  have HRS : Hid (∀ w', Old W w' → w'.heap[w.heap.size + 1 + 1]? = some (.cells #[.slice none 0 0, .slice none 0 0] 34 (0, 0))) := HRS0
  have HT : Hid (∀ w', Old W w' → w'.cell? ⟨w.heap.size, 2, none⟩ = some (.int .u64 G) ∧ w'.cell? ⟨w.heap.size + 1, 0, none⟩ = some (.int .u64 u)) := HT0
  clear HRS0 HT0
  obtain ⟨a2, a0⟩ := HT.out _ (Old.refl W)
  obtain ⟨b2, b0⟩ := HT.out _ ((Old.refl W).alloc (.cells #[.int .u64 key, .int .u64 share] 22))
  obtain ⟨c2, c0⟩ := HT.out _ (((Old.refl W).alloc (.cells #[.int .u64 key, .int .u64 share] 22)).alloc (.cells #[.int .u64 G] 22))
  have N1 : Hid (Nums ((((W.alloc (.cells #[.int .u64 key, .int .u64 share] 22)).alloc (.cells #[.int .u64 G] 22)).alloc (.cells #[.int .u64 u] 22)).alloc (.cells #[.slice (some ⟨W.heap.size + 1, 0, none⟩) 1 1, .slice (some ⟨W.heap.size + 1 + 1, 0, none⟩) 1 1] 27)) W.heap.size (.slice (some ⟨W.heap.size, 0, none⟩) 2 2) 2 (two7 key share)) := (nums_new W W.heap.size 2 [.int .u64 key, .int .u64 share] (two7 key share) (Nat.le_refl _) (by omega) rfl).old ((((Old.refl _).alloc _).alloc _).alloc _)
  have N2 : Hid (Rws ((((W.alloc (.cells #[.int .u64 key, .int .u64 share] 22)).alloc (.cells #[.int .u64 G] 22)).alloc (.cells #[.int .u64 u] 22)).alloc (.cells #[.slice (some ⟨W.heap.size + 1, 0, none⟩) 1 1, .slice (some ⟨W.heap.size + 1 + 1, 0, none⟩) 1 1] 27)) W.heap.size (.slice (some ⟨W.heap.size + 1 + 1 + 1, 0, none⟩) 2 2) 2 (fun _ => 1) (two7r (fun _ => G) (fun _ => u))) := by
    have h := (nums_new (W.alloc (.cells #[.int .u64 key, .int .u64 share] 22)) W.heap.size 1 [.int .u64 G] (fun _ => G) (by rw [size_al7]; omega) (by omega) rfl).old ((Old.refl _).alloc (.cells #[.int .u64 u] 22))
    have k := nums_new ((W.alloc (.cells #[.int .u64 key, .int .u64 share] 22)).alloc (.cells #[.int .u64 G] 22)) W.heap.size 1 [.int .u64 u] (fun _ => u) (by rw [size_al7, size_al7]; omega) (by omega) rfl
    rw [size_al7] at h
    rw [size_al7, size_al7] at k
    have h2 := rws_new (((W.alloc (.cells #[.int .u64 key, .int .u64 share] 22)).alloc (.cells #[.int .u64 G] 22)).alloc (.cells #[.int .u64 u] 22)) W.heap.size 2 [.slice (some ⟨W.heap.size + 1, 0, none⟩) 1 1, .slice (some ⟨W.heap.size + 1 + 1, 0, none⟩) 1 1] (two7a (some ⟨W.heap.size + 1, 0, none⟩) (some ⟨W.heap.size + 1 + 1, 0, none⟩)) (fun _ => 1) (fun _ => 1) (two7r (fun _ => G) (fun _ => u)) (by rw [size_al7, size_al7, size_al7]; omega) (by omega) rfl (lt2 h k)
    rw [size_al7, size_al7, size_al7] at h2
    exact h2
  have HO : Hid (Old W ((((W.alloc (.cells #[.int .u64 key, .int .u64 share] 22)).alloc (.cells #[.int .u64 G] 22)).alloc (.cells #[.int .u64 u] 22)).alloc (.cells #[.slice (some ⟨W.heap.size + 1, 0, none⟩) 1 1, .slice (some ⟨W.heap.size + 1 + 1, 0, none⟩) 1 1] 27))) := ((((Old.refl _).alloc _).alloc _).alloc _).alloc _
  have HR := HRS.out _ HO.out
  have q0 := cell_of_row _ _ 0 _ _ (0, 0) HR
  have q1 := cell_of_row _ _ 1 _ _ (0, 0) HR
  have f0 := row_frozen HR 0
  have f1 := row_frozen HR 1
  have HRh : Hid (((((W.alloc (.cells #[.int .u64 key, .int .u64 share] 22)).alloc (.cells #[.int .u64 G] 22)).alloc (.cells #[.int .u64 u] 22)).alloc (.cells #[.slice (some ⟨W.heap.size + 1, 0, none⟩) 1 1, .slice (some ⟨W.heap.size + 1 + 1, 0, none⟩) 1 1] 27)).heap[w.heap.size + 1 + 1]? = some (.cells #[.slice none 0 0, .slice none 0 0] 34 (0, 0))) := HR
  clear HR
  simp only [List.getElem?_toArray, List.getElem?_cons_zero, List.getElem?_cons_succ] at q0 q1
  go_wp2_with fail
  exact bodyPost_ret (result5 (b := w.heap.size + 1 + 1) rfl rfl (load_two HRh.out Try.underlying34 info_claim)) rfl (givesC_set (by omega) hs0 (HW0.out.trans HO.out) (by omega) N1.out N2.out)

set_option linter.unusedSimpArgs false in
set_option maxRecDepth 100000 in
set_option maxHeartbeats 8000000 in
theorem pshares_any (P Q G H : Int) (a : Option Addr) (n cap : Nat) (key u v share : Int) (w : World) :
    Calls Try.prog 34 #[gv P Q G H a n cap, .int .u64 key, pv u v, .int .u64 share] w (GivesC w 2 (two7 key share) 2 (fun _ => 1) (two7r (fun _ => G) (fun _ => u))) := by
  have HZ := lain3 w (gc P Q G H a n cap) (pc u v) (cc none 0 0 none 0 0) 25 58 34
  have hs0 : w.heap.size + 1 + 1 < (((w.alloc (.cells (gc P Q G H a n cap) 25)).alloc (.cells (pc u v) 58)).alloc (.cells (cc none 0 0 none 0 0) 34)).heap.size := by simp
  have HW0 : Hid (Old w (((w.alloc (.cells (gc P Q G H a n cap) 25)).alloc (.cells (pc u v) 58)).alloc (.cells (cc none 0 0 none 0 0) 34))) := HZ.old
  have HT0 : ∀ w', Old (((w.alloc (.cells (gc P Q G H a n cap) 25)).alloc (.cells (pc u v) 58)).alloc (.cells (cc none 0 0 none 0 0) 34)) w' → w'.cell? ⟨w.heap.size, 2, none⟩ = some (.int .u64 G) ∧ w'.cell? ⟨w.heap.size + 1, 0, none⟩ = some (.int .u64 u) := fun w' ho => ⟨(HZ.then ho).cell 0 2 (by simp) rfl, (HZ.then ho).cell 1 0 (by simp) rfl⟩
  have HRS0 : ∀ w', Old (((w.alloc (.cells (gc P Q G H a n cap) 25)).alloc (.cells (pc u v) 58)).alloc (.cells (cc none 0 0 none 0 0) 34)) w' → w'.heap[w.heap.size + 1 + 1]? = some (.cells #[.slice none 0 0, .slice none 0 0] 34 (0, 0)) := fun w' ho => (HZ.then ho).row 2 (by simp)
  clear HZ
  go_enter Try.func34, Try.ntmps34
  go_upto_region 1 with fail
  generalize (((w.alloc (.cells (gc P Q G H a n cap) 25)).alloc (.cells (pc u v) 58)).alloc (.cells (cc none 0 0 none 0 0) 34)) = W at *
  have HRS : Hid (∀ w', Old W w' → w'.heap[w.heap.size + 1 + 1]? = some (.cells #[.slice none 0 0, .slice none 0 0] 34 (0, 0))) := HRS0
  have HT : Hid (∀ w', Old W w' → w'.cell? ⟨w.heap.size, 2, none⟩ = some (.int .u64 G) ∧ w'.cell? ⟨w.heap.size + 1, 0, none⟩ = some (.int .u64 u)) := HT0
  clear HRS0 HT0
  obtain ⟨a2, a0⟩ := HT.out _ (Old.refl W)
  obtain ⟨b2, b0⟩ := HT.out _ ((Old.refl W).alloc (.cells #[.int .u64 key, .int .u64 share] 22))
  obtain ⟨c2, c0⟩ := HT.out _ (((Old.refl W).alloc (.cells #[.int .u64 key, .int .u64 share] 22)).alloc (.cells #[.int .u64 G] 22))
  have N1 : Hid (Nums ((((W.alloc (.cells #[.int .u64 key, .int .u64 share] 22)).alloc (.cells #[.int .u64 G] 22)).alloc (.cells #[.int .u64 u] 22)).alloc (.cells #[.slice (some ⟨W.heap.size + 1, 0, none⟩) 1 1, .slice (some ⟨W.heap.size + 1 + 1, 0, none⟩) 1 1] 27)) W.heap.size (.slice (some ⟨W.heap.size, 0, none⟩) 2 2) 2 (two7 key share)) := (nums_new W W.heap.size 2 [.int .u64 key, .int .u64 share] (two7 key share) (Nat.le_refl _) (by omega) rfl).old ((((Old.refl _).alloc _).alloc _).alloc _)
  have N2 : Hid (Rws ((((W.alloc (.cells #[.int .u64 key, .int .u64 share] 22)).alloc (.cells #[.int .u64 G] 22)).alloc (.cells #[.int .u64 u] 22)).alloc (.cells #[.slice (some ⟨W.heap.size + 1, 0, none⟩) 1 1, .slice (some ⟨W.heap.size + 1 + 1, 0, none⟩) 1 1] 27)) W.heap.size (.slice (some ⟨W.heap.size + 1 + 1 + 1, 0, none⟩) 2 2) 2 (fun _ => 1) (two7r (fun _ => G) (fun _ => u))) := by
    have h := (nums_new (W.alloc (.cells #[.int .u64 key, .int .u64 share] 22)) W.heap.size 1 [.int .u64 G] (fun _ => G) (by rw [size_al7]; omega) (by omega) rfl).old ((Old.refl _).alloc (.cells #[.int .u64 u] 22))
    have k := nums_new ((W.alloc (.cells #[.int .u64 key, .int .u64 share] 22)).alloc (.cells #[.int .u64 G] 22)) W.heap.size 1 [.int .u64 u] (fun _ => u) (by rw [size_al7, size_al7]; omega) (by omega) rfl
    rw [size_al7] at h
    rw [size_al7, size_al7] at k
    have h2 := rws_new (((W.alloc (.cells #[.int .u64 key, .int .u64 share] 22)).alloc (.cells #[.int .u64 G] 22)).alloc (.cells #[.int .u64 u] 22)) W.heap.size 2 [.slice (some ⟨W.heap.size + 1, 0, none⟩) 1 1, .slice (some ⟨W.heap.size + 1 + 1, 0, none⟩) 1 1] (two7a (some ⟨W.heap.size + 1, 0, none⟩) (some ⟨W.heap.size + 1 + 1, 0, none⟩)) (fun _ => 1) (fun _ => 1) (two7r (fun _ => G) (fun _ => u)) (by rw [size_al7, size_al7, size_al7]; omega) (by omega) rfl (lt2 h k)
    rw [size_al7, size_al7, size_al7] at h2
    exact h2
  have HO : Hid (Old W ((((W.alloc (.cells #[.int .u64 key, .int .u64 share] 22)).alloc (.cells #[.int .u64 G] 22)).alloc (.cells #[.int .u64 u] 22)).alloc (.cells #[.slice (some ⟨W.heap.size + 1, 0, none⟩) 1 1, .slice (some ⟨W.heap.size + 1 + 1, 0, none⟩) 1 1] 27))) := ((((Old.refl _).alloc _).alloc _).alloc _).alloc _
  have HR := HRS.out _ HO.out
  have q0 := cell_of_row _ _ 0 _ _ (0, 0) HR
  have q1 := cell_of_row _ _ 1 _ _ (0, 0) HR
  have f0 := row_frozen HR 0
  have f1 := row_frozen HR 1
  have HRh : Hid (((((W.alloc (.cells #[.int .u64 key, .int .u64 share] 22)).alloc (.cells #[.int .u64 G] 22)).alloc (.cells #[.int .u64 u] 22)).alloc (.cells #[.slice (some ⟨W.heap.size + 1, 0, none⟩) 1 1, .slice (some ⟨W.heap.size + 1 + 1, 0, none⟩) 1 1] 27)).heap[w.heap.size + 1 + 1]? = some (.cells #[.slice none 0 0, .slice none 0 0] 34 (0, 0))) := HR
  clear HR
  simp only [List.getElem?_toArray, List.getElem?_cons_zero, List.getElem?_cons_succ] at q0 q1
  go_wp2_with fail
  exact bodyPost_ret (result5 (b := w.heap.size + 1 + 1) rfl rfl (load_two HRh.out Try.underlying34 info_claim)) rfl (givesC_set (by omega) hs0 (HW0.out.trans HO.out) (by omega) N1.out N2.out)

end Go.Proofs.Ytokhpppealdfmaf
