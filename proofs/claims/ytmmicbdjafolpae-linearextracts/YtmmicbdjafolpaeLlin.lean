/-
  What is asked of the program's functions of layer 6, and the statements' awake by it.
-/
import Derived.Test.YtmmicbdjafolpaeLclaim
namespace Go.Proofs.Ytmmicbdjafolpae
open Go.RowKit

/-- A claim of few targets and bases. -/
def FewI (nt nb : Nat) (L : Nat → Nat) : Prop := nt ≤ 20 ∧ nb ≤ 20 ∧ ∀ j, j < nb → L j ≤ 20
/-- The program's size answers as the document says, of groups that are right. -/
def Lsize : Prop := ∀ (P Q G H : Int) (a : Option Addr) (n cap : Nat) (bt : Option Addr) (nt ct : Nat) (T : Nat → Int) (bb : Option Addr) (nb cb : Nat) (BA : Nat → Option Addr) (L C : Nat → Nat) (B : Nat → Nat → Int) (w : World), Four P Q G H → Righ P Q G → FewI nt nb L → ClaimIn w bt nt ct T bb nb cb BA L C B →
    Calls Try.prog 20 #[gv P Q G H a n cap, cv bt nt ct bb nb cb] w fun e w' => e = .returned (.int .i64 (sizeN P Q nt T nb L B : Nat)) ∧ Old w w'
/-- The program's image answers as the document says, of groups that are right. -/
def Limage : Prop := ∀ (P Q G H : Int) (a : Option Addr) (n cap : Nat) (bt : Option Addr) (nt ct : Nat) (T : Nat → Int) (bb : Option Addr) (nb cb : Nat) (BA : Nat → Option Addr) (L C : Nat → Nat) (B : Nat → Nat → Int) (bz : Option Addr) (nz cz : Nat) (X : Nat → Int) (w : World), Four P Q G H → Righ P Q G → FewI nt nb L → nz ≤ 80 → nz ≤ cz → ClaimIn w bt nt ct T bb nb cb BA L C B → FacsIn w bz nz X →
    Calls Try.prog 18 #[gv P Q G H a n cap, cv bt nt ct bb nb cb, .slice bz nz cz] w (Gives w (fitsB (sizeN P Q nt T nb L B) nz) nt (fun j => imI P Q (B j) X (sizeN P Q nt T nb L B)))
/-- The program's holds answers as the document says, of groups that are right. -/
def Lholds : Prop := ∀ (P Q G H : Int) (a : Option Addr) (n cap : Nat) (bt : Option Addr) (nt ct : Nat) (T : Nat → Int) (bb : Option Addr) (nb cb : Nat) (BA : Nat → Option Addr) (L C : Nat → Nat) (B : Nat → Nat → Int) (bz : Option Addr) (nz cz : Nat) (X : Nat → Int) (w : World), Four P Q G H → Righ P Q G → FewI nt nb L → nz ≤ 80 → nz ≤ cz → ClaimIn w bt nt ct T bb nb cb BA L C B → FacsIn w bz nz X →
    Calls Try.prog 23 #[gv P Q G H a n cap, cv bt nt ct bb nb cb, .slice bz nz cz] w fun e w' => e = .returned (.bool (holdsL P Q nt T nb L B nz X)) ∧ Old w w'
/-- The program's answer answers as the document says, of groups that are right. -/
def Lanswer : Prop := ∀ (P Q G H : Int) (a : Option Addr) (n cap : Nat) (b1 : Option Addr) (n1 c1 : Nat) (X : Nat → Int) (b2 : Option Addr) (n2 c2 : Nat) (Y : Nat → Int) (e : Int) (w : World), Four P Q G H → Righ P Q G → U64 e → n1 ≤ 80 → n2 ≤ 80 → n1 ≤ c1 → n2 ≤ c2 → FacsIn w b1 n1 X → FacsIn w b2 n2 Y →
    Calls Try.prog 29 #[gv P Q G H a n cap, .slice b1 n1 c1, .slice b2 n2 c2, .int .u64 e] w (Gives w (decide (n1 = n2)) n1 (fun k => ansI Q e (X k) (Y k)))
/-- The program's draws answers as the document says, of groups that are right. -/
def Ldraws : Prop := ∀ (P Q G H : Int) (a : Option Addr) (n cap : Nat) (b1 : Option Addr) (n1 c1 : Nat) (X : Nat → Int) (b2 : Option Addr) (n2 c2 : Nat) (Y : Nat → Int) (e : Int) (w : World), Four P Q G H → Righ P Q G → U64 e → n1 ≤ 80 → n2 ≤ 80 → n1 ≤ c1 → n2 ≤ c2 → FacsIn w b1 n1 X → FacsIn w b2 n2 Y →
    Calls Try.prog 31 #[gv P Q G H a n cap, .slice b1 n1 c1, .slice b2 n2 c2, .int .u64 e] w (Gives w (decide (n1 = n2)) n1 (fun k => drwI Q e (X k) (Y k)))
/-- The program's extract answers as the document says, of groups that are right. -/
def Lextract : Prop := ∀ (P Q G H : Int) (a : Option Addr) (n cap : Nat) (b1 : Option Addr) (n1 c1 : Nat) (X : Nat → Int) (b2 : Option Addr) (n2 c2 : Nat) (Y : Nat → Int) (e f : Int) (w : World), Four P Q G H → Righ P Q G → U64 e → U64 f → n1 ≤ 80 → n2 ≤ 80 → n1 ≤ c1 → n2 ≤ c2 → FacsIn w b1 n1 X → FacsIn w b2 n2 Y →
    Calls Try.prog 33 #[gv P Q G H a n cap, .int .u64 e, .slice b1 n1 c1, .int .u64 f, .slice b2 n2 c2] w (Gives w (invB (subI e f Q) Q && decide (n1 = n2)) n1 (fun k => exI Q (invI (subI e f Q) Q) (X k) (Y k)))
/-- The program's accepts answers as the document says, of groups that are right. -/
def Laccepts : Prop := ∀ (P Q G H : Int) (a : Option Addr) (n cap : Nat) (bt : Option Addr) (nt ct : Nat) (T : Nat → Int) (bb : Option Addr) (nb cb : Nat) (BA : Nat → Option Addr) (L C : Nat → Nat) (B : Nat → Nat → Int) (bk : Option Addr) (nk ck : Nat) (K : Nat → Int) (ch : Int) (bz : Option Addr) (nz cz : Nat) (X : Nat → Int) (w : World), Four P Q G H → Righ P Q G → FewI nt nb L → U64 ch → nk ≤ 80 → nk ≤ ck → nz ≤ 80 → nz ≤ cz → ClaimIn w bt nt ct T bb nb cb BA L C B → FacsIn w bk nk K → FacsIn w bz nz X →
    Calls Try.prog 27 #[gv P Q G H a n cap, cv bt nt ct bb nb cb, .slice bk nk ck, .int .u64 ch, .slice bz nz cz] w fun e w' => e = .returned (.bool (accB P Q nt T nb L B nk K ch nz X)) ∧ Old w w'
/-- The program's fake answers as the document says, of groups that are right. -/
def Lfake : Prop := ∀ (P Q G H : Int) (a : Option Addr) (n cap : Nat) (bt : Option Addr) (nt ct : Nat) (T : Nat → Int) (bb : Option Addr) (nb cb : Nat) (BA : Nat → Option Addr) (L C : Nat → Nat) (B : Nat → Nat → Int) (ch : Int) (bz : Option Addr) (nz cz : Nat) (X : Nat → Int) (w : World), Four P Q G H → Righ P Q G → FewI nt nb L → U64 ch → nz ≤ 80 → nz ≤ cz → ClaimIn w bt nt ct T bb nb cb BA L C B → FacsIn w bz nz X →
    Calls Try.prog 25 #[gv P Q G H a n cap, cv bt nt ct bb nb cb, .int .u64 ch, .slice bz nz cz] w (Gives w (fitsB (sizeN P Q nt T nb L B) nz) nt (fun j => overI P (imI P Q (B j) X (sizeN P Q nt T nb L B)) (expI P Q (T j) ch)))

theorem row_new2 (x : World) (o1 o2 o3 o4 : Obj) : Old (x.alloc o1) ((((x.alloc o1).alloc o2).alloc o3).alloc o4) ∧ Old ((x.alloc o1).alloc o2) ((((x.alloc o1).alloc o2).alloc o3).alloc o4) ∧ Old (((x.alloc o1).alloc o2).alloc o3) ((((x.alloc o1).alloc o2).alloc o3).alloc o4) :=
  ⟨(((Old.refl _).alloc _).alloc _).alloc _, ((Old.refl _).alloc _).alloc _, (Old.refl _).alloc _⟩
theorem size_al (x : World) (o : Obj) : (x.alloc o).heap.size = x.heap.size + 1 := by simp

/-- The claim that awake lays out. -/
theorem awk_claim (x W : World) (t1 t2 t3 t4 : TypeId) (v : Value) (ho : Old ((((x.alloc (.cells #[.int .u64 64] t1)).alloc (.cells #[.int .u64 4] t2)).alloc (.cells #[.slice (some ⟨x.heap.size + 1, 0, none⟩) 1 1] t3)).alloc (.cells #[v, .slice (some ⟨x.heap.size + 1 + 1, 0, none⟩) 1 1] t4)) W) :
    ClaimIn W (some ⟨x.heap.size, 0, none⟩) 1 1 (fun _ => 64) (some ⟨x.heap.size + 1 + 1, 0, none⟩) 1 1 (fun _ => some ⟨x.heap.size + 1, 0, none⟩) (fun _ => 1) (fun _ => 1) (fun _ _ => 4) := by
  have e1 := facs_one x 64 t1 ⟨by omega, by omega⟩
  have e2 := facs_one (x.alloc (.cells #[.int .u64 64] t1)) 4 t2 ⟨by omega, by omega⟩
  have e3 := lens_one ((x.alloc (.cells #[.int .u64 64] t1)).alloc (.cells #[.int .u64 4] t2)) (some ⟨x.heap.size + 1, 0, none⟩) 1 1 t3
  rw [size_al] at e2
  rw [size_al, size_al] at e3
  have o := row_new2 x (.cells #[.int .u64 64] t1) (.cells #[.int .u64 4] t2) (.cells #[.slice (some ⟨x.heap.size + 1, 0, none⟩) 1 1] t3) (.cells #[v, .slice (some ⟨x.heap.size + 1 + 1, 0, none⟩) 1 1] t4)
  refine ⟨by omega, by omega, by omega, by omega, e1.old (o.1.trans ho), ?_⟩
  rcases e3.old (o.2.2.trans ho) with h | ⟨b, off, hq, hb, hr⟩
  · omega
  · exact Or.inr ⟨b, off, hq, hb, fun j hj => ⟨hr j hj, Nat.le_refl _, show (1 : Nat) ≤ 9223372036854775807 by omega, e2.old (o.2.1.trans ho)⟩⟩
theorem awk_size : sizeN 2027 1013 1 (fun _ => 64) 1 (fun _ => 1) (fun _ _ => 4) = 1 := by decide +kernel
theorem awk_yes : holdsL 2027 1013 1 (fun _ => 64) 1 (fun _ => 1) (fun _ _ => 4) 1 (fun _ => 3) = true := by decide +kernel
theorem awk_no : holdsL 2027 1013 1 (fun _ => 64) 1 (fun _ => 1) (fun _ _ => 4) 1 (fun _ => 4) = false := by decide +kernel

set_option maxRecDepth 100000 in
set_option maxHeartbeats 8000000 in
theorem awake6_any (hLs : Lsize) (hLh : Lholds) (w : World) : Calls Try.prog 16 #[] w fun e w' => e = .returned (.bool true) ∧ Old w w' := by
  go_enter Try.func16, Try.ntmps16
  go_upto_region 2 with (go_at_call 36; refine (small4_any _).mono ?_; rintro e w1 ⟨a, FA, rfl, hrow, ho1⟩)
  have HZ := lain1 w1 (gc 2027 1013 4 9 a 5 5) 25
  have HW : Hid (Old w w1) := ho1
  clear hrow ho1
  generalize hx : w1.alloc (.cells (gc 2027 1013 4 9 a 5 5) 25) = x at *
  clear hx
  go_upto_region 3 with fail
  have HCl : Hid (∀ w', Old ((((x.alloc (.cells #[.int .u64 64] 22)).alloc (.cells #[.int .u64 4] 22)).alloc (.cells #[.slice (some ⟨x.heap.size + 1, 0, none⟩) 1 1] 34)).alloc (.cells #[.slice (some ⟨x.heap.size, 0, none⟩) 1 1, .slice (some ⟨x.heap.size + 1 + 1, 0, none⟩) 1 1] 40)) w' → ClaimIn w' (some ⟨x.heap.size, 0, none⟩) 1 1 (fun _ => 64) (some ⟨x.heap.size + 1 + 1, 0, none⟩) 1 1 (fun _ => some ⟨x.heap.size + 1, 0, none⟩) (fun _ => 1) (fun _ => 1) (fun _ _ => 4)) := fun w' ho => awk_claim x w' _ _ _ _ _ ho
  have HT : Hid (∀ w', Old ((((x.alloc (.cells #[.int .u64 64] 22)).alloc (.cells #[.int .u64 4] 22)).alloc (.cells #[.slice (some ⟨x.heap.size + 1, 0, none⟩) 1 1] 34)).alloc (.cells #[.slice (some ⟨x.heap.size, 0, none⟩) 1 1, .slice (some ⟨x.heap.size + 1 + 1, 0, none⟩) 1 1] 40)) w' → w'.cell? ⟨w1.heap.size, 0, none⟩ = some (.int .u64 2027) ∧ w'.cell? ⟨w1.heap.size, 1, none⟩ = some (.int .u64 1013) ∧ w'.cell? ⟨w1.heap.size, 2, none⟩ = some (.int .u64 4) ∧ w'.cell? ⟨w1.heap.size, 3, none⟩ = some (.int .u64 9) ∧ w'.cell? ⟨w1.heap.size, 4, none⟩ = some (.slice a 5 5) ∧ w'.cell? ⟨x.heap.size + 1 + 1 + 1, 0, none⟩ = some (.slice (some ⟨x.heap.size, 0, none⟩) 1 1) ∧ w'.cell? ⟨x.heap.size + 1 + 1 + 1, 1, none⟩ = some (.slice (some ⟨x.heap.size + 1 + 1, 0, none⟩) 1 1)) := fun w' ho => by
    have hz := HZ.then ((((((Old.refl x).alloc (.cells #[.int .u64 64] 22)).alloc (.cells #[.int .u64 4] 22)).alloc (.cells #[.slice (some ⟨x.heap.size + 1, 0, none⟩) 1 1] 34)).alloc (.cells #[.slice (some ⟨x.heap.size, 0, none⟩) 1 1, .slice (some ⟨x.heap.size + 1 + 1, 0, none⟩) 1 1] 40)).trans ho)
    have hs : (((x.alloc (.cells #[.int .u64 64] 22)).alloc (.cells #[.int .u64 4] 22)).alloc (.cells #[.slice (some ⟨x.heap.size + 1, 0, none⟩) 1 1] 34)).heap.size = x.heap.size + 1 + 1 + 1 := by rw [size_al, size_al, size_al]
    have z0 := ho.cellOf ((World.cell?_alloc_mark (((x.alloc (.cells #[.int .u64 64] 22)).alloc (.cells #[.int .u64 4] 22)).alloc (.cells #[.slice (some ⟨x.heap.size + 1, 0, none⟩) 1 1] 34)) #[.slice (some ⟨x.heap.size, 0, none⟩) 1 1, .slice (some ⟨x.heap.size + 1 + 1, 0, none⟩) 1 1] 40 (0, 0) 0).trans rfl)
    have z1 := ho.cellOf ((World.cell?_alloc_mark (((x.alloc (.cells #[.int .u64 64] 22)).alloc (.cells #[.int .u64 4] 22)).alloc (.cells #[.slice (some ⟨x.heap.size + 1, 0, none⟩) 1 1] 34)) #[.slice (some ⟨x.heap.size, 0, none⟩) 1 1, .slice (some ⟨x.heap.size + 1 + 1, 0, none⟩) 1 1] 40 (0, 0) 1).trans rfl)
    rw [hs] at z0 z1
    exact ⟨hz.cell 0 0 (by simp) rfl, hz.cell 0 1 (by simp) rfl, hz.cell 0 2 (by simp) rfl, hz.cell 0 3 (by simp) rfl, hz.cell 0 4 (by simp) rfl, z0, z1⟩
  have HO4 : Hid (Old w ((((x.alloc (.cells #[.int .u64 64] 22)).alloc (.cells #[.int .u64 4] 22)).alloc (.cells #[.slice (some ⟨x.heap.size + 1, 0, none⟩) 1 1] 34)).alloc (.cells #[.slice (some ⟨x.heap.size, 0, none⟩) 1 1, .slice (some ⟨x.heap.size + 1 + 1, 0, none⟩) 1 1] 40))) := ((((HW.out.trans HZ.old).alloc _).alloc _).alloc _).alloc _
  have hfew : FewI 1 1 (fun _ => 1) := ⟨by omega, by omega, fun _ _ => show (1 : Nat) ≤ 20 by omega⟩
  generalize ((((x.alloc (.cells #[.int .u64 64] 22)).alloc (.cells #[.int .u64 4] 22)).alloc (.cells #[.slice (some ⟨x.heap.size + 1, 0, none⟩) 1 1] 34)).alloc (.cells #[.slice (some ⟨x.heap.size, 0, none⟩) 1 1, .slice (some ⟨x.heap.size + 1 + 1, 0, none⟩) 1 1] 40)) = W at *
  have HSz : Hid (∀ wx, Old W wx → Calls Try.prog 20 #[gv 2027 1013 4 9 a 5 5, cv (some ⟨x.heap.size, 0, none⟩) 1 1 (some ⟨x.heap.size + 1 + 1, 0, none⟩) 1 1] wx fun e w' => e = .returned (.int .i64 1) ∧ Old W w') := fun wx ho => (hLs 2027 1013 4 9 a 5 5 (some ⟨x.heap.size, 0, none⟩) 1 1 (fun _ => 64) (some ⟨x.heap.size + 1 + 1, 0, none⟩) 1 1 (fun _ => some ⟨x.heap.size + 1, 0, none⟩) (fun _ => 1) (fun _ => 1) (fun _ _ => 4) wx four_sm small_righ hfew (HCl.out _ ho)).mono fun e w' ⟨h, k⟩ => ⟨by rw [h, awk_size]; rfl, ho.trans k⟩
  have HHy : Hid (∀ wx t, Old W wx → Calls Try.prog 23 #[gv 2027 1013 4 9 a 5 5, cv (some ⟨x.heap.size, 0, none⟩) 1 1 (some ⟨x.heap.size + 1 + 1, 0, none⟩) 1 1, .slice (some ⟨wx.heap.size, 0, none⟩) 1 1] (wx.alloc (.cells #[.int .u64 3] t)) fun e w' => e = .returned (.bool true) ∧ Old W w') := fun wx t ho => (hLh 2027 1013 4 9 a 5 5 (some ⟨x.heap.size, 0, none⟩) 1 1 (fun _ => 64) (some ⟨x.heap.size + 1 + 1, 0, none⟩) 1 1 (fun _ => some ⟨x.heap.size + 1, 0, none⟩) (fun _ => 1) (fun _ => 1) (fun _ _ => 4) _ 1 1 (fun _ => 3) _ four_sm small_righ hfew (by omega) (by omega) (HCl.out _ (ho.alloc _)) (facs_one wx 3 t ⟨by omega, by omega⟩)).mono fun e w' ⟨h, k⟩ => ⟨by rw [h, awk_yes], (ho.alloc _).trans k⟩
  have HHn : Hid (∀ wx t, Old W wx → Calls Try.prog 23 #[gv 2027 1013 4 9 a 5 5, cv (some ⟨x.heap.size, 0, none⟩) 1 1 (some ⟨x.heap.size + 1 + 1, 0, none⟩) 1 1, .slice (some ⟨wx.heap.size, 0, none⟩) 1 1] (wx.alloc (.cells #[.int .u64 4] t)) fun e w' => e = .returned (.bool false) ∧ Old W w') := fun wx t ho => (hLh 2027 1013 4 9 a 5 5 (some ⟨x.heap.size, 0, none⟩) 1 1 (fun _ => 64) (some ⟨x.heap.size + 1 + 1, 0, none⟩) 1 1 (fun _ => some ⟨x.heap.size + 1, 0, none⟩) (fun _ => 1) (fun _ => 1) (fun _ _ => 4) _ 1 1 (fun _ => 4) _ four_sm small_righ hfew (by omega) (by omega) (HCl.out _ (ho.alloc _)) (facs_one wx 4 t ⟨by omega, by omega⟩)).mono fun e w' ⟨h, k⟩ => ⟨by rw [h, awk_no], (ho.alloc _).trans k⟩
  clear HCl hfew HZ HW hLs hLh
  obtain ⟨d0, d1, d2, d3, d4, z0, z1⟩ := HT.out _ (Old.refl _)
  go_wp2_with (first
    | (go_at_call 20; refine (HSz.out _ (Old.refl _)).mono ?_; rintro e w5 ⟨rfl, h5⟩; obtain ⟨d0, d1, d2, d3, d4, z0, z1⟩ := HT.out _ h5)
    | (go_at_call 23; have hg6 := h6; refine (HHn.out _ _ hg6).mono ?_; rintro e w7 ⟨rfl, h7⟩)
    | (go_at_call 23; refine (HHy.out _ _ h5).mono ?_; rintro e w6 ⟨rfl, h6⟩; obtain ⟨d0, d1, d2, d3, d4, z0, z1⟩ := HT.out _ h6))
  go_ret
  exact ⟨rfl, HO4.out.trans h7⟩

end Go.Proofs.Ytmmicbdjafolpae
