/-
  What the proof needs, part 18.
-/
import Derived.Test.YtlnmjbbpenhdbaaGreatKp17
namespace Go.Proofs.YtlnmjbbpenhdbaaGreat
open Tryz
open List renaming set_cons_zero → zs0, set_cons_succ → zs1, drop_succ_cons → zd1, drop_zero → zd0, drop_nil → zdn
open Tryz renaming underlying3 → U3, underlying22 → U22, underlying25 → U25, underlying26 → U26, underlying27 → U27, underlying29 → U29, underlying74 → U74
set_option linter.unusedSimpArgs false
set_option linter.unusedVariables false
set_option maxRecDepth 100000
set_option maxHeartbeats 32000000
section
open Go.RowKit
theorem zcP (P Q G H : Int) (a : OA) (n cap : Nat) (b : OA) (m c : Nat) (C : NN) (w : World) (h4 : Four P Q G H) (mm : m <= 9223372036854775807) (h : BoxsIn w b m C) :
  Calls prog 54 #[gv P Q G H a n cap, .slice b m c] w (Ret w (.bool (batB P Q m C))) := by
 have HX : Hid (BoxsIn w b m C) := h
 have HI : Hid (∀ x r wx, U64 x -> inI P Q x = r -> Calls prog 55 #[gv P Q G H a n cap, .int .u64 x] wx (Ret wx (.bool r))) := fun x r wx hx hr => by
  have := zdu P Q G H x a n cap wx h4.q0 h4.q1 hx.2
  rw [hr] at this
  exact this
 have HZ := lain1 w (gc P Q G H a n cap) 25
 have HG0 := fun w' ho => (HZ.then (W' := w') ho).row 0 (by simp)
 have HW0 : Hid (Old w (w.alloc (.cells (gc P Q G H a n cap) 25))) := HZ.old
 clear HZ h h4
 by_cases h1 : 1 <= m
 rotate_left
 ·have HV : Hid (batB P Q m C = false) := no_of fun hc => h1 (zaM.1 hc).1.1
  have h0 : m = 0 := by omega
  subst h0
  go_enter func54, ntmps54
  go_upto_region 1 with fail
  generalize w.alloc (.cells (gc P Q G H a n cap) 25) = W at *
  go_wp2_with fail
  go_ret
  exact ⟨zad HV.out.symm, HW0.out⟩
 by_cases h8 : m <= 8
 rotate_left
 ·have HV : Hid (batB P Q m C = false) := no_of fun hc => h8 (zaM.1 hc).1.2
  have k1 : ¬ (m : Int) < 1 := by omega
  have k2 : (8 : Int) < (m : Int) := by omega
  clear h1 h8
  go_enter func54, ntmps54
  go_upto_region 1 with fail
  generalize w.alloc (.cells (gc P Q G H a n cap) 25) = W at *
  go_wp2_with fail
  go_ret
  exact ⟨zad HV.out.symm, HW0.out⟩
 have k1 : ¬ (m : Int) < 1 := by omega
 have k2 : ¬ (8 : Int) < (m : Int) := by omega
 have H18 : Hid (1 <= m /\ m <= 8) := ⟨h1, h8⟩
 go_enter func54, ntmps54
 go_upto_region 1 with fail
 generalize w.alloc (.cells (gc P Q G H a n cap) 25) = W at *
 obtain ⟨gb, hgb⟩ : ∃ gb, gb = w.heap.size := ⟨_, rfl⟩
 have HG : Hid (∀ wx, Old W wx -> wx.heap[gb]? = some (.cells (gc P Q G H a n cap) 25 (0, 0))) := by rw [hgb]; exact HG0
 rw [<- hgb]
 clear hgb HG0
 go_wp2_with fail
 go_loopw [5] (fun iv wx => ∃ i : Nat, iv = .int .i64 (i : Int) /\ i <= m /\ Hid (Old W wx) /\ Hid (∀ j, j < i -> ∀ k, k < 6 -> inI P Q (C j k) = true)) (fun iv _ => m - (intOf iv).toNat)
 case atStart => exact ⟨0, rfl, Nat.zero_le _, Old.refl _, fun j hj => by omega⟩
 case round =>
  obtain ⟨i, rfl, hi, HO, HJ⟩ := hrel
  by_cases hlt : i < m
  ·go_upto_region 7 with fail
   go_loopw [6] (fun kv wx => ∃ k : Nat, kv = .int .i64 (k : Int) /\ k <= 3 /\ Hid (Old W wx) /\ Hid (∀ q, q < 2 * k -> inI P Q (C i q) = true)) (fun kv _ => 3 - (intOf kv).toNat)
   case atStart => exact ⟨0, rfl, Nat.zero_le _, HO, fun q hq => by omega⟩
   case round =>
    obtain ⟨k, rfl, hk, HO2, HK⟩ := hrel
    by_cases hkl : k < 3
    ·have k3 : (k : Int) < 3 := by omega
     rcases HX.out with h0 | ⟨bx, ox, hqx, _, hrx⟩
     ·omega
     have HU : Hid (∀ wx, Old wr wx -> wx.cell? ⟨bx, ox + i * 6 + k * 2, none⟩ = some (.int .u64 (C i (2 * k)))) := fun wx ho => by
      have := (((HW0.out.trans HO2.out).trans ho)).cellOf (hrx i hlt (2 * k) (by omega)).1
      rwa [show ox + i * 6 + 2 * k = ox + i * 6 + k * 2 by omega] at this
     have HV : Hid (∀ wx, Old wr wx -> wx.cell? ⟨bx, ox + i * 6 + k * 2 + 1, none⟩ = some (.int .u64 (C i (2 * k + 1)))) := fun wx ho => by
      have := (((HW0.out.trans HO2.out).trans ho)).cellOf (hrx i hlt (2 * k + 1) (by omega)).1
      rwa [show ox + i * 6 + (2 * k + 1) = ox + i * 6 + k * 2 + 1 by omega] at this
     have HUu : Hid (U64 (C i (2 * k)) /\ U64 (C i (2 * k + 1))) := ⟨(hrx i hlt (2 * k) (by omega)).2, (hrx i hlt (2 * k + 1) (by omega)).2⟩
     have HGr : Hid (∀ wx, Old wr wx -> wx.heap[gb]? = some (.cells (gc P Q G H a n cap) 25 (0, 0))) := fun wx ho => HG.out wx (HO2.out.trans ho)
     clear hrx
     subst hqx
     cases hu : inI P Q (C i (2 * k)) with
     | false =>
      have HIu : Hid (inI P Q (C i (2 * k)) = false) := hu
      have HN : Hid (batB P Q m C = false) := no_of fun hc => by have := (zaM.1 hc).2 i hlt (2 * k) (by omega); rw [hu] at this; cases this
      clear hu
      generalize C i (2 * k) = xu at *
      generalize C i (2 * k + 1) = xv at *
      go_upto_region 9 with fail
      refine zaa 22 [.k (gv P Q G H a n cap), .k (.slice (some ⟨bx, ox, none⟩) m c), .k (.int .i64 (i : Int)), .k (.int .i64 (k : Int)), .k (.pointer (some ⟨bx, ox + i * 6, none⟩)), .k (.pointer (some ⟨bx, ox + i * 6 + k * 2, none⟩)), .k (.pointer (some ⟨bx, ox + i * 6 + k * 2, none⟩)), .k (.int .u64 xu), .k (.bool false), .k (.bool true), .k (.bool true), .k undef, .k undef, .k undef, .k undef, .k undef, .k undef, .k undef, .k undef, .k undef, .k undef, .k (.bool true)] (Old wr) (by kernel_rfl) (by kernel_rfl) rfl ((Old.refl _).drew) ?st ?_
      case st =>
       refine .c (sts U25 HGr.out) <| .p <| .p <| .p <| .c (stj (n := m) (c := c) 6 hlt U26) <| .c (saj 2 hkl U74) <| .p <| .c (stl U22 HU.out) <| .c (stK old_R func55 (fun wy _ => HI.out xu false wy HUu.out.1 HIu.out)) <| .p <| .p <| .c stn <| .c stn <| .c stn <| .c stn <| .c stn <| .c stn <| .c stn <| .c stn <| .c stn <| .c stn <| .c stp .n
      intro t wz hR hk2
      simp only [fill, Ent.val, zs0, zs1, zd1, zd0, zdn]
      have HO3 : Hid (Old W wz) := HO2.out.trans hR
      clear hR hk2
      go_wp2_with fail
      go_ret
      exact ⟨zad HN.out.symm, HW0.out.trans HO3.out⟩
     | true =>
      have HIu : Hid (inI P Q (C i (2 * k)) = true) := hu
      clear hu
      cases hv : inI P Q (C i (2 * k + 1)) with
      | false =>
       have HIv : Hid (inI P Q (C i (2 * k + 1)) = false) := hv
       have HN : Hid (batB P Q m C = false) := no_of fun hc => by have := (zaM.1 hc).2 i hlt (2 * k + 1) (by omega); rw [hv] at this; cases this
       clear hv
       generalize C i (2 * k) = xu at *
       generalize C i (2 * k + 1) = xv at *
       go_upto_region 9 with fail
       refine zaa 22 [.k (gv P Q G H a n cap), .k (.slice (some ⟨bx, ox, none⟩) m c), .k (.int .i64 (i : Int)), .k (.int .i64 (k : Int)), .k (.pointer (some ⟨bx, ox + i * 6, none⟩)), .k (.pointer (some ⟨bx, ox + i * 6 + k * 2, none⟩)), .k (.pointer (some ⟨bx, ox + i * 6 + k * 2, none⟩)), .k (.int .u64 xu), .k (.bool true), .k (.bool false), .k (.bool false), .k (gv P Q G H a n cap), .k (.slice (some ⟨bx, ox, none⟩) m c), .k (.int .i64 (i : Int)), .k (.int .i64 (k : Int)), .k (.pointer (some ⟨bx, ox + i * 6, none⟩)), .k (.pointer (some ⟨bx, ox + i * 6 + k * 2, none⟩)), .k (.pointer (some ⟨bx, ox + i * 6 + k * 2 + 1, none⟩)), .k (.int .u64 xv), .k (.bool false), .k (.bool true), .k (.bool true)] (Old wr) (by kernel_rfl) (by kernel_rfl) rfl ((Old.refl _).drew) ?st ?_
       case st =>
        refine .c (sts U25 HGr.out) <| .p <| .p <| .p <| .c (stj (n := m) (c := c) 6 hlt U26) <| .c (saj 2 hkl U74) <| .p <| .c (stl U22 HU.out) <| .c (stK old_R func55 (fun wy _ => HI.out xu true wy HUu.out.1 HIu.out)) <| .p <| .p <| .c (sts U25 HGr.out) <| .p <| .p <| .p <| .c (stj (n := m) (c := c) 6 hlt U26) <| .c (saj 2 hkl U74) <| .p <| .c (stl U22 HV.out) <| .c (stK old_R func55 (fun wy _ => HI.out xv false wy HUu.out.2 HIv.out)) <| .p <| .c stp .n
       intro t wz hR hk2
       simp only [fill, Ent.val, zs0, zs1, zd1, zd0, zdn]
       have HO3 : Hid (Old W wz) := HO2.out.trans hR
       clear hR hk2
       go_wp2_with fail
       go_ret
       exact ⟨zad HN.out.symm, HW0.out.trans HO3.out⟩
      | true =>
       have HIv : Hid (inI P Q (C i (2 * k + 1)) = true) := hv
       have HK2 : Hid (∀ q, q < 2 * (k + 1) -> inI P Q (C i q) = true) := fun q hq => by
        by_cases q1 : q < 2 * k
        ·exact HK.out q q1
        ·by_cases q2 : q = 2 * k
         ·rw [q2]; exact HIu.out
         ·rw [show q = 2 * k + 1 by omega]; exact hv
       clear hv HK
       generalize C i (2 * k) = xu at *
       generalize C i (2 * k + 1) = xv at *
       go_upto_region 9 with fail
       refine zaa 22 [.k (gv P Q G H a n cap), .k (.slice (some ⟨bx, ox, none⟩) m c), .k (.int .i64 (i : Int)), .k (.int .i64 (k : Int)), .k (.pointer (some ⟨bx, ox + i * 6, none⟩)), .k (.pointer (some ⟨bx, ox + i * 6 + k * 2, none⟩)), .k (.pointer (some ⟨bx, ox + i * 6 + k * 2, none⟩)), .k (.int .u64 xu), .k (.bool true), .k (.bool false), .k (.bool false), .k (gv P Q G H a n cap), .k (.slice (some ⟨bx, ox, none⟩) m c), .k (.int .i64 (i : Int)), .k (.int .i64 (k : Int)), .k (.pointer (some ⟨bx, ox + i * 6, none⟩)), .k (.pointer (some ⟨bx, ox + i * 6 + k * 2, none⟩)), .k (.pointer (some ⟨bx, ox + i * 6 + k * 2 + 1, none⟩)), .k (.int .u64 xv), .k (.bool true), .k (.bool false), .k (.bool false)] (Old wr) (by kernel_rfl) (by kernel_rfl) rfl ((Old.refl _).drew) ?st ?_
       case st =>
        refine .c (sts U25 HGr.out) <| .p <| .p <| .p <| .c (stj (n := m) (c := c) 6 hlt U26) <| .c (saj 2 hkl U74) <| .p <| .c (stl U22 HU.out) <| .c (stK old_R func55 (fun wy _ => HI.out xu true wy HUu.out.1 HIu.out)) <| .p <| .p <| .c (sts U25 HGr.out) <| .p <| .p <| .p <| .c (stj (n := m) (c := c) 6 hlt U26) <| .c (saj 2 hkl U74) <| .p <| .c (stl U22 HV.out) <| .c (stK old_R func55 (fun wy _ => HI.out xv true wy HUu.out.2 HIv.out)) <| .p <| .c stp .n
       intro t wz hR hk2
       simp only [fill, Ent.val, zs0, zs1, zd1, zd0, zdn]
       have HO3 : Hid (Old W wz) := HO2.out.trans hR
       clear hR hk2
       go_wp2_with fail
       go_roundw
       case rel => exact ⟨k + 1, zab k, by omega, HO3, HK2⟩
       case measure => simp [intOf]; omega
    ·have hk3 : k = 3 := by omega
     subst hk3
     go_wp2_with fail
     go_roundw
     case rel => exact ⟨i + 1, zab i, by omega, HO2, zav HJ.out (fun q hq => HK.out q (by omega))⟩
     case measure => simp [intOf]; omega
  ·have he : m = i := by omega
   have HV : Hid (batB P Q m C = true) := zaM.2 ⟨H18.out, by rw [he]; exact HJ.out⟩
   subst he
   go_wp2_with fail
   go_ret
   exact ⟨zad HV.out.symm, HW0.out.trans HO.out⟩
def ordR (n : Nat) (O : NI) : Bool := decide (n <= 8) && ordB n O
theorem zbe {n : Nat} {O : NI} : ordR n O = true ↔ (1 <= n /\ n <= 8) /\ ∀ k, k < n -> ordK8 O (k : Nat) n = 1 := by
 unfold ordR
 rw [Bool.and_eq_true_iff, decide_eq_true_eq, zaA]
 exact ⟨fun ⟨h8, h⟩ => ⟨⟨h.1, h8⟩, h.once⟩, fun ⟨h1, h⟩ => ⟨h1.2, ordP_of_once h1.1 h⟩⟩
theorem ordK8_le2 (O : NI) (k : Int) : ∀ n, ordK8 O k n <= n
 | 0 => Nat.le_refl 0
 | n + 1 => by
  show ordK8 O k n + (if O n = k then 1 else 0) <= n + 1
  have := ordK8_le2 O k n
  split <;> omega
theorem zbx (b : OA) (n c : Nat) (O : NI) (w : World) (mm : n <= 9223372036854775807) (h : IntsIn w b n O) :
  Calls prog 56 #[.slice b n c] w (Ret w (.bool (ordR n O))) := by
 have HX : Hid (IntsIn w b n O) := h
 clear h
 by_cases h1 : 1 <= n
 rotate_left
 ·have HV : Hid (ordR n O = false) := no_of fun hc => h1 (zbe.1 hc).1.1
  have h0 : n = 0 := by omega
  subst h0
  go_enter func56, ntmps56
  go_wp2_with fail
  go_ret
  exact ⟨zad HV.out.symm, Old.refl _⟩
 by_cases h8 : n <= 8
 rotate_left
 ·have HV : Hid (ordR n O = false) := no_of fun hc => h8 (zbe.1 hc).1.2
  have k1 : ¬ (n : Int) < 1 := by omega
  have k2 : (8 : Int) < (n : Int) := by omega
  clear h1 h8
  go_enter func56, ntmps56
  go_wp2_with fail
  go_ret
  exact ⟨zad HV.out.symm, Old.refl _⟩
 have k1 : ¬ (n : Int) < 1 := by omega
 have k2 : ¬ (8 : Int) < (n : Int) := by omega
 have H18 : Hid (1 <= n /\ n <= 8) := ⟨h1, h8⟩
 go_enter func56, ntmps56
 go_wp2_with fail
 go_loopw [3] (fun kv wx => ∃ k : Nat, kv = .int .i64 (k : Int) /\ k <= n /\ Hid (Old w wx) /\ Hid (∀ j, j < k -> ordK8 O (j : Nat) n = 1)) (fun kv _ => n - (intOf kv).toNat)
 case atStart => exact ⟨0, rfl, Nat.zero_le _, Old.refl _, fun j hj => by omega⟩
 case round =>
  obtain ⟨k, rfl, hk, HO, HJ⟩ := hrel
  by_cases hlt : k < n
  ·go_upto_region 8 with fail
   go_loopw [4, 5] (fun nv iv wx => ∃ i : Nat, iv = .int .i64 (i : Int) /\ i <= n /\ nv = .int .i64 ((ordK8 O (k : Int) i : Nat) : Int) /\ Hid (Old w wx)) (fun _ iv _ => n - (intOf iv).toNat)
   case atStart => exact ⟨0, rfl, Nat.zero_le _, rfl, HO⟩
   case round =>
    obtain ⟨i, rfl, hi, rfl, HO2⟩ := hrel
    by_cases hil : i < n
    ·rcases HX.out with h0 | ⟨bx, ox, hqx, _, hrx⟩
     ·omega
     have cx := (HO2.out).cellOf (hrx i hil).1
     clear hrx
     subst hqx
     have hle := ordK8_le2 O (k : Int) i
     by_cases he : O i = (k : Int)
     ·have HK : Hid (ordK8 O (k : Int) (i + 1) = ordK8 O (k : Int) i + 1) := by show ordK8 O (k : Int) i + (if O i = (k : Int) then 1 else 0) = _; rw [if_pos he]
      rw [he] at cx
      clear he
      generalize ordK8 O (k : Int) i = cn at *
      go_wp2_with fail
      go_roundw
      case rel => exact ⟨i + 1, zab i, by omega, by rw [HK.out]; exact zab cn, HO2⟩
      case measure => simp [intOf]; omega
     ·have HK : Hid (ordK8 O (k : Int) (i + 1) = ordK8 O (k : Int) i) := by show ordK8 O (k : Int) i + (if O i = (k : Int) then 1 else 0) = _; rw [if_neg he]; rfl
      generalize ordK8 O (k : Int) i = cn at *
      go_wp2_with fail
      go_roundw
      case rel => exact ⟨i + 1, zab i, by omega, by rw [HK.out], HO2⟩
      case measure => simp [intOf]; omega
    ·have hie : n = i := by omega
     subst hie
     by_cases he : ordK8 O (k : Int) n = 1
     ·have HE : Hid (ordK8 O (k : Nat) n = 1) := he
      rw [he]
      clear he
      go_wp2_with fail
      go_roundw
      case rel => exact ⟨k + 1, zab k, by omega, HO2, zav HJ.out HE.out⟩
      case measure => simp [intOf]; omega
     ·have HN : Hid (ordR n O = false) := no_of fun hc => he ((zbe.1 hc).2 k hlt)
      have k3 : ¬ ((ordK8 O (k : Int) n : Nat) : Int) = 1 := by omega
      clear he
      generalize ordK8 O (k : Int) n = cn at *
      go_wp2_with fail
      go_ret
      exact ⟨zad HN.out.symm, HO2.out⟩
  ·have he : n = k := by omega
   have HV : Hid (ordR n O = true) := zbe.2 ⟨H18.out, by rw [he]; rw [he] at HJ; exact HJ.out⟩
   subst he
   go_wp2_with fail
   go_ret
   exact ⟨zad HV.out.symm, HO.out⟩
theorem zaO (x y Q : Int) (hx : U64 x) (hy : U64 y) (w : World) : Calls prog 70 #[.int .u64 x, .int .u64 y, .int .u64 Q] w (Ret w (.int .u64 (mulI x y Q))) := (zbo x y Q w hx.1 hx.2 hy.1 hy.2).mono fun r w' ⟨h, k⟩ => ⟨h, (Old.refl _).draws k⟩
theorem zda (x y Q : Int) (hx : U64 x) (hy : U64 y) (w : World) : Calls prog 77 #[.int .u64 x, .int .u64 y, .int .u64 Q] w (Ret w (.int .u64 (addI x y Q))) := (zdR x y Q w hx.1 hx.2 hy.1 hy.2).mono fun r w' ⟨h, k⟩ => ⟨h, (Old.refl _).draws k⟩
theorem zdl (x y Q : Int) (hx : U64 x) (hy : U64 y) (w : World) : Calls prog 78 #[.int .u64 x, .int .u64 y, .int .u64 Q] w (Ret w (.int .u64 (subI x y Q))) := (rsub_any x y Q w hx.1 hx.2 hy.1 hy.2).mono fun r w' ⟨h, k⟩ => ⟨h, (Old.refl _).draws k⟩
theorem srpow_any (x y Q : Int) (hx : U64 x) (hy : U64 y) (w : World) : Calls prog 105 #[.int .u64 x, .int .u64 y, .int .u64 Q] w (Ret w (.int .u64 (powI x y Q))) := (zcz x y Q w hx.1 hx.2 hy.1 hy.2).mono fun r w' ⟨h, k⟩ => ⟨h, (Old.refl _).draws k⟩
theorem za6 (P Q G H : Int) (a : OA) (n cap : Nat) (x e : Int) (h4 : Four P Q G H) (hx : U64 x) (he : U64 e) (w : World) : Calls prog 68 #[gv P Q G H a n cap, .int .u64 x, .int .u64 e] w (Ret w (.int .u64 (expI P Q x e))) := rexp_any P Q G H x e a n cap w h4.q1 hx.1 hx.2 he.1 he.2
theorem wrapi (x : Int) (h : 0 <= x /\ x <= 1000) : IntKind.i64.wrap x = x := by rw [IntKind.wrap_i64]; omega
theorem wrapu (x : Int) (h : 0 <= x /\ x <= 1000) : IntKind.u64.wrap x = x := by rw [IntKind.wrap_u64]; omega
theorem zdJ (P Q G H : Int) (a : OA) (n cap : Nat) (m r : Int) (w : World) (h4 : Four P Q G H) (hm : U64 m) (hrr : U64 r) :
  Calls prog 60 #[gv P Q G H a n cap, .int .u64 m, .int .u64 r] w (Ret w (.int .u64 (comI P Q G H m r))) := by
 have HZ := lain1 w (gc P Q G H a n cap) 25
 have HG0 := fun w' ho => (HZ.then (W' := w') ho).row 0 (by simp)
 have HW0 := hid HZ.old
 clear HZ
 go_enter func60, ntmps60
 go_upto_region 1 with fail
 generalize w.alloc (.cells (gc P Q G H a n cap) 25) = W at *
 have HG := hid HG0
 clear HG0
 generalize w.heap.size = gb at *
 refine zaa 14 [.k (gv P Q G H a n cap), .k (.pointer (some ⟨gb, 2, none⟩)), .k (.int .u64 G), .k (.int .u64 m), .k (.int .u64 (expI P Q G m)), .k (gv P Q G H a n cap), .k (.pointer (some ⟨gb, 3, none⟩)), .k (.int .u64 H), .k (.int .u64 r), .k (.int .u64 (expI P Q H r)), .k (.pointer (some ⟨gb, 0, none⟩)), .k (.int .u64 P), .k (.int .u64 (comI P Q G H m r)), .k (.int .u64 (comI P Q G H m r))] (Old W) (by kernel_rfl) (by kernel_rfl) rfl ((Old.refl _).drew) ?st ?_
 case st =>
  refine .c (sts U25 HG.out) <| .p <| .c (stf 2 U22 HG.out) <| .p <| .c (stK old_R func68 (fun wx _ => za6 P Q G H a n cap G m h4 ⟨h4.g0, h4.g1⟩ hm wx)) <| .c (sts U25 HG.out) <| .p <| .c (stf 3 U22 HG.out) <| .p <| .c (stK old_R func68 (fun wx _ => za6 P Q G H a n cap H r h4 ⟨h4.h0, h4.h1⟩ hrr wx)) <| .p <| .c (stf 0 U22 HG.out) <| .c (stK old_R func70 (fun wx _ => zaO _ _ P (zaz _ _ _ _) (zaz _ _ _ _) wx)) <| .c stp .n
 intro t wx hR hk
 simp only [fill, Ent.val, zs0, zs1, zd1, zd0, zdn]
 go_wp2_with fail
 go_ret
 exact ⟨rfl, HW0.out.trans hR⟩
theorem zbs (P Q G H : Int) (a : OA) (n cap : Nat) (x j : Int) (w : World) (hx : U64 x) (hj : 0 <= j /\ j <= 1000) :
  Calls prog 62 #[gv P Q G H a n cap, .int .u64 x, .int .i64 j] w (Ret w (.int .u64 (powI x j Q))) := by
 have HZ := lain1 w (gc P Q G H a n cap) 25
 have HG0 := fun w' ho => (HZ.then (W' := w') ho).row 0 (by simp)
 have HW0 := hid HZ.old
 clear HZ
 go_enter func62, ntmps62
 go_upto_region 1 with fail
 generalize w.alloc (.cells (gc P Q G H a n cap) 25) = W at *
 have HG := hid HG0
 clear HG0
 generalize w.heap.size = gb at *
 have g1 : W.cell? ⟨gb, 1, none⟩ = some (.int .u64 Q) := Y1 (HG.out _ (Old.refl _))
 have e1 := wrapu j hj
 go_wp2_with (go_at_call 105; refine (srpow_any x j Q hx ⟨by omega, by omega⟩ _).mono ?_; rintro e w1 ⟨rfl, o1⟩)
 go_ret
 exact ⟨rfl, HW0.out.trans o1⟩
theorem rd8_any (P Q G H : Int) (a : OA) (n cap : Nat) (bo : OA) (no co : Nat) (O : NI) (ba : OA) (na ca : Nat) (X : Int) (bb : OA) (nb cb : Nat) (Y Z : Int) (bp : OA) (np cp i : Nat) (w : World) (hi : i < no) (hX : U64 X) (hY : U64 Y) (hZ : U64 Z) (hO : IntsIn w bo no O) (hj : 0 <= O i /\ O i < 1000) :
  Calls prog 69 #[gv P Q G H a n cap, .slice bo no co, tk ba na ca X bb nb cb Y Z bp np cp, .int .i64 (i : Int)] w (Ret w (.int .u64 (facI Q X Y Z (O i + 1)))) := by
 have HO := hid hO
 clear hO
 have HZ := lain2 w (gc P Q G H a n cap) (tkc ba na ca X bb nb cb Y Z bp np cp) 25 41
 have HG0 := fun w' ho => (HZ.then (W' := w') ho).row 0 (by simp)
 have HT0 := fun w' ho => (HZ.then (W' := w') ho).row 1 (by simp)
 have HW0 := hid HZ.old
 clear HZ
 go_enter func69, ntmps69
 go_upto_region 1 with fail
 generalize ((w.alloc (.cells (gc P Q G H a n cap) 25)).alloc (.cells (tkc ba na ca X bb nb cb Y Z bp np cp) 41)) = W at *
 have HG := hid HG0
 have HT := hid HT0
 clear HG0 HT0
 generalize w.heap.size = gb at *
 rcases HO.out with h0 | ⟨bx, ox, hqx, _, hrx⟩
 ·omega
 have HC := hid fun wx (hx : Old W wx) => (HW0.out.trans hx).cellOf (hrx i hi).1
 clear hrx HO
 subst hqx
 generalize O i = x at *
 have hx1 : 0 <= x + 1 /\ x + 1 <= 1000 := by omega
 have HJ : Hid (U64 (x + 1)) := ⟨by omega, by omega⟩
 have HWi : Hid (IntKind.i64.wrap (x + 1) = x + 1) := wrapi _ hx1
 have k2 := wrapu _ hx1
 have k1 := wrapi _ hx1
 have cx := HC.out W (Old.refl _)
 go_upto_region 2 with fail
 clear cx k1 k2
 refine zaa 19 [.k (.pointer (some ⟨gb + 1, 3, none⟩)), .k (.int .u64 Y), .k (.int .u64 (x + 1)), .k (.pointer (some ⟨gb, 1, none⟩)), .k (.int .u64 Q), .k (.int .u64 (mulI Y (x + 1) Q)), .k (gv P Q G H a n cap), .k (.pointer (some ⟨gb + 1, 1, none⟩)), .k (.int .u64 X), .k (.slice (some ⟨bx, ox, none⟩) no co), .k (.int .i64 (i : Int)), .k (.pointer (some ⟨bx, ox + i, none⟩)), .k (.int .i64 x), .k (.int .i64 (x + 1)), .k (.int .u64 (powI X (x + 1) Q)), .k (.pointer (some ⟨gb, 1, none⟩)), .k (.int .u64 Q), .k (.int .u64 (addI (mulI Y (x + 1) Q) (powI X (x + 1) Q) Q)), .k (.int .u64 (addI (mulI Y (x + 1) Q) (powI X (x + 1) Q) Q))] (Old W) (by kernel_rfl) (by kernel_rfl) rfl ((Old.refl _).drew) ?st ?_
 case st =>
  refine .p <| .c (stf 3 U22 HT.out) <| .p <| .p <| .c (stf 1 U22 HG.out) <| .c (stK old_R func70 (fun wx _ => zaO Y _ Q hY HJ.out wx)) <| .c (sts U25 HG.out) <| .p <| .c (stf 1 U22 HT.out) <| .p <| .p <| .c (sti (n := no) (c := co) hi U27) <| .c (stl U3 HC.out) <| .c (stv (v' := .int .i64 (IntKind.i64.wrap (x + 1))) (by rw [HWi.out])) <| .c (stK old_R func62 (fun wx _ => zbs P Q G H a n cap X (x + 1) wx hX hx1)) <| .p <| .c (stf 1 U22 HG.out) <| .c (stK old_R func77 (fun wx _ => zda _ _ Q (zaI _ _ _) (zbi _ _ _) wx)) <| .c stp .n
 intro t wx hR hk
 simp only [fill, Ent.val, zs0, zs1, zd1, zd0, zdn]
 have d0 : wx.cell? ⟨gb, 1, none⟩ = some (.int .u64 Q) := Y1 (HG.out _ hR)
 have d1 : wx.cell? ⟨gb + 1, 4, none⟩ = some (.int .u64 Z) := Y4 (HT.out _ hR)
 go_wp2_with (go_at_call 78; refine (zdl _ Z Q (zba _ _ _) hZ _).mono ?_; rintro e wz ⟨rfl, oz⟩)
 go_ret
 exact ⟨rfl, (HW0.out.trans hR).trans oz⟩
theorem rbig8_any (P Q G H : Int) (a : OA) (n cap : Nat) (ba : OA) (na ca : Nat) (X : Int) (bb : OA) (nb cb : Nat) (Y Z : Int) (bp : OA) (np cp : Nat) (A B : NI) (i : Nat) (w : World) (h4 : Four P Q G H) (ha : i < na) (hb : i < nb) (hY : U64 Y) (hZ : U64 Z) (hA : FacsIn w ba na A) (hB : FacsIn w bb nb B) :
  Calls prog 67 #[gv P Q G H a n cap, tk ba na ca X bb nb cb Y Z bp np cp, .int .i64 (i : Int)] w (Ret w (.int .u64 (bigI P Q G (A i) (B i) Y Z))) := by
 have HA := hid hA
 have HB := hid hB
 have HAu := hid (hA.u64 i ha)
 have HBu := hid (hB.u64 i hb)
 clear hA hB
 have HZ := lain2 w (gc P Q G H a n cap) (tkc ba na ca X bb nb cb Y Z bp np cp) 25 41
 have HG0 := fun w' ho => (HZ.then (W' := w') ho).row 0 (by simp)
 have HT0 := fun w' ho => (HZ.then (W' := w') ho).row 1 (by simp)
 have HW0 := hid HZ.old
 clear HZ
 go_enter func67, ntmps67
 go_upto_region 1 with fail
 generalize ((w.alloc (.cells (gc P Q G H a n cap) 25)).alloc (.cells (tkc ba na ca X bb nb cb Y Z bp np cp) 41)) = W at *
 have HG := hid HG0
 have HT := hid HT0
 clear HG0 HT0
 generalize w.heap.size = gb at *
 rcases HA.out with h0 | ⟨bx, ox, hqx, _, hrx⟩
 ·omega
 rcases HB.out with h0 | ⟨by_, oy, hqy, _, hry⟩
 ·omega
 have HC := hid fun wx (hx : Old W wx) => (HW0.out.trans hx).cellOf (hrx i ha).1
 have HD := hid fun wx (hx : Old W wx) => (HW0.out.trans hx).cellOf (hry i hb).1
 clear hrx hry HA HB
 subst hqx
 subst hqy
 generalize A i = x at *
 generalize B i = z at *
 refine zaa 18 [.k (gv P Q G H a n cap), .k (.pointer (some ⟨gb + 1, 0, none⟩)), .k (.slice (some ⟨bx, ox, none⟩) na ca), .k (.int .i64 (i : Int)), .k (.pointer (some ⟨bx, ox + i, none⟩)), .k (.int .u64 x), .k (.pointer (some ⟨gb + 1, 3, none⟩)), .k (.int .u64 Y), .k (.int .u64 (expI P Q x Y)), .k (.pointer (some ⟨gb + 1, 2, none⟩)), .k (.slice (some ⟨by_, oy, none⟩) nb cb), .k (.int .i64 (i : Int)), .k (.pointer (some ⟨by_, oy + i, none⟩)), .k (.int .u64 z), .k (.pointer (some ⟨gb, 0, none⟩)), .k (.int .u64 P), .k (.int .u64 (mulI (expI P Q x Y) z P)), .k (.int .u64 (mulI (expI P Q x Y) z P))] (Old W) (by kernel_rfl) (by kernel_rfl) rfl ((Old.refl _).drew) ?st ?_
 case st =>
  refine .c (sts U25 HG.out) <| .p <| .c (stf 0 U29 HT.out) <| .p <| .c (sti (n := na) (c := ca) ha U29) <| .c (stl U22 HC.out) <| .p <| .c (stf 3 U22 HT.out) <| .c (stK old_R func68 (fun wx _ => za6 P Q G H a n cap x Y h4 HAu.out hY wx)) <| .p <| .c (stf 2 U29 HT.out) <| .p <| .c (sti (n := nb) (c := cb) hb U29) <| .c (stl U22 HD.out) <| .p <| .c (stf 0 U22 HG.out) <| .c (stK old_R func70 (fun wx _ => zaO _ _ P (zaz _ _ _ _) HBu.out wx)) <| .c stp .n
 intro t wx hR hk
 simp only [fill, Ent.val, zs0, zs1, zd1, zd0, zdn]
 go_upto_region 2 with fail
 have HR := hid hR
 clear hR hk
 refine zaa 10 [.k (gv P Q G H a n cap), .k (.int .u64 (mulI (expI P Q x Y) z P)), .k (gv P Q G H a n cap), .k (.pointer (some ⟨gb, 2, none⟩)), .k (.int .u64 G), .k (.pointer (some ⟨gb + 1, 4, none⟩)), .k (.int .u64 Z), .k (.int .u64 (expI P Q G Z)), .k (.int .u64 (bigI P Q G x z Y Z)), .k (.int .u64 (bigI P Q G x z Y Z))] (Old wx) (by kernel_rfl) (by kernel_rfl) rfl ((Old.refl _).drew) ?st ?_
 case st =>
  refine .c (sts U25 (fun wy hy => HG.out wy (HR.out.trans hy))) <| .p <| .c (sts U25 (fun wy hy => HG.out wy (HR.out.trans hy))) <| .p <| .c (stf 2 U22 (fun wy hy => HG.out wy (HR.out.trans hy))) <| .p <| .c (stf 4 U22 (fun wy hy => HT.out wy (HR.out.trans hy))) <| .c (stK old_R func68 (fun wy _ => za6 P Q G H a n cap G Z h4 ⟨h4.g0, h4.g1⟩ hZ wy)) <| .c (stK old_R func86 (fun wy _ => rover_any P Q G H a n cap _ _ wy (zaI _ _ _) (zaz _ _ _ _))) <| .c stp .n
 intro t wz hR2 hk2
 simp only [fill, Ent.val, zs0, zs1, zd1, zd0, zdn]
 go_wp2_with fail
 go_ret
 exact ⟨rfl, (HW0.out.trans HR.out).trans hR2⟩
theorem rproduct8_any (P Q G H : Int) (a : OA) (n cap m : Nat) (X Y Z : Int) (w : World) (hm : m <= 100) (hX : U64 X) (hY : U64 Y) (hZ : U64 Z) :
  Calls prog 87 #[gv P Q G H a n cap, .int .i64 (m : Int), .int .u64 X, .int .u64 Y, .int .u64 Z] w (Ret w (.int .u64 (prodI Q (kF Q X Y Z) m))) := by
 have HZ := lain1 w (gc P Q G H a n cap) 25
 have HG0 := fun w' ho => (HZ.then (W' := w') ho).row 0 (by simp)
 have HW0 := hid HZ.old
 clear HZ
 go_enter func87, ntmps87
 go_upto_region 1 with fail
 generalize w.alloc (.cells (gc P Q G H a n cap) 25) = W at *
 have HG := hid HG0
 clear HG0
 generalize w.heap.size = gb at *
 go_upto_region 3 with fail
 go_loopw [11, 12] (fun v iv wx => ∃ i : Nat, iv = .int .i64 ((i + 1 : Nat) : Int) /\ i <= m /\ v = .int .u64 (prodI Q (kF Q X Y Z) i) /\ Hid (Old W wx)) (fun _ iv _ => m + 1 - (intOf iv).toNat)
 case atStart => exact ⟨0, rfl, by omega, rfl, Old.refl _⟩
 case round =>
  obtain ⟨i, rfl, hi, rfl, HO⟩ := hrel
  by_cases hlt : i < m
  ·have hlt' : i + 1 <= m := hlt
   have HGr := hid fun wx (hx : Old wr wx) => HG.out _ (HO.out.trans hx)
   have HPu : Hid (U64 (prodI Q (kF Q X Y Z) i)) := zaL _ _ _
   have HJu : Hid (U64 ((i + 1 : Nat) : Int)) := ⟨by omega, by omega⟩
   have HJs : Hid (0 <= ((i + 1 : Nat) : Int) /\ ((i + 1 : Nat) : Int) <= 1000) := ⟨by omega, by omega⟩
   go_upto_region 5 with fail
   refine zaa 14 [.k (.int .u64 Y), .k (.int .i64 ((i + 1 : Nat) : Int)), .k (.int .u64 ((i + 1 : Nat) : Int)), .k (.pointer (some ⟨gb, 1, none⟩)), .k (.int .u64 Q), .k (.int .u64 (mulI Y ((i + 1 : Nat) : Int) Q)), .k (gv P Q G H a n cap), .k (.int .u64 X), .k (.int .i64 ((i + 1 : Nat) : Int)), .k (.int .u64 (powI X ((i + 1 : Nat) : Int) Q)), .k (.pointer (some ⟨gb, 1, none⟩)), .k (.int .u64 Q), .k (.int .u64 (addI (mulI Y ((i + 1 : Nat) : Int) Q) (powI X ((i + 1 : Nat) : Int) Q) Q)), .k (.int .u64 (addI (mulI Y ((i + 1 : Nat) : Int) Q) (powI X ((i + 1 : Nat) : Int) Q) Q))] (Old wr) (by kernel_rfl) (by kernel_rfl) rfl ((Old.refl _).drew) ?st ?_
   case st =>
    refine .p <| .p <| .c (stv (int_u64 (i + 1) (by omega))) <| .p <| .c (stf 1 U22 HGr.out) <| .c (stK old_R func70 (fun wx _ => zaO Y _ Q hY HJu.out wx)) <| .c (sts U25 HGr.out) <| .p <| .p <| .c (stK old_R func62 (fun wx _ => zbs P Q G H a n cap X _ wx hX HJs.out)) <| .p <| .c (stf 1 U22 HGr.out) <| .c (stK old_R func77 (fun wx _ => zda _ _ Q (zaI _ _ _) (zbi _ _ _) wx)) <| .c stp .n
   intro t wx hR hk
   simp only [fill, Ent.val, zs0, zs1, zd1, zd0, zdn]
   go_upto_region 6 with fail
   have HR := hid (HO.out.trans hR)
   have HGx := hid fun wy (hx : Old wx wy) => HG.out _ (HR.out.trans hx)
   clear hR hk HGr HO
   refine zaa 9 [.k (.int .u64 (prodI Q (kF Q X Y Z) i)), .k (.int .u64 (addI (mulI Y ((i + 1 : Nat) : Int) Q) (powI X ((i + 1 : Nat) : Int) Q) Q)), .k (.int .u64 Z), .k (.pointer (some ⟨gb, 1, none⟩)), .k (.int .u64 Q), .k (.int .u64 (kF Q X Y Z i)), .k (.pointer (some ⟨gb, 1, none⟩)), .k (.int .u64 Q), .k (.int .u64 (prodI Q (kF Q X Y Z) (i + 1)))] (Old wx) (by kernel_rfl) (by kernel_rfl) rfl ((Old.refl _).drew) ?st ?_
   case st =>
    refine .p <| .p <| .p <| .p <| .c (stf 1 U22 HGx.out) <| .c (stK old_R func78 (fun wy _ => zdl _ Z Q (zba _ _ _) hZ wy)) <| .p <| .c (stf 1 U22 HGx.out) <| .c (stK old_R func70 (fun wy _ => zaO _ _ Q HPu.out (zcQ _ _ _) wy)) .n
   intro t wz hR2 hk2
   simp only [fill, Ent.val, zs0, zs1, zd1, zd0, zdn]
   have HR2 := hid (HR.out.trans hR2)
   clear hR2 hk2 HGx HR
   go_wp2_with fail
   go_roundw
   case rel => exact ⟨i + 1, zab _, by omega, rfl, HR2⟩
   case measure => simp [intOf]; omega
  ·have he : m = i := by omega
   subst he
   go_wp2_with fail
   go_ret
   exact ⟨rfl, HW0.out.trans HO.out⟩
theorem rrow8_any (n : Nat) (w : World) (hn : n <= 8) :
  Calls prog 85 #[.int .i64 (n : Int)] w (GivF w (7 * n + 3) (fun _ => 1)) := by
 obtain ⟨N, hN⟩ : ∃ N, N = 7 * n + 3 := ⟨_, rfl⟩
 rw [<- hN]
 have hN8 : N <= 80 := by omega
 have k1 : IntKind.i64.wrap (7 * (n : Int)) = 7 * (n : Int) := by rw [IntKind.wrap_i64]; omega
 have k2 : IntKind.i64.wrap (7 * (n : Int) + 3) = (N : Int) := by rw [IntKind.wrap_i64]; omega
 have hmk := zaP N hN8
 have HFu : Hid (Full (w.alloc (.cells (madeCells #[Value.int .u64 0] N) 22)) w.heap.size N (upTo 0 fun _ => 1)) := zaC w N _
 have HW0 : Hid (Old w (w.alloc (.cells (madeCells #[Value.int .u64 0] N) 22))) := (Old.refl _).alloc _
 clear hN hn
 go_enter func85, ntmps85
 go_upto_region 2 with fail
 clear k1 k2 hmk
 generalize w.alloc (.cells (madeCells #[Value.int .u64 0] N) 22) = W1 at *
 go_upto_region 3 with fail
 go_loopw [4] (fun iv wx => ∃ i : Nat, iv = .int .i64 (i : Int) /\ i <= N /\ Hid (Full wx w.heap.size N (upTo i fun _ => 1)) /\ Hid (Old w wx)) (fun iv _ => N - (intOf iv).toNat)
 case atStart => exact ⟨0, rfl, Nat.zero_le _, HFu, HW0⟩
 case round =>
  obtain ⟨i, rfl, hi1, HN, HO⟩ := hrel
  by_cases hlt : i < N
  ·have HG : Hid (Full (wr.setCell ⟨w.heap.size, i, none⟩ (.int .u64 1)) w.heap.size N (upTo (i + 1) fun _ => 1)) := HN.out.next
   have HG2 : Hid (Old w (wr.setCell ⟨w.heap.size, i, none⟩ (.int .u64 1))) := HO.out.setCell (p := ⟨w.heap.size, i, none⟩) (Nat.le_refl _) _
   have q0 := HN.out.cell i hlt
   have f0 := HN.out.free i
   go_wp2_with fail
   go_roundw
   case rel => exact ⟨i + 1, zab i, by omega, HG, HG2⟩
   case measure => simp [intOf]; omega
  ·have he : N = i := by omega
   subst he
   have HD := hid HN.out.done
   go_wp2_with fail
   go_ret
   exact ⟨HO.out, w.heap.size, Nat.le_refl _, rfl, HD.out⟩
theorem zbP (P Q G H : Int) (a : OA) (n cap : Nat) (b : OA) (m c : Nat) (A : NI) (w : World) (h4 : Four P Q G H) (mm : m <= 9223372036854775807) (h : FacsIn w b m A) :
  Calls prog 84 #[gv P Q G H a n cap, .slice b m c] w (Ret w (.bool (elB P Q m A))) := by
 have HX := hid h
 have HI : Hid (∀ x r wx, U64 x -> inI P Q x = r -> Calls prog 55 #[gv P Q G H a n cap, .int .u64 x] wx (Ret wx (.bool r))) := fun x r wx hx hr => by
  have := zdu P Q G H x a n cap wx h4.q0 h4.q1 hx.2
  rw [hr] at this
  exact this
 clear h h4
 have HZ := lain1 w (gc P Q G H a n cap) 25
 have HG0 := fun w' ho => (HZ.then (W' := w') ho).row 0 (by simp)
 have HW0 := hid HZ.old
 clear HZ
 go_enter func84, ntmps84
 go_upto_region 1 with fail
 generalize w.alloc (.cells (gc P Q G H a n cap) 25) = W at *
 have HG := hid HG0
 clear HG0
 generalize w.heap.size = gb at *
 go_upto_region 2 with fail
 go_loopw [5] (fun iv wx => ∃ i : Nat, iv = .int .i64 (i : Int) /\ i <= m /\ Hid (Old W wx) /\ Hid (∀ j, j < i -> inI P Q (A j) = true)) (fun iv _ => m - (intOf iv).toNat)
 case atStart => exact ⟨0, rfl, Nat.zero_le _, Old.refl _, fun j hj => by omega⟩
 case round =>
  obtain ⟨i, rfl, hi, HO, HJ⟩ := hrel
  by_cases hlt : i < m
  ·rcases HX.out with h0 | ⟨bx, ox, hqx, _, hrx⟩
   ·omega
   have HC := hid fun wx (hx : Old wr wx) => ((HW0.out.trans HO.out).trans hx).cellOf (hrx i hlt).1
   have HAu := hid ((hrx i hlt).2)
   have HGr := hid fun wx (hx : Old wr wx) => HG.out _ (HO.out.trans hx)
   clear hrx
   subst hqx
   cases hu : inI P Q (A i) with
   | false =>
    have HIu : Hid (inI P Q (A i) = false) := hu
    have HN : Hid (elB P Q m A = false) := no_of fun hc => by have := zaZ.1 hc i hlt; rw [hu] at this; cases this
    clear hu
    go_upto_region 4 with fail
    refine zaa 6 [.k (gv P Q G H a n cap), .k (.slice (some ⟨bx, ox, none⟩) m c), .k (.int .i64 (i : Int)), .k (.pointer (some ⟨bx, ox + i, none⟩)), .k (.int .u64 (A i)), .k (.bool false)] (Old wr) (by kernel_rfl) (by kernel_rfl) rfl ((Old.refl _).drew) ?st ?_
    case st =>
     refine .c (sts U25 HGr.out) <| .p <| .p <| .c (sti (n := m) (c := c) hlt U29) <| .c (stl U22 HC.out) <| .c (stK old_R func55 (fun wy _ => HI.out _ _ wy HAu.out HIu.out)) .n
    intro t wx hR hk
    simp only [fill, Ent.val, zs0, zs1, zd1, zd0, zdn]
    go_wp2_with fail
    go_ret
    exact ⟨zad HN.out.symm, (HW0.out.trans HO.out).trans hR⟩
   | true =>
    have HIu := hid hu
    have HK : Hid (∀ j, j < i + 1 -> inI P Q (A j) = true) := fun j hj => by
     by_cases he : j = i
     ·rw [he]; exact hu
     ·exact HJ.out j (by omega)
    clear hu
    go_upto_region 4 with fail
    refine zaa 6 [.k (gv P Q G H a n cap), .k (.slice (some ⟨bx, ox, none⟩) m c), .k (.int .i64 (i : Int)), .k (.pointer (some ⟨bx, ox + i, none⟩)), .k (.int .u64 (A i)), .k (.bool true)] (Old wr) (by kernel_rfl) (by kernel_rfl) rfl ((Old.refl _).drew) ?st ?_
    case st =>
     refine .c (sts U25 HGr.out) <| .p <| .p <| .c (sti (n := m) (c := c) hlt U29) <| .c (stl U22 HC.out) <| .c (stK old_R func55 (fun wy _ => HI.out _ _ wy HAu.out HIu.out)) .n
    intro t wx hR hk
    simp only [fill, Ent.val, zs0, zs1, zd1, zd0, zdn]
    have HR := hid (HO.out.trans hR)
    clear hR hk HC HGr HO
    go_wp2_with fail
    go_roundw
    case rel => exact ⟨i + 1, zab i, by omega, HR, HK⟩
    case measure => simp [intOf]; omega
  ·have he : m = i := by omega
   subst he
   have HY := hid (zaZ.2 HJ.out)
   go_wp2_with fail
   go_ret
   exact ⟨zad HY.out.symm, HW0.out.trans HO.out⟩
end
section
open Go Go.RowKit
def RowsN (w : World) (base : Nat) (e : TypeId) (sz : Nat) (v : Value) (n : Nat) (V : Nat -> Value) : Prop := w.ownsRow base e sz v n ((List.range (n * sz)).map V)
theorem rowsN_nil (w : World) (base : Nat) (e : TypeId) (sz : Nat) (V : Nat -> Value) : RowsN w base e sz (.slice none 0 0) 0 V := by
 unfold RowsN
 rw [Nat.zero_mul]
 exact World.ownsRow_nil _ _ _ _
theorem RowsN.old {w w' : World} {base : Nat} {e : TypeId} {sz n : Nat} {v : Value} {V : Nat -> Value} (h : RowsN w base e sz v n V) (ho : Old w w') : RowsN w' base e sz v n V := by
 refine ⟨h.1, ?_⟩
 rcases h.2 with hn | ⟨g, cap, cur, hv, hb, hg, rest⟩
 ·exact Or.inl hn
 ·exact Or.inr ⟨g, cap, cur, hv, hb, (ho.block g (Array.getElem?_eq_some_iff.1 hg).1).trans hg, rest⟩
theorem RowsN.app {w : World} {base : Nat} {e : TypeId} {sz n : Nat} {v : Value} {V : Nat -> Value} {news : List Value} (h : w.ownsRow base e sz v (n + 1) ((List.range (n * sz)).map V ++ news)) (hn : news = (List.range sz).map fun q => V (n * sz + q)) : RowsN w base e sz v (n + 1) V := by
 unfold RowsN
 rw [Nat.add_mul, Nat.one_mul, List.range_add, List.map_append, List.map_map]
 rw [hn] at h
 exact h
theorem RowsN.cells {w : World} {base : Nat} {e : TypeId} {sz n : Nat} {v : Value} {V : Nat -> Value} (h : RowsN w base e sz v n V) (hn : 0 < n) : ∃ g c cur, v = .slice (some ⟨g, 0, none⟩) n c /\ n <= c /\ c <= 9223372036854775807 /\ base <= g /\ w.heap[g]? = some (.cells cur e (0, 0)) /\ ∀ q, q < n * sz -> cur[q]? = some (V q) := by
 have h1 := h.1
 rcases h.2 with ⟨rfl, rfl⟩ | ⟨g, cap, cur, rfl, hb, hg, hc, hm, hs, ht⟩
 ·omega
 ·refine ⟨g, cap, cur, rfl, hc, by unfold maxLen at hm; omega, hb, hg, fun q hq => ?_⟩
  have h2 : (cur.toList.take (n * sz))[q]? = some (V q) := by
   rw [ht]
   simp [hq]
  rw [List.getElem?_take_of_lt hq] at h2
  simpa using h2
theorem RowsN.slice {w : World} {base : Nat} {e : TypeId} {sz n : Nat} {v : Value} {V : Nat -> Value} (h : RowsN w base e sz v n V) : ∃ b c, v = .slice b n c := by
 rcases h.2 with ⟨rfl, rfl⟩ | ⟨g, cap, cur, rfl, _⟩
 ·exact ⟨none, 0, rfl⟩
 ·exact ⟨_, cap, rfl⟩
theorem zdt (w : World) (cs : List Value) (t : TypeId) : ∀ j u, cs[j]? = some u -> (w.alloc (.cells cs.toArray t)).cell? ((⟨w.heap.size, 0, none⟩ : Addr).add j) = some u := fun j u h => by
 have hadd : (⟨w.heap.size, 0, none⟩ : Addr).add j = ⟨w.heap.size, j, none⟩ := by unfold Addr.add; split <;> simp_all
 rw [hadd, cell_of_row _ _ j _ _ (0, 0) (heap_alloc_last _ _)]
 simpa using h
abbrev bxL (C : NN) : Nat -> Value := fun q => .int .u64 (flatF C q)
theorem RowsN.boxF {w : World} {base n : Nat} {v : Value} {C : NN} (h : RowsN w base 74 6 v n (bxL C)) (hC : ∀ j k, j < n -> k < 6 -> U64 (C j k)) : ∃ b c, v = .slice b n c /\ BoxF w b n C := by
 by_cases hn : 0 < n
 ·obtain ⟨g, c, cur, rfl, _, _, _, hg, hq⟩ := h.cells hn
  refine ⟨_, c, rfl, Or.inr ⟨g, cur, rfl, hg, fun j hj k hk => ⟨?_, hC j k hj hk⟩⟩⟩
  rw [hq (j * 6 + k) (by omega)]
  unfold bxL
  rw [show j * 6 + k = 6 * j + k by omega, zbN C j k hk]
 ·obtain ⟨b, c, rfl⟩ := h.slice
  exact ⟨b, c, rfl, Or.inl (by omega)⟩
theorem box_news (C : NN) (n : Nat) : [Value.int .u64 (C n 0), .int .u64 (C n 1), .int .u64 (C n 2), .int .u64 (C n 3), .int .u64 (C n 4), .int .u64 (C n 5)] = (List.range 6).map fun q => bxL C (n * 6 + q) := by
 have h : ∀ k, k < 6 -> flatF C (n * 6 + k) = C n k := fun k hk => by rw [show n * 6 + k = 6 * n + k by omega, zbN C n k hk]
 show _ = [bxL C (n * 6 + 0), bxL C (n * 6 + 1), bxL C (n * 6 + 2), bxL C (n * 6 + 3), bxL C (n * 6 + 4), bxL C (n * 6 + 5)]
 unfold bxL
 rw [h 0 (by omega), h 1 (by omega), h 2 (by omega), h 3 (by omega), h 4 (by omega), h 5 (by omega)]
theorem za5 {w : World} {b : Nat} {cs : List Value} {t : TypeId} (h : w.heap[b]? = some (.cells cs.toArray t (0, 0))) : ∀ j u, cs[j]? = some u -> w.cell? ((⟨b, 0, none⟩ : Addr).add j) = some u := fun j u hu => by
 have hadd : (⟨b, 0, none⟩ : Addr).add j = ⟨b, j, none⟩ := by unfold Addr.add; split <;> simp_all
 rw [hadd, cell_of_row _ _ j _ _ (0, 0) h]
 simpa using hu
theorem rfirst8_any (P Q G H : Int) (a : OA) (n cap : Nat) (bo : OA) (no co : Nat) (O : NI) (br : OA) (cr : Nat) (R : NI) (w : World) (h4 : Four P Q G H) (ho : ordR no O = true) (hO : IntsIn w bo no O) (hR : FacsIn w br no R) :
  Calls prog 21 #[gv P Q G H a n cap, .slice bo no co, .slice br no cr] w (GivL w no (fun i => comI P Q G H (O i + 1) (R i))) := by
 obtain ⟨i0, hi0, hz0, hz1, hz2⟩ := info_parts zbj
 have h8 : no <= 8 := (zbe.1 ho).1.2
 have hP : OrdP no O := zaA.1 (by have := ho; unfold ordR at this; exact (Bool.and_eq_true_iff.1 this).2)
 have HOr : Hid (∀ wx, Old w wx -> Calls prog 56 #[.slice bo no co] wx (Ret wx (.bool true))) := fun wx hx => by have h := zbx bo no co O wx (by omega) (hO.old hx); rw [ho] at h; exact h
 have HB : Hid (∀ i, i < no -> 0 <= O i /\ O i < 1000) := fun i hi => by have := hP.2.1 i hi; omega
 have HIO := hid hO
 have HIR := hid hR
 have HRu := hid hR.u64
 obtain ⟨F, hF⟩ : ∃ F : Nat -> Int, F = fun i => comI P Q G H (O i + 1) (R i) := ⟨_, rfl⟩
 have HFi : Hid (∀ i, F i = comI P Q G H (O i + 1) (R i)) := fun i => by rw [hF]
 rw [<- hF]
 clear hF ho hO hR hP
 have HZ := lain1 w (gc P Q G H a n cap) 25
 have HG0 := fun w' ho => (HZ.then (W' := w') ho).row 0 (by simp)
 have HW0 := hid HZ.old
 clear HZ
 go_enter func21, ntmps21
 go_upto_region 1 with fail
 generalize w.alloc (.cells (gc P Q G H a n cap) 25) = W at *
 have HG := hid HG0
 clear HG0
 obtain ⟨gb, hgb⟩ : ∃ gb, gb = w.heap.size := ⟨_, rfl⟩
 rw [<- hgb] at HG
 rw [<- hgb]
 clear hgb
 go_upto_region 5 with (go_at_call 56; refine (HOr.out _ HW0.out).mono ?_; rintro e w1 ⟨rfl, o1⟩)
 have HO1 := hid o1
 clear o1 HOr
 go_loopw [7, 8] (fun v iv wx => ∃ i : Nat, iv = .int .i64 (i : Int) /\ i <= no /\ Hid (Nums wx W.heap.size v i F) /\ Hid (Old W wx)) (fun _ iv _ => no - (intOf iv).toNat)
 case atStart => exact ⟨0, rfl, Nat.zero_le _, zaD _ _ _, HO1⟩
 case round =>
  obtain ⟨i, rfl, hi, HN, HO⟩ := hrel
  by_cases hlt : i < no
  ·rcases HIO.out with h0 | ⟨bx, ox, hqx, _, hrx⟩
   ·omega
   rcases HIR.out with h0 | ⟨by_, oy, hqy, _, hry⟩
   ·omega
   have HC := hid fun wx (hx : Old wr wx) => ((HW0.out.trans HO.out).trans hx).cellOf (hrx i hlt).1
   have HD := hid fun wx (hx : Old wr wx) => ((HW0.out.trans HO.out).trans hx).cellOf (hry i hlt).1
   have HGr := hid fun wx (hx : Old wr wx) => HG.out _ (HO.out.trans hx)
   clear hrx hry
   subst hqx
   subst hqy
   have HJ : Hid (0 <= O i + 1 /\ O i + 1 <= 1000) := by have := HB.out i hlt; unfold Hid; omega
   have HJu : Hid (U64 (O i + 1)) := by have := HB.out i hlt; exact ⟨by omega, by omega⟩
   have HRi := hid (HRu.out i hlt)
   have HVi : Hid (Value.int .i64 (IntKind.i64.wrap (O i + 1)) = .int .i64 (O i + 1)) := by unfold Hid; rw [wrapi _ HJ.out]
   have HVu : Hid (Value.int .u64 (IntKind.u64.wrap (O i + 1)) = .int .u64 (O i + 1)) := by unfold Hid; rw [wrapu _ HJ.out]
   have HCo : Hid (∀ wx, Calls prog 60 #[gv P Q G H a n cap, .int .u64 (O i + 1), .int .u64 (R i)] wx (Ret wx (.int .u64 (F i)))) := fun wx => by rw [HFi.out]; exact zdJ P Q G H a n cap _ _ wx h4 HJu.out HRi.out
   go_upto_region 7 with fail
   refine zaa 14 [.k (u7), .k (gv P Q G H a n cap), .k (.slice (some ⟨bx, ox, none⟩) no co), .k (.int .i64 (i : Int)), .k (.pointer (some ⟨bx, ox + i, none⟩)), .k (.int .i64 (O i)), .k (.int .i64 (O i + 1)), .k (.int .u64 (O i + 1)), .k (.slice (some ⟨by_, oy, none⟩) no cr), .k (.int .i64 (i : Int)), .k (.pointer (some ⟨by_, oy + i, none⟩)), .k (.int .u64 (R i)), .k (.int .u64 (F i)), blkE 1 #[.int .u64 (F i)] 22] (Old wr) (by kernel_rfl) (by kernel_rfl) rfl ((Old.refl _).drew) ?st ?_
   case st =>
    refine .p <| .c (sts U25 HGr.out) <| .p <| .p <| .c (sti (n := no) (c := co) hlt U27) <| .c (stl U3 HC.out) <| .c (stv HVi.out) <| .c (stv HVu.out) <| .p <| .p <| .c (sti (n := no) (c := cr) hlt U29) <| .c (stl U22 HD.out) <| .c (stK old_R func60 (fun wx _ => HCo.out wx)) <| .c (stm (ob := fun t => .cells #[.int .u64 (F i)] 22) (v := fun s => .slice (some ⟨s, 0, none⟩) 1 1) old_R fun t wx hR hd => ⟨_, rfl, heap_alloc_last _ _⟩) .n
   intro t wz hR2 hk2
   simp only [fill, Ent.val, blkE, zs0, zs1, zd1, zd0, zdn]
   obtain ⟨bs, ebs, hbs⟩ : ∃ b, t 13 = .slice (some ⟨b, 0, none⟩) 1 1 /\ wz.heap[b]? = some (.cells #[.int .u64 (F i)] 22 (0, 0)) := hk2 13 (by omega)
   rw [ebs]
   have HNz := hid (HN.out.old hR2)
   have HOz := hid (HO.out.trans hR2)
   have HSz := hid HOz.out.size
   clear hk2 hR2 HN HO HC HD HGr HCo HVi HVu
   go_wp2_with (at_builtin; refine wpList_append_lies _ rfl _ _ 29 rfl W.heap.size 22 i0 (.int .u64 0) 1 8 U29 hi0 hz0 hz1 hz2 rfl (by decide) _ _ _ rfl HNz.out ⟨bs, 0, none⟩ 1 1 [.int .u64 (F i)] rfl rfl ?c1 ?c2 (by decide) ?c3 ?c4 HSz.out _ rfl ?_)
   case c1 => exact za5 hbs
   case c2 => intro u hu; simp at hu; rcases hu with rfl; rfl
   case c3 => unfold maxLen; omega
   case c4 => omega
   intro g9 cap9 w9 hown9 hgrow9 hat9 _
   have HN9 := hid (Nums.app hown9 rfl)
   have HO9 := hid (HOz.out.grown hgrow9 fun q hq => (World.ownsRow.lt HNz.out q hq).1)
   clear hown9 hgrow9 hat9 HNz HOz hbs ebs HSz
   go_wp2
   go_roundw
   case rel => exact ⟨i + 1, zab i, by omega, HN9, HO9⟩
   case measure => simp [intOf]; omega
  ·have he : no = i := by omega
   subst he
   go_wp2_with fail
   go_ret
   exact ⟨HW0.out.trans HO.out, _, rfl, HN.out.mono HW0.out.size⟩
theorem rsecond8_any (P Q G H : Int) (a : OA) (n cap : Nat) (bo : OA) (no co : Nat) (O : NI) (X : Int) (br : OA) (cr : Nat) (R : NI) (w : World) (h4 : Four P Q G H) (hXu : U64 X) (ho : ordR no O = true) (hO : IntsIn w bo no O) (hR : FacsIn w br no R) :
  Calls prog 23 #[gv P Q G H a n cap, .slice bo no co, .int .u64 X, .slice br no cr] w (GivL w no (fun i => comI P Q G H (powI X (O i + 1) Q) (R i))) := by
 obtain ⟨i0, hi0, hz0, hz1, hz2⟩ := info_parts zbj
 have h8 : no <= 8 := (zbe.1 ho).1.2
 have hP : OrdP no O := zaA.1 (by have := ho; unfold ordR at this; exact (Bool.and_eq_true_iff.1 this).2)
 have HOr : Hid (∀ wx, Old w wx -> Calls prog 56 #[.slice bo no co] wx (Ret wx (.bool true))) := fun wx hx => by have h := zbx bo no co O wx (by omega) (hO.old hx); rw [ho] at h; exact h
 have HB : Hid (∀ i, i < no -> 0 <= O i /\ O i < 1000) := fun i hi => by have := hP.2.1 i hi; omega
 have HIO := hid hO
 have HIR := hid hR
 have HRu := hid hR.u64
 obtain ⟨F, hF⟩ : ∃ F : Nat -> Int, F = fun i => comI P Q G H (powI X (O i + 1) Q) (R i) := ⟨_, rfl⟩
 have HFi : Hid (∀ i, F i = comI P Q G H (powI X (O i + 1) Q) (R i)) := fun i => by rw [hF]
 rw [<- hF]
 clear hF ho hO hR hP
 have HZ := lain1 w (gc P Q G H a n cap) 25
 have HG0 := fun w' ho => (HZ.then (W' := w') ho).row 0 (by simp)
 have HW0 := hid HZ.old
 clear HZ
 go_enter func23, ntmps23
 go_upto_region 1 with fail
 generalize w.alloc (.cells (gc P Q G H a n cap) 25) = W at *
 have HG := hid HG0
 clear HG0
 obtain ⟨gb, hgb⟩ : ∃ gb, gb = w.heap.size := ⟨_, rfl⟩
 rw [<- hgb] at HG
 rw [<- hgb]
 clear hgb
 go_upto_region 5 with (go_at_call 56; refine (HOr.out _ HW0.out).mono ?_; rintro e w1 ⟨rfl, o1⟩)
 have HO1 := hid o1
 clear o1 HOr
 go_loopw [9, 10] (fun v iv wx => ∃ i : Nat, iv = .int .i64 (i : Int) /\ i <= no /\ Hid (Nums wx W.heap.size v i F) /\ Hid (Old W wx)) (fun _ iv _ => no - (intOf iv).toNat)
 case atStart => exact ⟨0, rfl, Nat.zero_le _, zaD _ _ _, HO1⟩
 case round =>
  obtain ⟨i, rfl, hi, HN, HO⟩ := hrel
  by_cases hlt : i < no
  ·rcases HIO.out with h0 | ⟨bx, ox, hqx, _, hrx⟩
   ·omega
   rcases HIR.out with h0 | ⟨by_, oy, hqy, _, hry⟩
   ·omega
   have HC := hid fun wx (hx : Old wr wx) => ((HW0.out.trans HO.out).trans hx).cellOf (hrx i hlt).1
   have HD := hid fun wx (hx : Old wr wx) => ((HW0.out.trans HO.out).trans hx).cellOf (hry i hlt).1
   have HGr := hid fun wx (hx : Old wr wx) => HG.out _ (HO.out.trans hx)
   clear hrx hry
   subst hqx
   subst hqy
   have HJ : Hid (0 <= O i + 1 /\ O i + 1 <= 1000) := by have := HB.out i hlt; unfold Hid; omega
   have HJu : Hid (U64 (O i + 1)) := by have := HB.out i hlt; exact ⟨by omega, by omega⟩
   have HRi := hid (HRu.out i hlt)
   have HVi : Hid (Value.int .i64 (IntKind.i64.wrap (O i + 1)) = .int .i64 (O i + 1)) := by unfold Hid; rw [wrapi _ HJ.out]
   have HVu : Hid (Value.int .u64 (IntKind.u64.wrap (O i + 1)) = .int .u64 (O i + 1)) := by unfold Hid; rw [wrapu _ HJ.out]
   have HCo : Hid (∀ wx, Calls prog 60 #[gv P Q G H a n cap, .int .u64 (powI X (O i + 1) Q), .int .u64 (R i)] wx (Ret wx (.int .u64 (F i)))) := fun wx => by rw [HFi.out]; exact zdJ P Q G H a n cap _ _ wx h4 (zbi _ _ _) HRi.out
   go_upto_region 7 with fail
   refine zaa 16 [.k (u9), .k (gv P Q G H a n cap), .k (gv P Q G H a n cap), .k (.int .u64 X), .k (.slice (some ⟨bx, ox, none⟩) no co), .k (.int .i64 (i : Int)), .k (.pointer (some ⟨bx, ox + i, none⟩)), .k (.int .i64 (O i)), .k (.int .i64 (O i + 1)), .k (.int .u64 (powI X (O i + 1) Q)), .k (.slice (some ⟨by_, oy, none⟩) no cr), .k (.int .i64 (i : Int)), .k (.pointer (some ⟨by_, oy + i, none⟩)), .k (.int .u64 (R i)), .k (.int .u64 (F i)), blkE 1 #[.int .u64 (F i)] 22] (Old wr) (by kernel_rfl) (by kernel_rfl) rfl ((Old.refl _).drew) ?st ?_
   case st =>
    refine .p <| .c (sts U25 HGr.out) <| .c (sts U25 HGr.out) <| .p <| .p <| .p <| .c (sti (n := no) (c := co) hlt U27) <| .c (stl U3 HC.out) <| .c (stv HVi.out) <| .c (stK old_R func62 (fun wx _ => zbs P Q G H a n cap X _ wx hXu HJ.out)) <| .p <| .p <| .c (sti (n := no) (c := cr) hlt U29) <| .c (stl U22 HD.out) <| .c (stK old_R func60 (fun wx _ => HCo.out wx)) <| .c (stm (ob := fun t => .cells #[.int .u64 (F i)] 22) (v := fun s => .slice (some ⟨s, 0, none⟩) 1 1) old_R fun t wx hR hd => ⟨_, rfl, heap_alloc_last _ _⟩) .n
   intro t wz hR2 hk2
   simp only [fill, Ent.val, blkE, zs0, zs1, zd1, zd0, zdn]
   obtain ⟨bs, ebs, hbs⟩ : ∃ b, t 15 = .slice (some ⟨b, 0, none⟩) 1 1 /\ wz.heap[b]? = some (.cells #[.int .u64 (F i)] 22 (0, 0)) := hk2 15 (by omega)
   rw [ebs]
   have HNz := hid (HN.out.old hR2)
   have HOz := hid (HO.out.trans hR2)
   have HSz := hid HOz.out.size
   clear hk2 hR2 HN HO HC HD HGr HCo HVi HVu
   go_wp2_with (at_builtin; refine wpList_append_lies _ rfl _ _ 29 rfl W.heap.size 22 i0 (.int .u64 0) 1 8 U29 hi0 hz0 hz1 hz2 rfl (by decide) _ _ _ rfl HNz.out ⟨bs, 0, none⟩ 1 1 [.int .u64 (F i)] rfl rfl ?c1 ?c2 (by decide) ?c3 ?c4 HSz.out _ rfl ?_)
   case c1 => exact za5 hbs
   case c2 => intro u hu; simp at hu; rcases hu with rfl; rfl
   case c3 => unfold maxLen; omega
   case c4 => omega
   intro g9 cap9 w9 hown9 hgrow9 hat9 _
   have HN9 := hid (Nums.app hown9 rfl)
   have HO9 := hid (HOz.out.grown hgrow9 fun q hq => (World.ownsRow.lt HNz.out q hq).1)
   clear hown9 hgrow9 hat9 HNz HOz hbs ebs HSz
   go_wp2
   go_roundw
   case rel => exact ⟨i + 1, zab i, by omega, HN9, HO9⟩
   case measure => simp [intOf]; omega
  ·have he : no = i := by omega
   subst he
   go_wp2_with fail
   go_ret
   exact ⟨HW0.out.trans HO.out, _, rfl, HN.out.mono HW0.out.size⟩
end
end Go.Proofs.YtlnmjbbpenhdbaaGreat
