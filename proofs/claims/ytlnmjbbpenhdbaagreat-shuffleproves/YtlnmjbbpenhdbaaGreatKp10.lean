/-
  What the proof needs, part 10.
-/
import Derived.Test.YtlnmjbbpenhdbaaGreatKp08
import Derived.Lib.AppendZerosOnto
namespace Go.Proofs.YtlnmjbbpenhdbaaGreat
open Tryz
set_option linter.unusedSimpArgs false
set_option linter.unusedVariables false
set_option maxRecDepth 100000
set_option maxHeartbeats 32000000
section
open Go.RowKit
theorem cgrow_any (n : Nat) (w : World) (h0 : 0 < n) (hn : n <= 1000) :
  Calls prog 112 #[.slice none 0 0, .int .i64 (n : Int)] w fun e w' => Old w w' /\ ∃ v, e = .returned v /\ Nums w' w.heap.size v 0 (fun _ => 0) := by
 obtain ⟨i0, hi0, hz0, hz1, hz2⟩ := info_parts zbj
 have hrz : ∀ ty, (Builtin.append_ #[29, 3] ty #[.slice none 0 0, .int .i64 (n : Int)]).run prog w = .ok (.slice (some ⟨w.heap.size, 0, none⟩) n (grownCap w n 0 22)) (w.drew.alloc (.cells (#[] ++ Builtin.zeroCells #[.int .u64 0] n ++ Builtin.zeroCells #[.int .u64 0] (grownCap w n 0 22 - n)) 22)) := fun ty => by
  have h := Lib.run_append_grow_zeros (P := prog) w 29 3 ty 22 i0 (.int .u64 0) .i64 .i64 underlying29 underlying3 hi0 hz0 none 0 0 [] (run_firstCells_none w.drew _ 0 0 0) n h0 (by rw [hz1]; omega) (by omega) (by omega) (by rw [hz2]; omega) (growslice_fits (by omega) (by rw [hz2]; omega))
  rw [Nat.zero_add] at h
  exact h
 have hGn : n <= grownCap w n 0 22 := by have := grownCap_ge w n 0 22; exact this
 have hGm := grownCap_le_maxLen w n 0 22 (by unfold maxLen; omega)
 obtain ⟨G, hG⟩ : ∃ G, G = grownCap w n 0 22 := ⟨_, rfl⟩
 rw [<- hG] at hrz hGn hGm
 clear hG
 have hnum : Nums (w.drew.alloc (.cells (#[] ++ Builtin.zeroCells #[.int .u64 0] n ++ Builtin.zeroCells #[.int .u64 0] (G - n)) 22)) w.heap.size (.slice (some ⟨w.heap.size, 0, none⟩) 0 G) 0 (fun _ => 0) := World.ownsRow_made w.drew _ G (Nat.le_refl _) hGm (by simp [Builtin.zeroCells]; omega)
 have hold : Old w (w.drew.alloc (.cells (#[] ++ Builtin.zeroCells #[.int .u64 0] n ++ Builtin.zeroCells #[.int .u64 0] (G - n)) 22)) := (Old.refl w).drew.alloc _
 have hG63 : G <= 9223372036854775807 := by unfold maxLen at hGm; omega
 obtain ⟨W1, hW1⟩ : ∃ W1, W1 = w.drew.alloc (.cells (#[] ++ Builtin.zeroCells #[.int .u64 0] n ++ Builtin.zeroCells #[.int .u64 0] (G - n)) 22) := ⟨_, rfl⟩
 rw [<- hW1] at hrz hold hnum
 have HN : Hid (Old w W1 /\ Nums W1 w.heap.size (.slice (some ⟨w.heap.size, 0, none⟩) 0 G) 0 (fun _ => 0)) := ⟨hold, hnum⟩
 clear hold hnum hW1
 go_enter func112, ntmps112
 go_wp2_with (at_builtin; refine Lib.wpList_append_run _ rfl _ _ _ _ rfl _ _ rfl rfl _ _ (hrz _) ?_)
 go_ret
 exact ⟨HN.out.1, _, rfl, HN.out.2⟩
def lenS (L : Nat -> Nat) : Nat -> Nat
 | 0 => 0
 | i + 1 => lenS L i + L i
def catF (L : Nat -> Nat) (B : NN) : Nat -> Nat -> Int
 | 0 => fun _ => 0
 | i + 1 => fun k => if k < lenS L i then catF L B i k else B i (k - lenS L i)
theorem cat_low {L : Nat -> Nat} {B : NN} {i k : Nat} (h : k < lenS L i) : catF L B (i + 1) k = catF L B i k := if_pos h
theorem lenS_le {L : Nat -> Nat} {n : Nat} (h : ∀ j, j < n -> L j <= 100) : ∀ i, i <= n -> lenS L i <= 100 * i
 | 0, _ => Nat.le_refl _
 | i + 1, hi => by
  show lenS L i + L i <= _
  have := lenS_le h i (by omega)
  have := h i (by omega)
  omega
theorem nums_cat {w : World} {base k m : Nat} {v : Value} {F : NI} {G D : NI} (h : w.ownsRow base 22 1 v (k + m) ((List.range k).map (fun i => Value.int .u64 (F i)) ++ (List.range m).map (fun i => Value.int .u64 (D i)))) (h1 : ∀ i, i < k -> G i = F i) (h2 : ∀ i, i < m -> G (k + i) = D i) : Nums w base v (k + m) G := by
 unfold Nums
 have e : (List.range (k + m)).map (fun i => Value.int .u64 (G i)) = (List.range k).map (fun i => Value.int .u64 (F i)) ++ (List.range m).map (fun i => Value.int .u64 (D i)) := by
  rw [List.range_add, List.map_append, List.map_map]
  congr 1
  ·exact List.map_congr_left fun i hi => by rw [h1 i (List.mem_range.1 hi)]
  ·exact List.map_congr_left fun i hi => by show Value.int .u64 (G (k + i)) = _; rw [h2 i (List.mem_range.1 hi)]
 rw [e]
 exact h
theorem concat_any (bb : OA) (nb cb : Nat) (BA : Nat -> Option Addr) (L C : Nat -> Nat) (B : NN) (w : World) (hnb : nb <= 9) (hL : ∀ j, j < nb -> L j <= 100) (hpos : 0 < lenS L nb) (hA : ∀ j, j < nb -> ∃ b o, BA j = some ⟨b, o, none⟩) (hB : ListsIn w bb nb BA L C B) :
  Calls prog 73 #[.slice bb nb cb] w (GivL w (lenS L nb) (catF L B nb)) := by
 have HB : Hid (ListsIn w bb nb BA L C B) := hB
 have HL : Hid (∀ j, j < nb -> L j <= 100) := hL
 have HP : Hid (0 < lenS L nb) := hpos
 have HA : Hid (∀ j, j < nb -> ∃ b o, BA j = some ⟨b, o, none⟩) := hA
 obtain ⟨i0, hi0, hz0, hz1, hz2⟩ := info_parts zbj
 clear hB hL hpos hA
 go_enter func73, ntmps73
 go_upto_region 3 with fail
 go_loopw [3, 11] (fun sv iv wx => ∃ i : Nat, iv = .int .i64 (i : Int) /\ i <= nb /\ sv = .int .i64 (lenS L i : Nat) /\ Hid (Old w wx)) (fun _ iv _ => nb - (intOf iv).toNat)
 case atStart => exact ⟨0, rfl, Nat.zero_le _, rfl, Old.refl _⟩
 case round =>
  obtain ⟨i, rfl, hi, rfl, HO⟩ := hrel
  by_cases hlt : i < nb
  ·rcases HB.out with h0 | ⟨bx, ox, hqx, _, hrx⟩
   ·omega
   have cx := HO.out.cellOf (hrx i hlt).1
   have l1 := HL.out i hlt
   have l2 := lenS_le HL.out i hi
   have HE : Hid (lenS L (i + 1) = lenS L i + L i) := rfl
   clear hrx
   subst hqx
   generalize L i = Li at *
   generalize hs : lenS L i = Si at *
   have HS : Hid (lenS L (i + 1) = Si + Li) := HE.out
   clear hs HE
   have k1 : IntKind.i64.wrap ((Si : Int) + (Li : Int)) = ((Si + Li : Nat) : Int) := by rw [IntKind.wrap_i64]; omega
   have k2 : ¬ ((Si + Li : Nat) : Int) < 0 := by omega
   have k3 : wrap64 ((Si : Int) + (Li : Int)) = ((Si + Li : Nat) : Int) := by unfold wrap64; omega
   go_wp2_with fail
   go_roundw
   case rel => exact ⟨i + 1, zab i, by omega, by rw [HS.out]; first | rfl | simp, HO⟩
   case measure => simp [intOf]; omega
  ·have he : nb = i := by omega
   subst he
   have l2 := lenS_le HL.out nb (Nat.le_refl _)
   have HG : Hid (∀ wx, Calls prog 112 #[.slice none 0 0, .int .i64 (lenS L nb : Nat)] wx fun e w' => Old wx w' /\ ∃ v, e = .returned v /\ Nums w' wx.heap.size v 0 (fun _ => 0)) := fun wx => cgrow_any (lenS L nb) wx HP.out (by omega)
   go_upto_region 10 with (go_at_call 112; refine (HG.out _).mono ?_; rintro e w1 ⟨o1, v, rfl, hN⟩; have HN1 : Hid (Nums w1 w.heap.size v 0 (catF L B 0)) := hN.mono HO.out.size; have HO1 : Hid (Old w w1) := HO.out.trans o1; clear hN o1)
   go_upto_region 11 with fail
   go_loopw [6, 27] (fun v iv wx => ∃ i : Nat, iv = .int .i64 (i : Int) /\ i <= nb /\ Hid (Nums wx w.heap.size v (lenS L i) (catF L B i)) /\ Hid (Old w wx)) (fun _ iv _ => nb - (intOf iv).toNat)
   case atStart => exact ⟨0, rfl, Nat.zero_le _, HN1, HO1⟩
   case round =>
    obtain ⟨i, rfl, hi, HN, HO2⟩ := hrel
    by_cases hlt : i < nb
    ·rcases HB.out with h0 | ⟨bx, ox, hqx, _, hrx⟩
     ·omega
     have cx := HO2.out.cellOf (hrx i hlt).1
     have HFi : Hid (FacsIn wr (BA i) (L i) (B i)) := (hrx i hlt).2.2.2.old HO2.out
     have l1 := HL.out i hlt
     have l2 := lenS_le HL.out i hi
     clear hrx
     subst hqx
     obtain ⟨ba, oa, hba⟩ := HA.out i hlt
     rw [hba] at cx HFi
     have hnews : ∀ j u, ((List.range (L i)).map (fun k => Value.int .u64 (B i k)))[j]? = some u -> wr.cell? ((⟨ba, oa, none⟩ : Addr).add j) = some u := fun j u hj => by
      have hadd : (⟨ba, oa, none⟩ : Addr).add j = ⟨ba, oa + j, none⟩ := by unfold Addr.add; split <;> simp_all
      rw [hadd]
      rw [List.getElem?_map] at hj
      by_cases hjl : j < L i
      ·rw [List.getElem?_range hjl] at hj
       rcases HFi.out with h0 | ⟨b2, o2, e2, _, h2⟩
       ·omega
       ·cases e2
        simp only [Option.map_some, Option.some.injEq] at hj
        rw [(h2 j hjl).1, hj]
      ·rw [List.getElem?_eq_none (by simpa using hjl)] at hj
       cases hj
     have HNe : Hid (lenS L (i + 1) = lenS L i + L i) := rfl
     have HCe : Hid (∀ k, k < lenS L i -> catF L B (i + 1) k = catF L B i k) := fun k hk => cat_low hk
     have HCf : Hid (∀ k, k < L i -> catF L B (i + 1) (lenS L i + k) = B i k) := fun k hk => by
      show (if lenS L i + k < lenS L i then _ else B i (lenS L i + k - lenS L i)) = _
      rw [if_neg (by omega), Nat.add_sub_cancel_left]
     have HNw : Hid (∀ j u, ((List.range (L i)).map (fun k => Value.int .u64 (B i k)))[j]? = some u -> wr.cell? ((⟨ba, oa, none⟩ : Addr).add j) = some u) := hnews
     clear hnews hba HFi
     generalize hG1 : catF L B (i + 1) = G1 at *
     have HG1 : Hid (catF L B (i + 1) = G1) := hG1
     clear hG1
     generalize catF L B i = G0 at *
     generalize hS1 : lenS L (i + 1) = S1 at *
     generalize lenS L i = S0 at *
     generalize L i = Li at *
     have HN1 : Hid (lenS L (i + 1) = S1) := hS1
     clear hS1
     go_wp2_with (at_builtin; refine wpList_append_own _ rfl _ _ 29 rfl w.heap.size 22 i0 (.int .u64 0) 1 8 underlying29 hi0 hz0 hz1 hz2 rfl (by decide) _ _ _ rfl HN.out ⟨ba, oa, none⟩ Li _ ((List.range Li).map (fun k => Value.int .u64 (B i k))) rfl ?c1 HNw.out ?c2 ?c3 ?c4 ?c5 ?_)
     case c1 => simp
     case c2 => intro u hu; simp at hu; obtain ⟨_, _, rfl⟩ := hu; rfl
     case c3 => unfold maxLen; omega
     case c4 => omega
     case c5 => exact HO2.out.size
     intro v' w1 hown' hgrow hne
     have HN3 : Hid (Nums w1 w.heap.size v' S1 G1) := by
      have := nums_cat hown' HCe.out HCf.out
      unfold Hid
      rw [HNe.out]
      exact this
     have HO3 : Hid (Old w w1) := by
      refine HO2.out.grown hgrow fun k hk => (World.ownsRow.lt HN.out k hk).1
     clear hown' hgrow hne
     go_wp2_with fail
     go_roundw
     case rel => exact ⟨i + 1, zab i, by omega, by rw [HN1.out, HG1.out]; exact HN3, HO3⟩
     case measure => simp [intOf]; omega
    ·have he : nb = i := by omega
     subst he
     go_wp2_with fail
     go_ret
     exact ⟨HO2.out, _, rfl, HN.out⟩
end
end Go.Proofs.YtlnmjbbpenhdbaaGreat
