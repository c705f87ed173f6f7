/-
  The statement's walk (layer 4): GroupCounts.
-/
import Derived.Test.YtljfjjfckepkdadGcount
namespace Go.Proofs.Ytljfjjfckepkdad
open Go.RowKit Go.Maps Go.WideMaps

theorem law22 : Keyed Try.prog 22 := int_keyed Try.underlying22

set_option linter.unusedSimpArgs false in
set_option maxHeartbeats 4000000 in
theorem law_counts (P Q G H : Int) (a : Option Addr) (n cap : Nat) (N A : Nat → Int) (FA : Nat → Option Addr) (L C : Nat → Nat) (F : Nat → Nat → Int) (w : World) (h4 : Four P Q G H) (hcap : n ≤ cap) (hin : RowsIn w a n N A FA L C F) :
    Calls Try.prog 3 #[gv P Q G H a n cap] w fun e w' => e = .returned (.bool true) ∧ Old w w' := by
  obtain ⟨HA, HT, HR, HI, _, _, HF, HN, HO⟩ := law_calls P Q G H a n cap N A FA L C F w h4 hcap hin
  have HD : Hid (∀ wx, Beh w P Q G H a n cap wx → Beh w P Q G H a n cap wx.drew) := fun _ h => h.drew
  have ha := hin.a0
  have hmm := @run_makeMap Try.prog
  clear hin
  by_cases hp : 3000 < P
  · clear HR HI HT ha h4
    go_enter Try.func3, Try.ntmps3
    go_wp2_with (go_at_call 4; refine (HA.out _ (by first | exact HN.out _ | assumption | exact HD.out _ (by assumption))).mono ?_; rintro e w2 ⟨rfl, hb⟩; obtain ⟨d0, d1, d2, d3, d4⟩ := HF.out _ hb)
    go_ret
    exact ⟨rfl, HO.out _ (by assumption)⟩
  cases ht : fewB L n
  · rw [ht] at HT
    clear HR HI ha ht h4
    go_enter Try.func3, Try.ntmps3
    go_wp2_with (first
      | (go_at_call 4; refine (HA.out _ (by first | exact HN.out _ | assumption | exact HD.out _ (by assumption))).mono ?_; rintro e w2 ⟨rfl, hb⟩; obtain ⟨d0, d1, d2, d3, d4⟩ := HF.out _ hb)
      | (go_at_call 5; refine (HT.out _ (by first | exact HN.out _ | assumption | exact HD.out _ (by assumption))).mono ?_; rintro e w2 ⟨rfl, hb⟩; obtain ⟨d0, d1, d2, d3, d4⟩ := HF.out _ hb))
    go_ret
    exact ⟨rfl, HO.out _ (by assumption)⟩
  have hn : n ≤ 80 := (fewB_iff.1 ht).1
  rw [ht] at HT
  have HR : Hid (∀ wx, Beh w P Q G H a n cap wx → Calls Try.prog 6 #[gv P Q G H a n cap] wx fun e w' => e = .returned (.bool (rightI P Q G H N A F L n)) ∧ Beh w P Q G H a n cap w') := HR.out hn
  clear ht hn hcap
  cases hr : rightI P Q G H N A F L n
  · rw [hr] at HR
    clear HI ha hr h4
    go_enter Try.func3, Try.ntmps3
    go_wp2_with (first
      | (go_at_call 4; refine (HA.out _ (by first | exact HN.out _ | assumption | exact HD.out _ (by assumption))).mono ?_; rintro e w2 ⟨rfl, hb⟩; obtain ⟨d0, d1, d2, d3, d4⟩ := HF.out _ hb)
      | (go_at_call 5; refine (HT.out _ (by first | exact HN.out _ | assumption | exact HD.out _ (by assumption))).mono ?_; rintro e w2 ⟨rfl, hb⟩; obtain ⟨d0, d1, d2, d3, d4⟩ := HF.out _ hb)
      | (go_at_call 6; refine (HR.out _ (by first | exact HN.out _ | assumption | exact HD.out _ (by assumption))).mono ?_; rintro e w2 ⟨rfl, hb⟩; obtain ⟨d0, d1, d2, d3, d4⟩ := HF.out _ hb))
    go_ret
    exact ⟨rfl, HO.out _ (by assumption)⟩
  have hR := right_righ ha hr
  rw [hr] at HR
  clear ha hr
  have HQ : Hid (Righ P Q G) := hR
  have C1 : Hid (∀ (i : Nat) wx, i ≤ 3000 → Beh w P Q G H a n cap wx → Calls Try.prog 7 #[gv P Q G H a n cap, .int .u64 (i : Int)] wx fun e w' => e = .returned (.bool (elm P.toNat Q.toNat i)) ∧ Beh w P Q G H a n cap w') := fun i wx hi hb => by
    have := HI.out hR i wx (by omega) (by omega) hb
    rwa [hR.elm (by omega), Int.toNat_natCast] at this
  have C2 : Hid (∀ (i : Nat) wx, i ≤ 3000 → Beh w P Q G H a n cap wx → Calls Try.prog 8 #[gv P Q G H a n cap, .int .u64 G, .int .u64 (i : Int)] wx fun e w' => e = .returned (.int .u64 (expI P Q G (i : Int))) ∧ Old wx w') := fun i wx hi hb => gexp_any P Q G H G i a n cap wx h4 hR h4.g0 h4.g1 (by omega) (by omega)
  have p2 : P = 2 * Q + 1 := hR.two
  have q5 : 5 ≤ Q := hR.q0
  obtain ⟨p, hpp⟩ : ∃ p : Nat, P = (p : Int) := ⟨P.toNat, by omega⟩
  obtain ⟨q, hqq⟩ : ∃ q : Nat, Q = (q : Int) := ⟨Q.toNat, by omega⟩
  have HPQ : Hid (P = (p : Int) ∧ Q = (q : Int)) := ⟨hpp, hqq⟩
  have p3 : p ≤ 3000 := by omega
  have q3 : q ≤ 3000 := by omega
  have hcq : cnt P.toNat Q.toNat p = q := by
    have := hR.count
    rw [hpp, hqq] at this ⊢
    simp only [Int.toNat_natCast] at this ⊢
    omega
  have HC : Hid (cnt P.toNat Q.toNat p = q) := hcq
  clear hcq hR HI
  have hP : P = (p : Int) := hpp
  have hQ : Q = (q : Int) := hqq
  clear hpp hqq p2 q5 h4
  go_enter Try.func3, Try.ntmps3
  clear hP hQ
  go_upto_region 7 with (first
      | (go_at_call 4; refine (HA.out _ (by first | exact HN.out _ | assumption | exact HD.out _ (by assumption))).mono ?_; rintro e w2 ⟨rfl, hb⟩; obtain ⟨d0, d1, d2, d3, d4⟩ := HF.out _ hb)
      | (go_at_call 5; refine (HT.out _ (by first | exact HN.out _ | assumption | exact HD.out _ (by assumption))).mono ?_; rintro e w2 ⟨rfl, hb⟩; obtain ⟨d0, d1, d2, d3, d4⟩ := HF.out _ hb)
      | (go_at_call 6; refine (HR.out _ (by first | exact HN.out _ | assumption | exact HD.out _ (by assumption))).mono ?_; rintro e w2 ⟨rfl, hb⟩; obtain ⟨d0, d1, d2, d3, d4⟩ := HF.out _ hb))
  have HB0 : Hid (Beh w P Q G H a n cap w2) := by assumption
  clear HA HT HR
  go_loopw [3, 24] (fun nv iv wx => ∃ i : Nat, nv = .int .u64 (cnt P.toNat Q.toNat i : Nat) ∧ iv = .int .u64 (i : Int) ∧ i ≤ p ∧ Hid (Beh w P Q G H a n cap wx)) (fun _ iv _ => p - (intOf iv).toNat)
  case atStart => exact ⟨0, rfl, rfl, Nat.zero_le _, HB0⟩
  case round =>
    obtain ⟨i, rfl, rfl, hi, HB⟩ := hrel
    by_cases hlt : i < p
    · obtain ⟨d0, d1, d2, d3, d4⟩ := HF.out _ HB.out
      have hlt' : (i : Int) < P := by have := HPQ.out.1; omega
      have hle := cnt_le P.toNat Q.toNat i
      have HS : Hid (cnt P.toNat Q.toNat (i + 1) = cnt P.toNat Q.toNat i + if elm P.toNat Q.toNat i then 1 else 0) := cnt_succ _ _ _
      have CI : Hid (∀ wx, Beh w P Q G H a n cap wx → Calls Try.prog 7 #[gv P Q G H a n cap, .int .u64 (i : Int)] wx fun e w' => e = .returned (.bool (elm P.toNat Q.toNat i)) ∧ Beh w P Q G H a n cap w') := fun wx hb => C1.out i wx (by omega) hb
      generalize hcn : cnt P.toNat Q.toNat i = m at *
      clear hcn
      cases he : elm P.toNat Q.toNat i
      · rw [he] at CI HS
        go_wp2_with (go_at_call 7; refine (CI.out _ (by first | exact HB.out | exact HD.out _ HB.out)).mono ?_; rintro e w3 ⟨rfl, hb3⟩)
        go_roundw
        case rel => exact ⟨i + 1, by rw [HS.out]; rfl, by go_num, by omega, hb3⟩
        case measure => simp [intOf]; omega
      · rw [he] at CI HS
        go_wp2_with (go_at_call 7; refine (CI.out _ (by first | exact HB.out | exact HD.out _ HB.out)).mono ?_; rintro e w3 ⟨rfl, hb3⟩)
        go_roundw
        case rel => exact ⟨i + 1, by rw [HS.out]; go_num, by go_num, by omega, hb3⟩
        case measure => simp [intOf]; omega
    · have he : i = p := by omega
      subst he
      rw [HC.out]
      obtain ⟨d0, d1, d2, d3, d4⟩ := HF.out _ HB.out
      have hlt' : ¬ (i : Int) < P := by have := HPQ.out.1; omega
      have HB' : Hid (Beh w P Q G H a n cap (wr.alloc (.map #[] 0))) := HB.out.then ((Old.refl _).alloc _)
      obtain ⟨e0, e1, e2, e3, e4⟩ := HF.out _ HB'.out
      have HM : Hid ((wr.alloc (.map #[] 0)).ownsMap (H := Unit) Try.prog 22 (plainElem Try.prog 4) wr.heap.size 0 (gset P Q G 0)) := by rw [gset_zero]; exact World.ownsMap_made _ _ _ _
      have HZ : Hid (w.heap.size < wr.heap.size) := HB.out.size
      go_upto_region 14 with fail
      clear d0 d1 d2 d3 d4 e0 e1 e2 e3 e4 HB
      generalize wr.heap.size = b at *
      go_loopw [36] (fun iv wx => ∃ k : Nat, iv = .int .u64 (k : Int) ∧ k ≤ q ∧ Hid (Beh w P Q G H a n cap wx) ∧ Hid (wx.ownsMap (H := Unit) Try.prog 22 (plainElem Try.prog 4) b k (gset P Q G k))) (fun iv _ => q - (intOf iv).toNat)
      case atStart => exact ⟨0, rfl, Nat.zero_le _, HB', HM⟩
      case round =>
        obtain ⟨k, rfl, hk, HB, HM⟩ := hrel
        obtain ⟨d0, d1, d2, d3, d4⟩ := HF.out _ HB.out
        by_cases hlt : k < q
        · have hlt' : (k : Int) < Q := by have := HPQ.out.2; omega
          have CE : Hid (Calls Try.prog 8 #[gv P Q G H a n cap, .int .u64 G, .int .u64 (k : Int)] wr fun e w' => e = .returned (.int .u64 (expI P Q G (k : Int))) ∧ Old wr w') := C2.out k wr (by omega) HB.out
          have HS : Hid (gset P Q G (k + 1) = (gset P Q G k).put (.int .u64 (expI P Q G (k : Int))) (.lit (.bool true))) := gset_succ P Q G k
          have HK : Hid (keyOf Try.prog 22 (.int .u64 (expI P Q G (k : Int))) = some (.int .u64 (expI P Q G (k : Int)))) := keyOf_int_mk Try.underlying22 (WalkArith.wf_u64 (by have := expI_bd P Q G k; omega))
          generalize expI P Q G (k : Int) = z at *
          go_wp2_with (first
            | (go_at_call 8; refine CE.out.mono ?_; rintro e w3 ⟨rfl, ho3⟩; have HM3 : Hid (w3.ownsMap (H := Unit) Try.prog 22 (plainElem Try.prog 4) b k (gset P Q G k)) := owns_old HM.out ho3)
            | (at_mapUpdate; refine wpList_mapUpdate_own _ rfl _ _ _ 29 rfl 22 4 law22 Try.underlying29 (plainElem (H := Unit) Try.prog 4) b k _ rfl HM3.out (by unfold maxLen; omega) _ _ _ rfl rfl HK.out _ [] (plainElem_bool Try.underlying4 true) ?_; intro w4 hown4 hgrow4)
            | go_in)
          go_roundw
          case rel => exact ⟨k + 1, by go_num, by omega, (HB.out.then ho3).grown hgrow4 HZ.out, by rw [HS.out]; exact hown4⟩
          case measure => simp [intOf]; omega
        · have he : k = q := by omega
          subst he
          have hlt' : ¬ (k : Int) < Q := by have := HPQ.out.2; omega
          have hkq : ((k : Int) == Q) = true := by have := HPQ.out.2; simp [this]
          have hlen : ∀ ty, (Builtin.len_ #[29] ty #[.map (some b)]).run Try.prog wr = .ok (.int .i64 (k : Int)) wr := fun ty => by
            have := HM.out.len Try.underlying29 ty
            rwa [gset_size HQ.out k (by have := HPQ.out.2; omega)] at this
          go_wp2_with fail
          go_ret
          exact ⟨rfl, HO.out _ HB.out⟩

end Go.Proofs.Ytljfjjfckepkdad
