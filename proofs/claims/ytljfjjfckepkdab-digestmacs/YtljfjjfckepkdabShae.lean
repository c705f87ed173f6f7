/-
  SHA-256 reckoned on natural numbers, step by step: the same as the plain functions.
-/
import Derived.Test.YtljfjjfckepkdabMac
import Derived.Laws.BitsAllLaws
namespace Go.Proofs.Ytljfjjfckepkdab

def kN : List Nat := kList.map Int.toNat
def rotN (x n : Nat) : Nat := (x >>> n) ||| (x <<< (32 - n) % 4294967296)
def low0N (x : Nat) : Nat := (rotN x 7 ^^^ rotN x 18) ^^^ (x >>> 3)
def low1N (x : Nat) : Nat := (rotN x 17 ^^^ rotN x 19) ^^^ (x >>> 10)
def big1N (x : Nat) : Nat := (rotN x 6 ^^^ rotN x 11) ^^^ rotN x 25
def big0N (x : Nat) : Nat := (rotN x 2 ^^^ rotN x 13) ^^^ rotN x 22
def pickN (e f g : Nat) : Nat := (e &&& f) ||| ((4294967295 ^^^ e) &&& g)
def mostN (a b c : Nat) : Nat := ((a &&& b) ||| (a &&& c)) ||| (b &&& c)
/-- The rounds with these numbers K: sixteen words and eight numbers go along. -/
def runN : List Nat → (w0 w1 w2 w3 w4 w5 w6 w7 w8 w9 w10 w11 w12 w13 w14 w15 : Nat) → (a b c d e f g h : Nat) → List Nat
  | [], _, _, _, _, _, _, _, _, _, _, _, _, _, _, _, _, a, b, c, d, e, f, g, h => [a, b, c, d, e, f, g, h]
  | k :: ks, w0, w1, w2, w3, w4, w5, w6, w7, w8, w9, w10, w11, w12, w13, w14, w15, a, b, c, d, e, f, g, h =>
    runN ks w1 w2 w3 w4 w5 w6 w7 w8 w9 w10 w11 w12 w13 w14 w15 ((w0 + low0N w1 + w9 + low1N w14) % 4294967296)
      ((h + big1N e + pickN e f g + k + w0 + (big0N a + mostN a b c)) % 4294967296) a b c ((d + (h + big1N e + pickN e f g + k + w0)) % 4294967296) e f g

/-- A number of 32 bits. -/
abbrev U32 (n : Nat) : Prop := n < 4294967296

theorem or_nat {a b : Nat} (ha : U32 a) (hb : U32 b) : or32 (a : Int) (b : Int) = ((a ||| b : Nat) : Int) := u32_or_nat a b ha hb
theorem xor_nat {a b : Nat} (ha : U32 a) (hb : U32 b) : xor32 (a : Int) (b : Int) = ((a ^^^ b : Nat) : Int) := u32_xor_nat a b ha hb
theorem and_nat {a b : Nat} (ha : U32 a) (hb : U32 b) : and32 (a : Int) (b : Int) = ((a &&& b : Nat) : Int) := u32_and_nat a b ha hb
theorem not_nat {a : Nat} (ha : U32 a) : not32 (a : Int) = ((4294967295 ^^^ a : Nat) : Int) := u32_xor_nat 4294967295 a (by omega) ha
theorem or_lt {a b : Nat} (ha : U32 a) (hb : U32 b) : U32 (a ||| b) := Nat.or_lt_two_pow (n := 32) ha hb
theorem xor_lt {a b : Nat} (ha : U32 a) (hb : U32 b) : U32 (a ^^^ b) := Nat.xor_lt_two_pow (n := 32) ha hb
theorem and_lt {a b : Nat} (ha : U32 a) : U32 (a &&& b) := Nat.lt_of_le_of_lt Nat.and_le_left ha
theorem shr_lt {a : Nat} (n : Nat) (ha : U32 a) : U32 (a >>> n) := by
  rw [Nat.shiftRight_eq_div_pow]
  exact Nat.lt_of_le_of_lt (Nat.div_le_self _ _) ha

theorem rotN_lt {x n : Nat} (hx : U32 x) : U32 (rotN x n) := or_lt (shr_lt n hx) (Nat.mod_lt _ (by omega))
theorem rot_nat {x : Nat} (n : Nat) (hx : U32 x) : rot (x : Int) n = (rotN x n : Int) := by
  unfold rot rotN
  have e1 : (x : Int) / 2 ^ n = ((x >>> n : Nat) : Int) := by
    rw [Nat.shiftRight_eq_div_pow, Int.natCast_ediv, Int.natCast_pow]
    rfl
  have e2 : (x : Int) * 2 ^ (32 - n) % 4294967296 = ((x <<< (32 - n) % 4294967296 : Nat) : Int) := by
    rw [Nat.shiftLeft_eq, Int.natCast_emod, Int.natCast_mul, Int.natCast_pow]
    rfl
  rw [e1, e2]
  exact or_nat (shr_lt n hx) (Nat.mod_lt _ (by omega))
theorem low0_nat {x : Nat} (hx : U32 x) : low0 (x : Int) = (low0N x : Int) ∧ U32 (low0N x) := by
  unfold low0 low0N
  have e : (x : Int) / (8 : Int) = ((x >>> 3 : Nat) : Int) := by
    rw [Nat.shiftRight_eq_div_pow]
    omega
  rw [rot_nat _ hx, rot_nat _ hx, e, xor_nat (rotN_lt hx) (rotN_lt hx), xor_nat (xor_lt (rotN_lt hx) (rotN_lt hx)) (shr_lt 3 hx)]
  exact ⟨rfl, xor_lt (xor_lt (rotN_lt hx) (rotN_lt hx)) (shr_lt 3 hx)⟩
theorem low1_nat {x : Nat} (hx : U32 x) : low1 (x : Int) = (low1N x : Int) ∧ U32 (low1N x) := by
  unfold low1 low1N
  have e : (x : Int) / (1024 : Int) = ((x >>> 10 : Nat) : Int) := by
    rw [Nat.shiftRight_eq_div_pow]
    omega
  rw [rot_nat _ hx, rot_nat _ hx, e, xor_nat (rotN_lt hx) (rotN_lt hx), xor_nat (xor_lt (rotN_lt hx) (rotN_lt hx)) (shr_lt 10 hx)]
  exact ⟨rfl, xor_lt (xor_lt (rotN_lt hx) (rotN_lt hx)) (shr_lt 10 hx)⟩
theorem big1_nat {x : Nat} (hx : U32 x) : big1 (x : Int) = (big1N x : Int) := by
  unfold big1 big1N
  rw [rot_nat _ hx, rot_nat _ hx, rot_nat _ hx, xor_nat (rotN_lt hx) (rotN_lt hx), xor_nat (xor_lt (rotN_lt hx) (rotN_lt hx)) (rotN_lt hx)]
theorem big0_nat {x : Nat} (hx : U32 x) : big0 (x : Int) = (big0N x : Int) := by
  unfold big0 big0N
  rw [rot_nat _ hx, rot_nat _ hx, rot_nat _ hx, xor_nat (rotN_lt hx) (rotN_lt hx), xor_nat (xor_lt (rotN_lt hx) (rotN_lt hx)) (rotN_lt hx)]
theorem pick_nat {e f g : Nat} (he : U32 e) (hf : U32 f) (hg : U32 g) : pick (e : Int) f g = (pickN e f g : Int) := by
  unfold pick pickN
  have hn : U32 (4294967295 ^^^ e) := xor_lt (by show 4294967295 < 4294967296; omega) he
  rw [not_nat he, and_nat he hf, and_nat hn hg, or_nat (and_lt he) (and_lt hn)]
theorem most_nat {a b c : Nat} (ha : U32 a) (hb : U32 b) (hc : U32 c) : most (a : Int) b c = (mostN a b c : Int) := by
  unfold most mostN
  rw [and_nat ha hb, and_nat ha hc, and_nat hb hc, or_nat (and_lt ha) (and_lt ha), or_nat (or_lt (and_lt ha) (and_lt ha)) (and_lt hb)]

/-! ### the words -/
/-- The word at place j, with no end. -/
def wI (B : Nat → Int) (j : Nat) : Int := sched B (j + 1) j
theorem sched_is (B : Nat → Int) {j : Nat} : ∀ T, j < T → sched B T j = wI B j
  | 0, h => by omega
  | T + 1, h => by
    by_cases he : j = T
    · subst he; rfl
    · show (if j = T then word B (sched B T) T else sched B T j) = _
      rw [if_neg he]
      exact sched_is B T (by omega)
theorem wI_low (B : Nat → Int) {t : Nat} (h : t < 16) : wI B t = four (B (4 * t)) (B (4 * t + 1)) (B (4 * t + 2)) (B (4 * t + 3)) := by
  show (if t = t then word B (sched B t) t else sched B t t) = _
  rw [if_pos rfl, word_low h]
theorem wI_high (B : Nat → Int) (t : Nat) : wI B (t + 16) = add32 (add32 (add32 (wI B t) (low0 (wI B (t + 1)))) (wI B (t + 9))) (low1 (wI B (t + 14))) := by
  show (if t + 16 = t + 16 then word B (sched B (t + 16)) (t + 16) else sched B (t + 16) (t + 16)) = _
  rw [if_pos rfl, word_high (by omega), show t + 16 - 16 = t by omega, show t + 16 - 15 = t + 1 by omega, show t + 16 - 7 = t + 9 by omega, show t + 16 - 2 = t + 14 by omega,
    sched_is B (t + 16) (by omega), sched_is B (t + 16) (by omega), sched_is B (t + 16) (by omega), sched_is B (t + 16) (by omega)]

theorem add_nat (a b : Nat) : add32 (a : Int) (b : Int) = (((a + b) % 4294967296 : Nat) : Int) := by
  unfold add32
  omega
theorem m_lt (a : Nat) : U32 (a % 4294967296) := Nat.mod_lt _ (by omega)
theorem add_five (a b c d e : Nat) : add32 (add32 (add32 (add32 (a : Int) b) c) d) e = (((a + b + c + d + e) % 4294967296 : Nat) : Int) := by
  unfold add32
  omega

/-- Where the numbers on both sides are the same, the rounds to come make the same. -/
theorem run_is (B : Nat → Int) (v : Nat → Int) (W : Nat → Nat) (hW : ∀ j, wI B j = (W j : Int) ∧ U32 (W j)) : ∀ (n t : Nat) (a b c d e f g h : Nat), t + n = 64 →
    (rounds (wI B) t v 0 = (a : Int) ∧ U32 a) → (rounds (wI B) t v 1 = (b : Int) ∧ U32 b) → (rounds (wI B) t v 2 = (c : Int) ∧ U32 c) → (rounds (wI B) t v 3 = (d : Int) ∧ U32 d) →
    (rounds (wI B) t v 4 = (e : Int) ∧ U32 e) → (rounds (wI B) t v 5 = (f : Int) ∧ U32 f) → (rounds (wI B) t v 6 = (g : Int) ∧ U32 g) → (rounds (wI B) t v 7 = (h : Int) ∧ U32 h) →
    ∀ i, i < 8 → rounds (wI B) 64 v i = (((runN (kN.drop t) (W t) (W (t + 1)) (W (t + 2)) (W (t + 3)) (W (t + 4)) (W (t + 5)) (W (t + 6)) (W (t + 7)) (W (t + 8)) (W (t + 9)) (W (t + 10)) (W (t + 11)) (W (t + 12)) (W (t + 13)) (W (t + 14)) (W (t + 15)) a b c d e f g h).getD i 0 : Nat) : Int)
  | 0, t, a, b, c, d, e, f, g, h, ht, h0, h1, h2, h3, h4, h5, h6, h7, i, hi => by
    obtain rfl : t = 64 := by omega
    have hd : kN.drop 64 = [] := by decide
    rw [hd]
    match i, hi with
    | 0, _ => exact h0.1
    | 1, _ => exact h1.1
    | 2, _ => exact h2.1
    | 3, _ => exact h3.1
    | 4, _ => exact h4.1
    | 5, _ => exact h5.1
    | 6, _ => exact h6.1
    | 7, _ => exact h7.1
  | n + 1, t, a, b, c, d, e, f, g, h, ht, h0, h1, h2, h3, h4, h5, h6, h7, i, hi => by
    have hk : kN.drop t = kN.getD t 0 :: kN.drop (t + 1) := by
      have hl : t < kN.length := by
        have : kN.length = 64 := by decide
        omega
      rw [List.drop_eq_getElem_cons hl]
      simp [List.getD, hl]
    have hkS : kS t = (kN.getD t 0 : Int) := by
      have hall : ∀ t, t < 64 → kS t = (kN.getD t 0 : Int) := by decide
      exact hall t (by omega)
    have hone : one32 (rounds (wI B) t v) (kS t) (wI B t) = (((h + big1N e + pickN e f g + kN.getD t 0 + W t) % 4294967296 : Nat) : Int) := by
      unfold one32
      rw [h4.1, h5.1, h6.1, h7.1, big1_nat h4.2, pick_nat h4.2 h5.2 h6.2, hkS, (hW t).1]
      exact add_five _ _ _ _ _
    have htwo : two32 (rounds (wI B) t v) = (((big0N a + mostN a b c) % 4294967296 : Nat) : Int) := by
      unfold two32
      rw [h0.1, h1.1, h2.1, big0_nat h0.2, most_nat h0.2 h1.2 h2.2]
      exact add_nat _ _
    have r0 : rounds (wI B) (t + 1) v 0 = (((h + big1N e + pickN e f g + kN.getD t 0 + W t + (big0N a + mostN a b c)) % 4294967296 : Nat) : Int) := by
      show add32 (one32 (rounds (wI B) t v) (kS t) (wI B t)) (two32 (rounds (wI B) t v)) = _
      rw [hone, htwo, add_nat, ← Nat.add_mod]
    have r4 : rounds (wI B) (t + 1) v 4 = (((d + (h + big1N e + pickN e f g + kN.getD t 0 + W t)) % 4294967296 : Nat) : Int) := by
      show add32 (rounds (wI B) t v 3) (one32 (rounds (wI B) t v) (kS t) (wI B t)) = _
      rw [hone, h3.1, add_nat]
      omega
    have w16 : W (t + 16) = (W t + low0N (W (t + 1)) + W (t + 9) + low1N (W (t + 14))) % 4294967296 := by
      have e1 := wI_high B t
      rw [(hW (t + 16)).1, (hW t).1, (hW (t + 1)).1, (hW (t + 9)).1, (hW (t + 14)).1, (low0_nat (hW (t + 1)).2).1, (low1_nat (hW (t + 14)).2).1] at e1
      unfold add32 at e1
      omega
    rw [hk]
    have ih := run_is B v W hW n (t + 1) _ a b c _ e f g (by omega) ⟨r0, m_lt _⟩ ⟨h0.1, h0.2⟩ ⟨h1.1, h1.2⟩ ⟨h2.1, h2.2⟩ ⟨r4, m_lt _⟩ ⟨h4.1, h4.2⟩ ⟨h5.1, h5.2⟩ ⟨h6.1, h6.2⟩ i hi
    rw [ih]
    show _ = (((runN (kN.drop (t + 1)) (W (t + 1)) (W (t + 2)) (W (t + 3)) (W (t + 4)) (W (t + 5)) (W (t + 6)) (W (t + 7)) (W (t + 8)) (W (t + 9)) (W (t + 10)) (W (t + 11)) (W (t + 12)) (W (t + 13)) (W (t + 14)) (W (t + 15)) ((W t + low0N (W (t + 1)) + W (t + 9) + low1N (W (t + 14))) % 4294967296) _ a b c _ e f g).getD i 0 : Nat) : Int)
    rw [← w16]

/-! ### the pieces -/
def fourN (a b c d : Nat) : Nat := ((a * 16777216 ||| b * 65536) ||| c * 256) ||| d
set_option maxRecDepth 10000 in
theorem four_nat {a b c d : Nat} (ha : a ≤ 255) (hb : b ≤ 255) (hc : c ≤ 255) (hd : d ≤ 255) : four (a : Int) b c d = (fourN a b c d : Int) ∧ U32 (fourN a b c d) := by
  have h1 : a * 16777216 < 4294967296 := Nat.lt_of_le_of_lt (Nat.mul_le_mul_right _ ha) (by decide)
  have h2 : b * 65536 < 4294967296 := Nat.lt_of_le_of_lt (Nat.mul_le_mul_right _ hb) (by decide)
  have h3 : c * 256 < 4294967296 := Nat.lt_of_le_of_lt (Nat.mul_le_mul_right _ hc) (by decide)
  have h4 : d < 4294967296 := by omega
  have e1 : (a : Int) * 16777216 = ((a * 16777216 : Nat) : Int) := by omega
  have e2 : (b : Int) * 65536 = ((b * 65536 : Nat) : Int) := by omega
  have e3 : (c : Int) * 256 = ((c * 256 : Nat) : Int) := by omega
  unfold four fourN
  rw [e1, e2, e3, or_nat h1 h2, or_nat (or_lt h1 h2) h3, or_nat (or_lt (or_lt h1 h2) h3) h4]
  exact ⟨rfl, or_lt (or_lt (or_lt h1 h2) h3) h4⟩
theorem wI_bd (B : Nat → Int) (j : Nat) : 0 ≤ wI B j ∧ wI B j < 4294967296 := by
  by_cases h : j < 16
  · rw [wI_low B h]
    unfold four or32
    have h1 := bits_lo_u32 .or (bits .or .u32 (bits .or .u32 (B (4 * j) * 16777216) (B (4 * j + 1) * 65536)) (B (4 * j + 2) * 256)) (B (4 * j + 3))
    have h2 := bits_hi_u32 .or (bits .or .u32 (bits .or .u32 (B (4 * j) * 16777216) (B (4 * j + 1) * 65536)) (B (4 * j + 2) * 256)) (B (4 * j + 3))
    omega
  · obtain ⟨t, rfl⟩ : ∃ t, j = t + 16 := ⟨j - 16, by omega⟩
    rw [wI_high]
    unfold add32
    omega

/-- The words of piece c at place j. -/
def wordN (bs : Nat → Nat) (c j : Nat) : Nat := fourN (bs (64 * c + 4 * j)) (bs (64 * c + 4 * j + 1)) (bs (64 * c + 4 * j + 2)) (bs (64 * c + 4 * j + 3))
def pieceN (bs : Nat → Nat) (c : Nat) : List Nat → List Nat
  | [a, b, cc, d, e, f, g, h] => List.zipWith (fun x y => (x + y) % 4294967296) [a, b, cc, d, e, f, g, h]
      (runN kN (wordN bs c 0) (wordN bs c 1) (wordN bs c 2) (wordN bs c 3) (wordN bs c 4) (wordN bs c 5) (wordN bs c 6) (wordN bs c 7) (wordN bs c 8) (wordN bs c 9) (wordN bs c 10) (wordN bs c 11) (wordN bs c 12) (wordN bs c 13) (wordN bs c 14) (wordN bs c 15) a b cc d e f g h)
  | _ => []
def stN (bs : Nat → Nat) : Nat → List Nat
  | 0 => hList.map Int.toNat
  | c + 1 => pieceN bs c (stN bs c)

theorem runN_len : ∀ (ks : List Nat) (w0 w1 w2 w3 w4 w5 w6 w7 w8 w9 w10 w11 w12 w13 w14 w15 a b c d e f g h : Nat), (runN ks w0 w1 w2 w3 w4 w5 w6 w7 w8 w9 w10 w11 w12 w13 w14 w15 a b c d e f g h).length = 8
  | [], _, _, _, _, _, _, _, _, _, _, _, _, _, _, _, _, _, _, _, _, _, _, _, _ => rfl
  | _ :: ks, _, _, _, _, _, _, _, _, _, _, _, _, _, _, _, _, _, _, _, _, _, _, _, _ => runN_len ks _ _ _ _ _ _ _ _ _ _ _ _ _ _ _ _ _ _ _ _ _ _ _ _

theorem rounds_eq {W V : Nat → Int} : ∀ (T : Nat) (v : Nat → Int) (i : Nat), (∀ j, j < T → W j = V j) → rounds W T v i = rounds V T v i
  | 0, _, _, _ => rfl
  | T + 1, v, i, h => by
    have e : rounds W T v = rounds V T v := funext fun i => rounds_eq T v i fun j hj => h j (by omega)
    show round32 (rounds W T v) (kS T) (W T) i = round32 (rounds V T v) (kS T) (V T) i
    rw [e, h T (by omega)]

theorem start_is : ∀ i, i < 8 → hS i = (((hList.map Int.toNat).getD i 0 : Nat) : Int) ∧ (hList.map Int.toNat).getD i 0 < 4294967296 := by decide

theorem state_is (bs : Nat → Nat) (hb : ∀ i, bs i ≤ 255) : ∀ c, ∃ a b cc d e f g h : Nat, stN bs c = [a, b, cc, d, e, f, g, h] ∧ ∀ i, i < 8 → state (fun i => (bs i : Int)) c i = (((stN bs c).getD i 0 : Nat) : Int) ∧ U32 ((stN bs c).getD i 0)
  | 0 => ⟨_, _, _, _, _, _, _, _, rfl, start_is⟩
  | c + 1 => by
    obtain ⟨a, b, cc, d, e, f, g, h, hs, hst⟩ := state_is bs hb c
    have s0 := hst 0 (by omega)
    have s1 := hst 1 (by omega)
    have s2 := hst 2 (by omega)
    have s3 := hst 3 (by omega)
    have s4 := hst 4 (by omega)
    have s5 := hst 5 (by omega)
    have s6 := hst 6 (by omega)
    have s7 := hst 7 (by omega)
    rw [hs] at s0 s1 s2 s3 s4 s5 s6 s7
    have hW : ∀ j, wI (fun j => ((bs (64 * c + j) : Nat) : Int)) j = ((wI (fun j => ((bs (64 * c + j) : Nat) : Int)) j).toNat : Int) ∧ U32 (wI (fun j => ((bs (64 * c + j) : Nat) : Int)) j).toNat := fun j => by
      have := wI_bd (fun j => ((bs (64 * c + j) : Nat) : Int)) j
      exact ⟨by omega, by show _ < _; omega⟩
    have hw : ∀ j, j < 16 → (wI (fun j => ((bs (64 * c + j) : Nat) : Int)) j).toNat = wordN bs c j := fun j hj => by
      rw [wI_low _ hj, (four_nat (hb _) (hb _) (hb _) (hb _)).1, Int.toNat_natCast]
      rfl
    have run := run_is (fun j => ((bs (64 * c + j) : Nat) : Int)) (state (fun i => (bs i : Int)) c) _ hW 64 0 a b cc d e f g h rfl s0 s1 s2 s3 s4 s5 s6 s7
    rw [hw 0 (by omega), hw 1 (by omega), hw 2 (by omega), hw 3 (by omega), hw 4 (by omega), hw 5 (by omega), hw 6 (by omega), hw 7 (by omega), hw 8 (by omega), hw 9 (by omega), hw 10 (by omega), hw 11 (by omega), hw 12 (by omega), hw 13 (by omega), hw 14 (by omega), hw 15 (by omega)] at run
    have e1 : stN bs (c + 1) = List.zipWith (fun x y => (x + y) % 4294967296) [a, b, cc, d, e, f, g, h]
        (runN kN (wordN bs c 0) (wordN bs c 1) (wordN bs c 2) (wordN bs c 3) (wordN bs c 4) (wordN bs c 5) (wordN bs c 6) (wordN bs c 7) (wordN bs c 8) (wordN bs c 9) (wordN bs c 10) (wordN bs c 11) (wordN bs c 12) (wordN bs c 13) (wordN bs c 14) (wordN bs c 15) a b cc d e f g h) := by
      show pieceN bs c (stN bs c) = _
      rw [hs]
      rfl
    obtain ⟨r, hr⟩ : ∃ r, r = runN kN (wordN bs c 0) (wordN bs c 1) (wordN bs c 2) (wordN bs c 3) (wordN bs c 4) (wordN bs c 5) (wordN bs c 6) (wordN bs c 7) (wordN bs c 8) (wordN bs c 9) (wordN bs c 10) (wordN bs c 11) (wordN bs c 12) (wordN bs c 13) (wordN bs c 14) (wordN bs c 15) a b cc d e f g h := ⟨_, rfl⟩
    have hl : r.length = 8 := by rw [hr]; exact runN_len _ _ _ _ _ _ _ _ _ _ _ _ _ _ _ _ _ _ _ _ _ _ _ _ _
    rw [← hr] at e1
    have hrun : ∀ i, i < 8 → rounds (sched (fun j => ((bs (64 * c + j) : Nat) : Int)) 64) 64 (state (fun i => (bs i : Int)) c) i = ((r.getD i 0 : Nat) : Int) := fun i hi => by
      rw [rounds_eq 64 _ i (fun j hj => sched_is _ 64 hj), run i hi, hr]
      rfl
    match r, hl with
    | [r0, r1, r2, r3, r4, r5, r6, r7], _ =>
      refine ⟨_, _, _, _, _, _, _, _, e1, fun i hi => ?_⟩
      rw [e1]
      have key : ∀ i, i < 8 → state (fun i => (bs i : Int)) (c + 1) i = add32 (state (fun i => (bs i : Int)) c i) ((([r0, r1, r2, r3, r4, r5, r6, r7] : List Nat).getD i 0 : Nat) : Int) := fun i hi => by
        rw [← hrun i hi]
        rfl
      rw [key i hi]
      match i, hi with
      | 0, _ => exact ⟨by rw [s0.1]; exact add_nat _ _, m_lt _⟩
      | 1, _ => exact ⟨by rw [s1.1]; exact add_nat _ _, m_lt _⟩
      | 2, _ => exact ⟨by rw [s2.1]; exact add_nat _ _, m_lt _⟩
      | 3, _ => exact ⟨by rw [s3.1]; exact add_nat _ _, m_lt _⟩
      | 4, _ => exact ⟨by rw [s4.1]; exact add_nat _ _, m_lt _⟩
      | 5, _ => exact ⟨by rw [s5.1]; exact add_nat _ _, m_lt _⟩
      | 6, _ => exact ⟨by rw [s6.1]; exact add_nat _ _, m_lt _⟩
      | 7, _ => exact ⟨by rw [s7.1]; exact add_nat _ _, m_lt _⟩

/-- SHA-256 by natural numbers. -/
def sumN (xs : List Int) : List Int := outL (fun i => (((stN (fun i => ((padL xs).getD i 0).toNat) (pieces xs.length)).getD i 0 : Nat) : Int)) 8
theorem outL_eq {h h' : Nat → Int} : ∀ n, (∀ i, i < n → h i = h' i) → outL h n = outL h' n
  | 0, _ => rfl
  | n + 1, e => by
    show outL h n ++ bytesL (h n) 4 = outL h' n ++ bytesL (h' n) 4
    rw [outL_eq n fun i hi => e i (by omega), e n (by omega)]
theorem sum_is (xs : List Int) (h : Bts xs) : sumL xs = sumN xs := by
  have hb := fun i => getD_bd (pad_bd h) i
  have e : (fun i => (padL xs).getD i 0) = fun i => ((((padL xs).getD i 0).toNat : Nat) : Int) := funext fun i => by
    have := hb i
    omega
  unfold sumL sumN
  rw [e]
  refine outL_eq 8 fun i hi => ?_
  obtain ⟨_, _, _, _, _, _, _, _, _, hst⟩ := state_is (fun i => ((padL xs).getD i 0).toNat) (fun i => by have := hb i; omega) (pieces xs.length)
  exact (hst i hi).1

theorem sum_abc : sumL [97, 98, 99] = [186, 120, 22, 191, 143, 1, 207, 234, 65, 65, 64, 222, 93, 174, 34, 35, 176, 3, 97, 163, 150, 23, 122, 156, 180, 16, 255, 97, 242, 0, 21, 173] := by
  rw [sum_is _ (by unfold Bts; decide)]
  decide +kernel

end Go.Proofs.Ytljfjjfckepkdab
