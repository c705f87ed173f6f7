/-
  What the proof needs, part 6.
-/
import Derived.Test.YtlnmjbbpenhdbaaGreatKp05
namespace Go.Proofs.YtlnmjbbpenhdbaaGreat
open Tryz
open Tryz renaming underlying5 → U5, underlying9 → U9, underlying152 → U152
set_option linter.unusedSimpArgs false
set_option linter.unusedVariables false
set_option maxRecDepth 100000
set_option maxHeartbeats 32000000
section
open Go.RowKit
theorem came_drew {W : World} {size : Nat} {ao : OA} {b off len cap : Nat} {olds : List Value} (h : Came W size ao b off len cap olds) : Came W.drew size ao b off len cap olds := ⟨h.le, h.addr, h.lt, h.oldsLen, h.olds, h.spare⟩
def shaW (w : World) (t : TypeId) : World := (w.alloc (.cells (hList.map (Value.int .u32)).toArray t)).alloc (.cells (kList.map (Value.int .u32)).toArray t)
theorem list_row (l : List Int) (i : Nat) (hi : i < (l.map (Value.int .u32)).toArray.size) : (l.map (Value.int .u32)).toArray[i]? = some (.int .u32 (l.getD i 0)) := by
 have hi' : i < l.length := by simpa using hi
 simp [List.getD, hi']
theorem shaW_size (w : World) (t : TypeId) : (shaW w t).heap.size = w.heap.size + 1 + 1 := by simp [shaW]
theorem shaW_h (w : World) (t : TypeId) : (shaW w t).rowIs w.heap.size t 8 (fun i => .int .u32 (hS i)) := (World.rowIs_alloc w _ t _ (list_row hList)).alloc _
theorem shaW_k (w : World) (t : TypeId) : (shaW w t).rowIs (w.heap.size + 1) t 64 (fun i => .int .u32 (kS i)) := by
 have h := World.rowIs_alloc (w.alloc (.cells (hList.map (Value.int .u32)).toArray t)) _ t _ (list_row kList)
 have e : (w.alloc (.cells (hList.map (Value.int .u32)).toArray t)).heap.size = w.heap.size + 1 := by simp
 rw [e] at h
 exact h
theorem shaW_old (w : World) (t : TypeId) : Old w (shaW w t) := ((Old.refl w).alloc _).alloc _
theorem str_one (s : ByteArray) : zax (s ++ ⟨#[128]⟩) = zax s ++ [128] := by
 simp [zax]
theorem size_one (s : ByteArray) : (s ++ ⟨#[128]⟩ : ByteArray).size = s.size + 1 := by
 rw [ByteArray.size_append]
 rfl
theorem sum_start (w : World) (s : ByteArray) (t u : TypeId) (hs : s.size <= 1000000) (cap : Nat) (hc : cap = grownCap (shaW w t) (s.size + 1) 0 u) :
  cap <= maxLen /\ Came (((shaW w t).alloc (.cells (bytesRow (s ++ ⟨#[128]⟩) cap) u ((bytesRow (s ++ ⟨#[128]⟩) cap).size, (bytesRow (s ++ ⟨#[128]⟩) cap).size + 1))).drew) 1 (some ⟨w.heap.size + 1 + 1, 0, none⟩) (w.heap.size + 1 + 1) 0 (s.size + 1) cap ((zax s ++ [128]).map (Value.int .u8)) /\
  (((shaW w t).alloc (.cells (bytesRow (s ++ ⟨#[128]⟩) cap) u ((bytesRow (s ++ ⟨#[128]⟩) cap).size, (bytesRow (s ++ ⟨#[128]⟩) cap).size + 1))).drew).rowIs w.heap.size t 8 (fun i => .int .u32 (hS i)) /\
  (((shaW w t).alloc (.cells (bytesRow (s ++ ⟨#[128]⟩) cap) u ((bytesRow (s ++ ⟨#[128]⟩) cap).size, (bytesRow (s ++ ⟨#[128]⟩) cap).size + 1))).drew).rowIs (w.heap.size + 1) t 64 (fun i => .int .u32 (kS i)) /\
  Old w (((shaW w t).alloc (.cells (bytesRow (s ++ ⟨#[128]⟩) cap) u ((bytesRow (s ++ ⟨#[128]⟩) cap).size, (bytesRow (s ++ ⟨#[128]⟩) cap).size + 1))).drew) := by
 have h1 := grownCap_ge (shaW w t) (s.size + 1) 0 u
 have h2 := grownCap_le_maxLen (shaW w t) (s.size + 1) 0 u (by unfold maxLen; omega)
 rw [<- hc] at h1 h2
 have c := came_bytes (shaW w t) (s ++ ⟨#[128]⟩) u cap (by rw [size_one]; exact h1)
 rw [shaW_size, size_one, str_one] at c
 exact ⟨h2, came_drew c, ((shaW_h w t).alloc _).drew, ((shaW_k w t).alloc _).drew, ((shaW_old w t).alloc _).drew⟩
theorem zeros_hit (n : Nat) : (n + 1 + zeros n) % 64 = 56 := by unfold zeros; omega
theorem zeros_miss {n m : Nat} (h : m < zeros n) : (n + 1 + m) % 64 ≠ 56 := by unfold zeros at h; omega
theorem zdi (n : Nat) : zeros n < 64 := by unfold zeros; omega
def lenV : Value -> Nat
 | .slice _ n _ => n
 | _ => 0
theorem rep_succ (m : Nat) : List.replicate m (Value.int .u8 0) ++ [.int .u8 0] = List.replicate (m + 1) (Value.int .u8 0) := by
 rw [List.replicate_succ']
theorem upon_below {W w w' : World} {e : TypeId} {size : Nat} {ao : OA} {b off len cap : Nat} {olds : List Value} {v : Value} {m : Nat} {ks : List Value} {r : Nat} (h : Upon W e size ao b off len cap olds w v m ks r) (hc : Came W size ao b off len cap olds) (hb : Below w.heap.size w w') : Upon W e size ao b off len cap olds w' v m ks r :=
 h.carry hc hb.os hb.output (fun i hi => hb.block i (Nat.lt_of_lt_of_le hi h.kept.size)) (fun g _ hg => hb.block g hg)
theorem src_nums {P : Program} {tx : TypeId} (hk : P.underlying tx = some .string) (xs : List Int) (h : Bts xs) (n : Nat) (hn : xs.length = n) (w : World) : Src P 1 tx (.string (strOfNums xs)) n (xs.map (Value.int .u8)) w := by
 have := Src.ofString w hk (strOfNums xs)
 rw [strOfNums_size, zeL, nums_str h, hn] at this
 exact this
theorem upon_done {W w : World} {e : TypeId} {b len cap : Nat} {olds : List Value} {v : Value} {m : Nat} {ks : List Value} {r : Nat} (h : Upon W e 1 (some ⟨b, 0, none⟩) b 0 len cap olds w v m ks r) (hc : Came W 1 (some ⟨b, 0, none⟩) b 0 len cap olds) (_hp : 0 < m) :
  ∃ g c', v = .slice (some ⟨g, 0, none⟩) (len + m) c' /\ (g = b ∨ W.heap.size <= g) /\ ∀ j, j < len + m -> w.cell? ⟨g, j, none⟩ = (olds ++ ks)[j]? := by
 rcases h.val with ⟨h1, rfl, h3⟩ | ⟨h1, g, c', rfl, ho⟩
 ·refine ⟨b, cap, rfl, Or.inl rfl, fun j hj => ?_⟩
  have := h.inArray hc (by omega) h3 j (by omega)
  rwa [Nat.zero_add] at this
 ·exact ⟨g, c', rfl, Or.inr ho.new, fun j hj => ho.holds j (by omega)⟩
theorem pad_cells (xs : List Int) : ((xs ++ [128]).map (Value.int .u8)) ++ (List.replicate (zeros xs.length) (Value.int .u8 0) ++ (zap (xs.length * 8) 8).map (Value.int .u8)) = (padL xs).map (Value.int .u8) := by
 simp [padL]
theorem pad_len (xs : List Int) : (padL xs).length = xs.length + 1 + (zeros xs.length + 8) := by
 simp [padL, zal]
 omega
theorem zcs (n : Nat) : n + 1 + (zeros n + 8) = 64 * za3 n := by
 unfold za3 zeros
 omega
theorem pad_bd {xs : List Int} (h : Bts xs) : Bts (padL xs) := by
 intro x hx
 simp only [padL, List.mem_append, List.mem_singleton, List.mem_replicate] at hx
 rcases hx with ((hx | rfl) | ⟨_, rfl⟩) | hx
 ·exact h x hx
 ·omega
 ·omega
 ·exact zbt _ _ x hx
theorem zco {xs : List Int} (h : Bts xs) (i : Nat) : 0 <= xs.getD i 0 /\ xs.getD i 0 <= 255 := by
 by_cases hi : i < xs.length
 ·have e : xs.getD i 0 = xs[i] := by simp [List.getD, hi]
  rw [e]
  exact h _ (List.getElem_mem hi)
 ·have e : xs.getD i 0 = 0 := by
   rw [List.getD, List.getElem?_eq_none (by omega)]
   rfl
  rw [e]
  omega
theorem laid_of {w W wx : World} {e t : TypeId} {cap : Nat} {s : ByteArray} {v : Value} {r : Nat} (hc : Came W 1 (some ⟨w.heap.size + 1 + 1, 0, none⟩) (w.heap.size + 1 + 1) 0 (s.size + 1) cap ((zax s ++ [128]).map (Value.int .u8)))
  (hx : W.rowIs w.heap.size t 8 (fun i => .int .u32 (hS i)) /\ W.rowIs (w.heap.size + 1) t 64 (fun i => .int .u32 (kS i)) /\ Old w W)
  (hu : Upon W e 1 (some ⟨w.heap.size + 1 + 1, 0, none⟩) (w.heap.size + 1 + 1) 0 (s.size + 1) cap ((zax s ++ [128]).map (Value.int .u8)) wx v (zeros s.size + 8) (List.replicate (zeros s.size) (Value.int .u8 0) ++ (zap (s.size * 8) 8).map (Value.int .u8)) r) :
  Laid w wx t (fun i => (padL (zax s)).getD i 0) (64 * za3 s.size) v hS := by
 have hp := pad_cells (zax s)
 rw [zcq] at hp
 obtain ⟨g, c', hv, hg, hcell⟩ := upon_done hu hc (by omega)
 rw [hp] at hcell
 refine ⟨⟨g, c', ?_, ?_, fun j hj => ?_⟩, row_upon hu hx.1 (by omega), row_upon hu hx.2.1 (by omega), hx.2.2.upon (by omega) hu⟩
 ·rw [hv, zcs]
 ·have := hx.2.1.lt
  omega
 ·have hj' : j < s.size + 1 + (zeros s.size + 8) := by rw [zcs]; exact hj
  have hl : j < (padL (zax s)).length := by rw [pad_len, zcq]; exact hj'
  rw [hcell j hj']
  simp [List.getD, hl]
theorem hS_bd (i : Nat) : 0 <= hS i /\ hS i <= 4294967295 := by
 have : ∀ x ∈ hList, 0 <= x /\ x <= 4294967295 := by decide
 unfold hS
 by_cases hi : i < hList.length
 ·have e : hList.getD i 0 = hList[i] := by simp [List.getD, hi]
  rw [e]
  exact this _ (List.getElem_mem hi)
 ·have e : hList.getD i 0 = 0 := by
   rw [List.getD, List.getElem?_eq_none (by omega)]
   rfl
  rw [e]
  omega
theorem state_bd (B : NI) (c i : Nat) : 0 <= state B c i /\ state B c i <= 4294967295 := by
 cases c with
 | zero => exact hS_bd i
 | succ c =>
  show 0 <= add32 _ _ /\ add32 _ _ <= _
  unfold add32
  omega
theorem zdV (h : NI) : ∀ i, (outL h i).length = 4 * i
 | 0 => rfl
 | i + 1 => by
  show (outL h i ++ zap (h i) 4).length = _
  rw [List.length_append, zdV h i, zal]
  omega
theorem zdd (i : Nat) : Value.int .i64 ((i : Int) + 1) = .int .i64 ((i + 1 : Nat) : Int) := by
 rw [Int.natCast_add]
 rfl
theorem sum_any (s : ByteArray) (w : World) (hs : s.size <= 1000000) :
  Calls prog 149 #[.string s] w fun e w' => e = .returned (.string (strOfNums (sumL (zax s)))) /\ Old w w' := by
 have hcv := fun wx => run_bytes_of_string (P := prog) wx 9 152 5 (s ++ ⟨#[128]⟩) U9 U152 U5
 go_enter func149, ntmps149
 go_upto_region 3 with (go_at_call 158; refine (ks_any _).mono ?_; rintro e w' ⟨rfl, rfl⟩)
 go_cut [5] (fun bv wx => ∃ cap : Nat, bv = .slice (some ⟨w.heap.size + 1 + 1, 0, none⟩) (s.size + 1) cap /\ cap <= maxLen /\ Came wx 1 (some ⟨w.heap.size + 1 + 1, 0, none⟩) (w.heap.size + 1 + 1) 0 (s.size + 1) cap ((zax s ++ [128]).map (Value.int .u8)) /\ wx.rowIs w.heap.size 163 8 (fun i => .int .u32 (hS i)) /\ wx.rowIs (w.heap.size + 1) 163 64 (fun i => .int .u32 (kS i)) /\ Old w wx)
 case first =>
  go_wp2_with fail
  go_meet
  case rel => exact ⟨_, rfl, sum_start w s 163 5 hs _ rfl⟩
 obtain ⟨cap, rfl, hcap, hcame, hh, hk, hold⟩ := hcut
 clear hcv
 obtain ⟨W0, hW0⟩ : ∃ x, x = wc := ⟨_, rfl⟩
 subst hW0
 have HC := hid hcame
 have HX : Hid (W0.rowIs w.heap.size 163 8 (fun i => .int .u32 (hS i)) /\ W0.rowIs (w.heap.size + 1) 163 64 (fun i => .int .u32 (kS i)) /\ Old w W0) := ⟨hh, hk, hold⟩
 clear hcame hh hk hold
 obtain ⟨i0, hi, hz0, hz1, hz2⟩ := info_parts zeP
 go_upto_block 0 with fail
 go_cut [5] (fun bv wx => ∃ r : Nat, Upon W0 5 1 (some ⟨w.heap.size + 1 + 1, 0, none⟩) (w.heap.size + 1 + 1) 0 (s.size + 1) cap ((zax s ++ [128]).map (Value.int .u8)) wx bv (zeros s.size) (List.replicate (zeros s.size) (Value.int .u8 0)) r)
 case first =>
  go_wp2_with fail
  go_loopw [5] (fun bv wx => ∃ m r : Nat, m <= zeros s.size /\ Upon W0 5 1 (some ⟨w.heap.size + 1 + 1, 0, none⟩) (w.heap.size + 1 + 1) 0 (s.size + 1) cap ((zax s ++ [128]).map (Value.int .u8)) wx bv m (List.replicate m (Value.int .u8 0)) r) (fun bv _ => s.size + 1 + zeros s.size - lenV bv)
  case atStart => exact ⟨0, 0, Nat.zero_le _, Upon.start HC.out⟩
  case round =>
   obtain ⟨m, r, hm, hu⟩ := hrel
   have HU := hid hu
   obtain ⟨a', c', rfl⟩ := hu.shape
   clear hu
   have hz := zdi s.size
   by_cases hlt : m < zeros s.size
   ·have hne := zeros_miss hlt
    go_wp2_with (at_builtin; refine wpList_append_upon _ rfl (.tmp 30) (.tmp 31) 152 152 rfl HC.out i0 (.int .u8 0) 1 U152 hi hz0 hz1 hz2 rfl rfl (HU.out.alloc HC.out _) _ 1 [.int .u8 0] rfl (Src.ofSlice _ U152 ⟨wr.heap.size, 0, none⟩ 1 1 [.int .u8 0] rfl (cell_one_new _ _ _) (by intro u hu; simp at hu; subst hu; rfl)) (by unfold maxLen; omega) (by omega) ?_; intro v' w1 hu1)
    obtain ⟨a1, c1, rfl⟩ := hu1.shape
    rw [rep_succ] at hu1
    go_wp2_with fail
    go_roundw
    case rel => exact ⟨m + 1, _, by omega, hu1⟩
    case measure => simp [lenV]; omega
   ·have he : m = zeros s.size := by omega
    have hit := zeros_hit s.size
    rw [<- he] at hit
    go_wp2_with fail
    go_meet
    case rel => exact ⟨r, he ▸ HU.out⟩
 obtain ⟨r, hu⟩ := hcut
 have HU := hid hu
 clear hu
 have hz := zdi s.size
 go_upto_region 6 with fail
 go_cut [5] (fun bv wx => Laid w wx 163 (fun i => (padL (zax s)).getD i 0) (64 * za3 s.size) bv hS)
 case first =>
  go_wp2_with (first
   | (go_at_call 148; refine (zcn _ 8 _ (by omega) (by omega) (by omega) (by omega)).mono ?_; rintro e w' ⟨rfl, hb⟩)
   | (at_builtin; refine wpList_append_upon _ rfl (.tmp 33) (.tmp 38) 152 9 rfl HC.out i0 (.int .u8 0) 1 U152 hi hz0 hz1 hz2 rfl rfl (upon_below HU.out HC.out hb) _ 8 _ rfl (src_nums U9 _ (zbt _ _) 8 (zal _ _) _) (by unfold maxLen; omega) (by omega) ?_; intro v' w1 hu1))
  go_meet
  case rel => exact laid_of HC.out HX.out hu1
 have HS : Hid (sumL (zax s) = outL (state (fun i => (padL (zax s)).getD i 0) (za3 s.size)) 8) := by unfold Hid sumL; rw [zcq]
 have HB : Hid (∀ i, 0 <= (fun i => (padL (zax s)).getD i 0) i /\ (fun i => (padL (zax s)).getD i 0) i <= 255) := zco (pad_bd (numsOf_bd s))
 have hP : za3 s.size <= 20000 := by have := zcs s.size; omega
 clear HU HC HX hi hz0 hz1 hz2
 generalize (fun i => (padL (zax s)).getD i 0) = B at *
 generalize za3 s.size = P at *
 obtain ⟨⟨g, bc, rfl, hg, hcell⟩, hh, hk, hold⟩ := hcut
 have HL : Hid (Laid w wc 163 B (64 * P) (.slice (some ⟨g, 0, none⟩) (64 * P) bc) hS) := ⟨⟨g, bc, rfl, hg, hcell⟩, hh, hk, hold⟩
 clear hcell hh hk hold hg
 go_upto_block 2 with fail
 refine pieces_loop w _ B P g bc _ _ _ _ _ _ _ _ _ _ _ _ _ _ _ _ _ _ _ _ _ _ _ _ _ _ _ _ _ _ _ _ _ _ _ _ _ _ _ _ _ _ _ _ _ _ _ _ _ _ _ _ _ _ _ _ _ _ _ _ _ _ _ _ _ _ _ _ _ _ _ _ _ _ _ _ _ _ _ _ _ _ _ _ _ _ _ _ _ _ _ _ _ _ _ _ _ _ _ _ _ _ _ _ _ _ _ _ _ _ _ _ _ _ _ _ _ _ _ _ _ _ _ _ _ _ _ _ _ _ _ _ _ _ _ _ _ _ _ _ _ _ _ _ _ _ _ _ _ _ _ _ _ _ _ _ _ _ _ _ _ _ _ _ _ _ _ _ _ _ _ _ _ _ _ _ _ _ _ _ _ _ _ _ _ _ _ _ _ _ _ _ _ _ _ _ _ _ _ _ _ _ _ _ _ _ _ _ _ _ _ _ _ _ _ _ _ _ _ _ _ _ _ _ _ _ _ _ _ _ _ _ _ _ _ _ _ _ _ _ _ _ _ _ _ _ _ _ _ _ _ _ _ _ _ _ _ _ _ _ _ _ _ _ hP HB.out HL.out ?_
 intro u6 u7 u8 u9 u10 u11 u12 u13 u14 u15 u16 u17 u18 u40 u41 u42 u43 u44 u45 u46 u47 u48 u49 u50 u51 u52 u53 u54 u55 u56 u57 u58 u59 u60 u61 u62 u63 u64 u65 u66 u67 u68 u69 u70 u71 u72 u73 u74 u75 u76 u77 u78 u79 u80 u81 u82 u83 u84 u85 u86 u87 u88 u89 u90 u91 u92 u93 u94 u95 u96 u97 u98 u99 u100 u101 u102 u103 u104 u105 u106 u107 u108 u109 u110 u111 u112 u113 u114 u115 u116 u117 u118 u119 u120 u121 u122 u123 u124 u125 u126 u127 u128 u129 u130 u131 u132 u133 u134 u135 u136 u137 u138 u139 u140 u141 u142 u143 u144 u145 u146 u147 u148 u149 u150 u151 u152 u153 u154 u155 u156 u157 u158 u159 u160 u161 u162 u163 u164 u165 u166 u167 u168 u169 u170 u171 u172 u173 u174 u175 u176 u177 u178 u179 u180 u181 u182 u183 u184 u185 u186 u187 u188 u189 u190 u191 u192 u193 u194 u195 u196 u197 u198 u199 u200 u201 u202 u203 u204 u205 u206 u207 u208 u209 u210 u211 u212 u213 u214 u215 u216 u217 u218 u219 u220 u221 u222 u223 u224 u225 u226 u227 u228 u229 u230 u231 u232 u233 u234 u235 u236 u237 u238 u239 u240 u241 u242 u243 u244 u245 u246 u247 u248 u249 u250 u251 u252 u253 u254 w1 hl
 have H1 : Hid (Old w w1 /\ w1.rowIs w.heap.size 163 8 (fun i => .int .u32 (state B P i))) := ⟨hl.old, hl.hrow⟩
 have HE := hid (state_bd B P)
 clear hl HL HB
 generalize state B P = h at *
 dsimp only
 go_wp2_with fail
 go_loopw [19, 20] (fun ov iv wx => ∃ i : Nat, iv = .int .i64 (i : Int) /\ i <= 8 /\ ov = .string (strOfNums (outL h i)) /\ Hid (Old w wx /\ wx.rowIs w.heap.size 163 8 (fun i => .int .u32 (h i)))) (fun _ iv _ => 8 - (intOf iv).toNat)
 case atStart => exact ⟨0, rfl, Nat.zero_le _, rfl, H1⟩
 case round =>
  obtain ⟨i, rfl, hi, rfl, HR⟩ := hrel
  by_cases hlt : i < 8
  ·have ci := HR.out.2.cell hlt
   obtain ⟨e0, e1⟩ := HE.out i
   have z1 : (strOfNums (outL h i)).size = 4 * i := by rw [strOfNums_size, zdV]
   have z2 : (strOfNums (zap (h i) 4)).size = 4 := by rw [strOfNums_size, zal]
   go_wp2_with (go_at_call 148; refine (zcn _ 4 _ (by omega) (by omega) (by omega) (by omega)).mono ?_; rintro e w' ⟨rfl, hb⟩)
   go_roundw
   case rel => exact ⟨i + 1, zdd i, by omega, congrArg Value.string (zc0 _ _), HR.out.1.trans (Old.ofBelow hb), (Old.ofBelow hb).row HR.out.2⟩
   case measure => simp [intOf]; omega
  ·have he : i = 8 := by omega
   subst he
   go_wp2_with fail
   go_ret
   exact ⟨by rw [HS.out]; rfl, HR.out.1⟩
theorem zdv {xs ys : List Int} (hx : Bts xs) (hy : Bts ys) : Bts (xs ++ ys) := by
 intro x h
 rcases List.mem_append.1 h with h | h
 ·exact hx x h
 ·exact hy x h
theorem outL_bd (h : NI) : ∀ i, Bts (outL h i)
 | 0 => by intro x hx; cases hx
 | i + 1 => zdv (outL_bd h i) (zbt _ _)
theorem sumL_len (xs : List Int) : (sumL xs).length = 32 := zdV _ 8
theorem sumL_bd (xs : List Int) : Bts (sumL xs) := outL_bd _ 8
theorem sum_list (xs : List Int) (w : World) (h : Bts xs) (hl : xs.length <= 1000000) :
  Calls prog 149 #[.string (strOfNums xs)] w fun e w' => e = .returned (.string (strOfNums (sumL xs))) /\ Old w w' := by
 have := sum_any (strOfNums xs) w (by rw [strOfNums_size]; exact hl)
 rwa [nums_str h] at this
theorem str_index {k : List Int} (h : Bts k) {i : Nat} (hi : i < (strOfNums k).size) : (((strOfNums k)[i]'hi).toNat : Int) = k.getD i 0 := by
 have hl : i < k.length := by rw [strOfNums_size] at hi; exact hi
 have e : (strOfNums k)[i]'hi = UInt8.ofNat (k[i]).toNat := by
  show (strOfNums k).data[i] = _
  simp [strOfNums]
 rw [e]
 have hb := h k[i] (List.getElem_mem hl)
 simp [List.getD, hl]
 omega
def StrsIn (w : World) (a : OA) (n : Nat) (S : Nat -> List Int) : Prop :=
 n = 0 ∨ ∃ b off, a = some ⟨b, off, none⟩ /\ b < w.heap.size /\ ∀ i, i < n -> w.cell? ⟨b, off + i, none⟩ = some (.string (strOfNums (S i))) /\ Bts (S i)
theorem StrsIn.old {w w' : World} {a : OA} {n : Nat} {S : Nat -> List Int} (h : StrsIn w a n S) (ho : Old w w') : StrsIn w' a n S := by
 rcases h with h | ⟨b, off, ha, hb, hc⟩
 ·exact Or.inl h
 ·exact Or.inr ⟨b, off, ha, Nat.lt_of_lt_of_le hb ho.size, fun i hi => ⟨ho.cellOf (hc i hi).1, (hc i hi).2⟩⟩
theorem StrsIn.bts {w : World} {a : OA} {n : Nat} {S : Nat -> List Int} (h : StrsIn w a n S) {i : Nat} (hi : i < n) : Bts (S i) := by
 rcases h with h | ⟨b, off, ha, hb, hc⟩
 ·omega
 ·exact (hc i hi).2
def numL (label : List Int) (S : Nat -> List Int) : Nat -> List Int
 | 0 => zap label.length 8 ++ label
 | i + 1 => numL label S i ++ (zap (S i).length 8 ++ S i)
def numF (h : NI) (q : Int) : Nat -> Int
 | 0 => 0
 | i + 1 => addI (mulI (numF h q i) 256 q) (h i) q
def zaj (label : List Int) (S : Nat -> List Int) (n : Nat) (q : Int) : Int := if okM q then numF (fun i => (sumL (numL label S n)).getD i 0) q 16 else 0
theorem numF_bd (h : NI) (q : Int) (i : Nat) : 0 <= numF h q i /\ numF h q i <= 4611686018427387903 := by
 cases i with
 | zero =>
  show (0 : Int) <= 0 /\ (0 : Int) <= 4611686018427387903
  omega
 | succ i => exact zbZ _ _ _
theorem zbm (label : List Int) (S : Nat -> List Int) (i : Nat) : (numL label S (i + 1)).length = (numL label S i).length + 8 + (S i).length := by
 show (numL label S i ++ (zap (S i).length 8 ++ S i)).length = _
 rw [List.length_append, List.length_append, zal]
 omega
theorem zcf (label : List Int) (S : Nat -> List Int) {i : Nat} : ∀ n, i <= n -> (numL label S i).length <= (numL label S n).length
 | 0, h => by
  obtain rfl : i = 0 := by omega
  exact Nat.le_refl _
 | n + 1, h => by
  by_cases he : i = n + 1
  ·rw [he]; exact Nat.le_refl _
  ·have := zcf label S (i := i) n (by omega)
   rw [zbm]
   omega
theorem numL_bd {label : List Int} {S : Nat -> List Int} (hl : Bts label) : ∀ n, (∀ i, i < n -> Bts (S i)) -> Bts (numL label S n)
 | 0, _ => zdv (zbt _ _) hl
 | n + 1, h => zdv (numL_bd hl n fun i hi => h i (by omega)) (zdv (zbt _ _) (h n (by omega)))
theorem zeO (label : List Int) (a : OA) (n cap : Nat) (S : Nat -> List Int) (q : Int) (w : World) (hl : Bts label) (hin : StrsIn w a n S) (hn : n <= 1000) (hlen : (numL label S n).length <= 1000000) (q0 : 0 <= q) (q1 : q <= 18446744073709551615) :
  Calls prog 132 #[.string (strOfNums label), .slice a n cap, .int .u64 q] w fun e w' => e = .returned (.int .u64 (zaj label S n q)) /\ Old w w' := by
 have HB : Hid (Bts label /\ StrsIn w a n S) := ⟨hl, hin⟩
 clear hl hin
 by_cases h1 : q < 2
 ·have HE : Hid (zaj label S n q = 0) := by unfold Hid zaj; rw [okM_not (Or.inl h1)]; rfl
  go_enter func132, ntmps132
  go_wp2_with fail
  go_ret
  exact ⟨zaH HE.out.symm, Old.refl _⟩
 by_cases h2 : 4611686018427387904 < q
 ·have HE : Hid (zaj label S n q = 0) := by unfold Hid zaj; rw [okM_not (Or.inr h2)]; rfl
  go_enter func132, ntmps132
  go_wp2_with fail
  go_ret
  exact ⟨zaH HE.out.symm, Old.refl _⟩
 have HE : Hid (zaj label S n q = numF (fun i => (sumL (numL label S n)).getD i 0) q 16) := by unfold Hid zaj; rw [zfd (by omega) (by omega)]; rfl
 have hadd : ∀ xs ys : List Int, strOfNums xs ++ strOfNums ys = strOfNums (xs ++ ys) := zc0
 have hsz : ∀ xs : List Int, (strOfNums xs).size = xs.length := strOfNums_size
 have ll : (numL label S 0).length <= 1000000 := Nat.le_trans (zcf label S n (Nat.zero_le _)) hlen
 have ll' : (numL label S 0).length = 8 + label.length := by show (zap label.length 8 ++ label).length = _; rw [List.length_append, zal]
 rw [ll'] at ll
 clear ll'
 have z8 := zal (label.length : Int) 8
 go_enter func132, ntmps132
 go_wp2_with (go_at_call 148; refine (zcn _ 8 _ (by omega) (by omega) (by omega) (by omega)).mono ?_; rintro e w1 ⟨rfl, hb1⟩)
 go_loopw [7, 8] (fun sv iv wx => ∃ i : Nat, iv = .int .i64 (i : Int) /\ i <= n /\ sv = .string (strOfNums (numL label S i)) /\ Old w wx) (fun _ iv _ => n - (intOf iv).toNat)
 case atStart => exact ⟨0, rfl, Nat.zero_le _, rfl, Old.ofBelow hb1⟩
 case round =>
  obtain ⟨i, rfl, hi, rfl, hold⟩ := hrel
  have HO : Hid (Old w wr) := hold
  clear hold
  by_cases hlt : i < n
  ·have hm := zcf label S n (show i + 1 <= n by omega)
   rw [zbm] at hm
   rcases HB.out.2.old HO.out with h0 | ⟨b, off, rfl, hb, hr⟩
   ·omega
   have cp := (hr i hlt).1
   clear hr
   have zi := zal ((S i).length : Int) 8
   have ii : (i : Int) < (n : Int) := by omega
   have i0 : (0 : Int) <= (i : Int) := by omega
   have lb1 : (numL label S i).length + 8 <= 9223372036854775807 := by omega
   have lb2 : (numL label S i).length + 8 + (S i).length <= 9223372036854775807 := by omega
   have lb3 : ¬ 9223372036854775807 < (numL label S i).length + 8 := by omega
   have lb4 : ¬ 9223372036854775807 < (numL label S i).length + 8 + (S i).length := by omega
   have lb5 : (numL label S i).length <= 9223372036854775799 := by omega
   have lb6 : ¬ 9223372036854775799 < (numL label S i).length := by omega
   have hw : IntKind.u64.wrap ((S i).length : Int) = ((S i).length : Int) := by rw [IntKind.wrap_u64]; omega
   have n0 : (0 : Int) <= ((S i).length : Int) := by omega
   have n1 : ((S i).length : Int) <= 18446744073709551615 := by omega
   go_wp2_with fail
   go_region_held3 (fun w' => w'.cell? ⟨b, off + i, none⟩ = some (.string (strOfNums (S i)))) (first | go_keep | exact (Old.ofBelow (by assumption)).cellOf (by assumption)) (first | (go_at_call 148; refine (zcn _ 8 _ n0 n1 (by decide) (by decide)).mono ?_; rintro e w2 ⟨rfl, hb2⟩))
   go_wp2_with fail
   go_roundw
   case rel => exact ⟨i + 1, zdd i, by omega, rfl, HO.out.trans ((Old.refl _).drew.trans (Old.ofBelow hb2))⟩
   case measure => simp [intOf]; omega
  ·have he : i = n := by omega
   subst he
   go_wp2_with (go_at_call 149; refine (sum_list _ _ (numL_bd HB.out.1 _ fun j hj => HB.out.2.bts hj) (by omega)).mono ?_; rintro e w2 ⟨rfl, ho2⟩)
   have HT : Hid (Old w w2) := HO.out.trans ho2
   clear ho2
   have HG : Hid (Bts (sumL (numL label S i)) /\ (sumL (numL label S i)).length = 32) := ⟨sumL_bd _, sumL_len _⟩
   generalize sumL (numL label S i) = h at *
   have zh := HG.out.2
   go_loopw [10, 11] (fun nv iv wx => ∃ j : Nat, iv = .int .i64 (j : Int) /\ j <= 16 /\ nv = .int .u64 (numF (fun i => h.getD i 0) q j) /\ Old w wx) (fun _ iv _ => 16 - (intOf iv).toNat)
   case atStart => exact ⟨0, rfl, Nat.zero_le _, rfl, HT.out⟩
   case round =>
    obtain ⟨j, rfl, hj, rfl, hold⟩ := hrel
    have HO2 : Hid (Old w wr) := hold
    clear hold
    by_cases hj16 : j < 16
    ·have hix := str_index HG.out.1 (i := j) (by rw [strOfNums_size, zh]; omega)
     obtain ⟨e0, e1⟩ := zco HG.out.1 j
     obtain ⟨g0, g1⟩ := numF_bd (fun i => h.getD i 0) q j
     obtain ⟨m0, m1⟩ := mulI_bd (numF (fun i => h.getD i 0) q j) 256 q
     have HF : Hid (numF (fun i => h.getD i 0) q (j + 1) = addI (mulI (numF (fun i => h.getD i 0) q j) 256 q) (h.getD j 0) q) := rfl
     generalize numF (fun i => h.getD i 0) q j = x at *
     have jj : (j : Int) < 32 := by omega
     have j0 : (0 : Int) <= (j : Int) := by omega
     generalize h.getD j 0 = y at hix e0 e1 HF
     have hw : IntKind.u64.wrap y = y := by rw [IntKind.wrap_u64]; omega
     go_wp2_with fail
     go_quiet (first
      | (go_at_call 70; exact Calls.quiet_of (zbo _ _ _ _ g0 (by omega) (by omega) (by omega)))
      | (go_at_call 77; exact Calls.quiet_of (zdR _ _ _ _ m0 (by omega) (by omega) (by omega))))
     go_wp2_with fail
     go_roundw
     case rel => exact ⟨j + 1, zdd j, by omega, by rw [HF.out], HO2.out.drewN _⟩
     case measure => simp [intOf]; omega
    ·have he : j = 16 := by omega
     subst he
     go_wp2_with fail
     go_ret
     exact ⟨zaH HE.out.symm, HO2.out⟩
theorem strinfo : (prog.info? 9).map (fun i => (i.zero, i.size, i.bytes)) = some (some (.string ⟨#[]⟩), 1, 16) := by kernel_rfl
def zah (S : Nat -> List Int) (n : Nat) : List Value := (List.range n).map fun i => .string (strOfNums (S i))
theorem zbC (S : Nat -> List Int) (n : Nat) : zah S (n + 1) = zah S n ++ [.string (strOfNums (S n))] := by simp [zah, List.range_succ]
theorem zbr {w w' : World} {base : Nat} {e : TypeId} {size : Nat} {v : Value} {n : Nat} {xs : List Value} (h : w.ownsRow base e size v n xs) (ho : Old w w') : w'.ownsRow base e size v n xs := by
 refine ⟨h.1, ?_⟩
 rcases h.2 with h2 | ⟨g, cap, cur, hv, hg, hh, r⟩
 ·exact Or.inl h2
 ·refine Or.inr ⟨g, cap, cur, hv, hg, ?_, r⟩
  rw [ho.block g ?_]
  ·exact hh
  ·refine Classical.byContradiction fun hc => ?_
   have : w.heap[g]? = none := by simp; omega
   rw [this] at hh
   cases hh
theorem own_strs {w : World} {base : Nat} {e : TypeId} {v : Value} {n : Nat} {S : Nat -> List Int} (h : w.ownsRow base e 1 v n (zah S n)) (hb : ∀ i, i < n -> Bts (S i)) : ∃ a cap, v = .slice a n cap /\ n <= cap /\ StrsIn w a n S := by
 by_cases hn : n = 0
 ·subst hn
  rcases h.2 with ⟨rfl, _⟩ | ⟨g, cap, cur, rfl, _, _, hc, _⟩
  ·exact ⟨none, 0, rfl, Nat.le_refl _, Or.inl rfl⟩
  ·exact ⟨_, cap, rfl, hc, Or.inl rfl⟩
 ·obtain ⟨g, cap, rfl, _, hlt, hc, hcell⟩ := own_cells h (by omega)
  refine ⟨_, cap, rfl, hc, Or.inr ⟨g, 0, rfl, hlt, fun i hi => ⟨?_, hb i hi⟩⟩⟩
  rw [Nat.zero_add, hcell i hi]
  simp [zah, hi]
theorem zcj {W w w' : World} {e : TypeId} {size : Nat} {v : Value} {n : Nat} {xs : List Value} {o : Obj} (hb : Old W w) (ho : w.ownsRow W.heap.size e size v n xs) (hg : (w.alloc o).grownBy w' v.ownBlock) : Old W w' := by
 have h1 := hb.alloc o
 refine ⟨hg.os.trans h1.os, hg.output.trans h1.output, Nat.le_trans h1.size hg.size, fun k hk => (hg.block k (Nat.lt_of_lt_of_le hk h1.size) fun he => ?_).trans (h1.block k hk)⟩
 have := own_from ho k he.symm
 omega
end
section
open Go Go.RowKit
def wcnt (l : Nat -> Bool) : Nat -> Nat
 | 0 => 0
 | n + 1 => wcnt l n + (if l n then 0 else 1)
def lset (l : Nat -> Bool) (i : Nat) : Nat -> Bool := fun k => l k || k == i
theorem wcnt_same {l m : Nat -> Bool} : ∀ n, (∀ k, k < n -> l k = m k) -> wcnt l n = wcnt m n
 | 0, _ => rfl
 | n + 1, h => by
  show wcnt l n + _ = wcnt m n + _
  rw [wcnt_same n fun k hk => h k (by omega), h n (by omega)]
theorem wcnt_set {l : Nat -> Bool} {i : Nat} (hi : l i = false) : ∀ n, i < n -> wcnt (lset l i) n + 1 = wcnt l n
 | 0, h => by omega
 | n + 1, h => by
  show wcnt (lset l i) n + (if lset l i n then 0 else 1) + 1 = wcnt l n + (if l n then 0 else 1)
  by_cases hin : i = n
  ·subst hin
   rw [wcnt_same (l := lset l i) (m := l) i fun k hk => by simp [lset]; omega, hi]
   simp [lset]
  ·have := wcnt_set hi n (by omega)
   have e : lset l i n = l n := by simp [lset]; omega
   rw [e]
   omega
theorem wcnt_none {l : Nat -> Bool} : ∀ n, wcnt l n = 0 -> ∀ k, k < n -> l k = true
 | 0, _, k, hk => by omega
 | n + 1, h, k, hk => by
  have h' : wcnt l n + (if l n then 0 else 1) = 0 := h
  by_cases hkn : k = n
  ·subst hkn
   cases hl : l k
   ·rw [hl] at h'; simp at h'
   ·rfl
  ·exact wcnt_none n (by omega) k (by omega)
theorem wcnt_le (l : Nat -> Bool) : ∀ n, wcnt l n <= n
 | 0 => Nat.le_refl _
 | n + 1 => by
  show wcnt l n + (if l n then 0 else 1) <= n + 1
  have := wcnt_le l n
  split <;> omega
def backB (md : Region.Mode) (ops : Array Oper) : Bool := (List.range ops.size).all fun i => match ops[i]? with
 | some o => o.after.all fun e => !Region.binds md e || decide (e.on < i)
 | none => true
theorem zcC {md : Region.Mode} {ops : Array Oper} (h : backB md ops = true) {i : Nat} {o : Oper} (ho : ops[i]? = some o) : ∀ e ∈ o.after, Region.binds md e = true -> e.on < i := by
 have hi := (Array.getElem?_eq_some_iff.1 ho).1
 have h1 := List.all_eq_true.1 h i (List.mem_range.2 hi)
 rw [ho] at h1
 intro e he hb
 have h2 := Array.all_eq_true_iff_forall_mem.1 h1 e he
 rw [hb] at h2
 simpa using h2
section
variable {P : Program} {ops : Array Oper} {Q : Exit -> Act -> World -> Prop} {md : Region.Mode}
theorem least_ready {listed : Array Bool} (hb : backB md ops = true) (hs : listed.size = ops.size) : ∀ i, i < ops.size -> listed.getD i false = false -> Region.ready md ops listed ≠ [] := by
 intro i
 induction i using Nat.strongRecOn with
 | _ i ih =>
  intro hi hl h0
  have ho : ops[i]? = some ops[i] := Array.getElem?_eq_getElem hi
  by_cases hall : ∀ e ∈ ops[i].after, Region.binds md e = true -> listed.getD e.on false = true
  ·have hr : i ∈ Region.ready md ops listed := mem_ready.2 ⟨by simp [hs, hi] at hl ⊢; exact hl, ops[i], ho, hall⟩
   rw [h0] at hr
   cases hr
  ·have : ∃ e, e ∈ ops[i].after /\ Region.binds md e = true /\ listed.getD e.on false = false := by
    refine Classical.byContradiction fun hn => hall fun e he hbd => ?_
    cases hx : listed.getD e.on false
    ·exact absurd ⟨e, he, hbd, hx⟩ hn
    ·rfl
   obtain ⟨e, he, hbd, hx⟩ := this
   have hlt := zcC hb ho e he hbd
   exact ih e.on hlt (by omega) hx h0
theorem zds (J : (Nat -> Bool) -> Act -> World -> Prop) (hb : backB md ops = true)
  (step : ∀ l a w i o, ops[i]? = some o -> l i = false -> (∀ e ∈ o.after, Region.binds md e = true -> l e.on = true) -> J l a w -> wpOp P ops Q i (J (lset l i)) a w)
  (fin : ∀ l a w, (∀ i, i < ops.size -> l i = true) -> J l a w -> Q .normal a w) :
  ∀ (fuel : Nat) (listed : Array Bool) (m : Nat -> Bool) (a : Act) (w : World), listed.size = ops.size -> (∀ k, k < ops.size -> m k = listed.getD k false) -> wcnt m ops.size <= fuel -> J m a w -> wpAny P md ops Q fuel listed a w
 | 0, listed, m, a, w, hs, hag, hc, hJ => by
  have hall := wcnt_none ops.size (by omega : wcnt m ops.size = 0)
  refine ⟨?_, fin _ a w hall hJ⟩
  cases hr : Region.ready md ops listed with
  | nil => rfl
  | cons j _ =>
   have hj : j ∈ Region.ready md ops listed := by rw [hr]; simp
   obtain ⟨h0, o, ho, _⟩ := mem_ready.1 hj
   have hlt : j < ops.size := (Array.getElem?_eq_some_iff.1 ho).1
   have h1 : listed.getD j false = true := by rw [<- hag j hlt]; exact hall j hlt
   simp [hs, hlt] at h0 h1
   rw [h0] at h1
   cases h1
 | fuel + 1, listed, m, a, w, hs, hag, hc, hJ => by
  refine ⟨fun h0 => fin _ a w (fun i hi => ?_) hJ, fun j hj => ?_⟩
  ·cases hx : listed.getD i false
   ·exact absurd h0 (least_ready hb hs i hi hx)
   ·rw [hag i hi, hx]
  ·obtain ⟨h0, o, ho, hall⟩ := mem_ready.1 hj
   have hlt : j < ops.size := (Array.getElem?_eq_some_iff.1 ho).1
   have hf : m j = false := by rw [hag j hlt]; simp [hs, hlt] at h0 ⊢; exact h0
   have hagree : ∀ k, k < ops.size -> lset m j k = (listed.setIfInBounds j true).getD k false := fun k hk => by
    by_cases hjk : j = k
    ·subst hjk
     simp [lset, hs, hk]
    ·rw [getD_set_ne false hjk, <- hag k hk]
     have : (k == j) = false := by simp; omega
     simp [lset, this]
   refine wpOp_mono (fun a' w' h => ?_) (step m a w j o ho hf (fun e he hbd => by have := zcC hb ho e he hbd; rw [hag e.on (by omega)]; exact hall e he hbd) hJ)
   refine zds J hb step fin fuel (listed.setIfInBounds j true) (lset m j) a' w' (by simp [hs]) hagree ?_ h
   have := wcnt_set (l := m) (i := j) hf ops.size hlt
   omega
def stepsOk (p : Nat -> Oper -> Prop) : Nat -> List Oper -> Prop
 | _, [] => True
 | i, o :: r => p i o /\ stepsOk p (i + 1) r
end
def sinkAt (ops : Array Oper) (n : Nat) : Bool := (List.range n).all fun i => (List.range (n + 1)).any fun j => decide (i < j) && match ops[j]? with
 | some o => o.after.any fun e => Region.binds .any e && e.on == i
 | none => false
theorem sinkAt_spec {ops : Array Oper} {n : Nat} (h : sinkAt ops n = true) {i : Nat} (hi : i < n) : ∃ j oj, i < j /\ j <= n /\ ops[j]? = some oj /\ ∃ e ∈ oj.after, Region.binds .any e = true /\ e.on = i := by
 have h1 := List.all_eq_true.1 h i (List.mem_range.2 hi)
 obtain ⟨j, hj, h2⟩ := List.any_eq_true.1 h1
 simp only [Bool.and_eq_true, decide_eq_true_eq] at h2
 obtain ⟨h3, h4⟩ := h2
 cases ho : ops[j]? with
 | none => rw [ho] at h4; cases h4
 | some oj =>
  rw [ho] at h4
  obtain ⟨e, he, hb⟩ := Array.any_eq_true'.1 h4
  simp only [Bool.and_eq_true, beq_iff_eq] at hb
  exact ⟨j, oj, h3, by have := List.mem_range.1 hj; omega, ho, e, he, hb.1, hb.2⟩
def zef (ops : Array Oper) (l : Nat -> Bool) : Prop := ∀ j oj, ops[j]? = some oj -> l j = true -> ∀ e ∈ oj.after, Region.binds .any e = true -> l e.on = true
theorem zeG {ops : Array Oper} {l : Nat -> Bool} {i : Nat} {o : Oper} (h : zef ops l) (ho : ops[i]? = some o) (hpre : ∀ e ∈ o.after, Region.binds .any e = true -> l e.on = true) : zef ops (lset l i) := by
 intro j oj hj hl e he hb
 by_cases hij : j = i
 ·subst hij
  cases hj.symm.trans ho
  simp [lset, hpre e he hb]
 ·have : l j = true := by simpa [lset, hij] using hl
  simp [lset, h j oj hj this e he hb]
theorem sink_all {ops : Array Oper} {n : Nat} {l : Nat -> Bool} {o : Oper} (hs : sinkAt ops n = true) (hc : zef ops l) (ho : ops[n]? = some o) (hpre : ∀ e ∈ o.after, Region.binds .any e = true -> l e.on = true) : ∀ (d i : Nat), n - i = d -> i < n -> l i = true := by
 intro d
 induction d using Nat.strongRecOn with
 | _ d ih =>
  intro i hd hi
  obtain ⟨j, oj, h1, h2, hj, e, he, hb, hon⟩ := sinkAt_spec hs hi
  rw [<- hon]
  by_cases hjn : j = n
  ·subst hjn
   cases hj.symm.trans ho
   exact hpre e he hb
  ·exact hc j oj hj (ih (n - j) (by omega) j rfl (by omega)) e he hb
end
section
open Go.RowKit
def Rws (w : World) (base : Nat) (v : Value) (nb : Nat) (L : Nat -> Nat) (B : NN) : Prop :=
 ∃ (BA : Nat -> Option Addr) (C : Nat -> Nat), w.ownsRow base 29 1 v nb ((List.range nb).map fun j => Value.slice (BA j) (L j) (C j)) /\ ∀ j, j < nb -> Nums w base (.slice (BA j) (L j) (C j)) (L j) (B j)
theorem Rws.mono {w : World} {base base' nb : Nat} {v : Value} {L : Nat -> Nat} {B : NN} (h : Rws w base v nb L B) (hb : base' <= base) : Rws w base' v nb L B := by
 obtain ⟨BA, C, h1, h2⟩ := h
 exact ⟨BA, C, h1.mono hb, fun j hj => (h2 j hj).mono hb⟩
theorem Rws.below {w : World} {base nb : Nat} {v : Value} {L : Nat -> Nat} {B : NN} (h : Rws w base v nb L B) {p : Addr} (hp : p.block < base) (u : Value) : Rws (w.setCell p u) base v nb L B := by
 obtain ⟨BA, C, h1, h2⟩ := h
 exact ⟨BA, C, ownsRow_setCell_below h1 hp u, fun j hj => ownsRow_setCell_below (h2 j hj) hp u⟩
theorem Rws.lists {w : World} {base nb : Nat} {v : Value} {L : Nat -> Nat} {B : NN} (h : Rws w base v nb L B) (hB : ∀ j, j < nb -> ∀ i, i < L j -> U64 (B j i)) :
  ∃ (b : OA) (c : Nat) (BA : Nat -> Option Addr) (C : Nat -> Nat), v = .slice b nb c /\ nb <= c /\ c <= 9223372036854775807 /\ ListsIn w b nb BA L C B := by
 obtain ⟨BA, C, h1, h2⟩ := h
 have h1' := h1
 rcases h1.2 with ⟨rfl, rfl⟩ | ⟨g, cap, cur, rfl, hb, hg, hc, hm, _⟩
 ·exact ⟨none, 0, BA, C, rfl, Nat.le_refl _, by omega, Or.inl rfl⟩
 ·refine ⟨some ⟨g, 0, none⟩, cap, BA, C, rfl, hc, by unfold maxLen at hm; omega, Or.inr ⟨g, 0, rfl, (Array.getElem?_eq_some_iff.1 hg).1, fun j hj => ?_⟩⟩
  obtain ⟨_, _, e, q1, q2, hf⟩ := (h2 j hj).facs2 (hB j hj)
  cases e
  refine ⟨?_, q1, q2, hf⟩
  rw [Nat.zero_add, World.ownsRow.cellAt h1' j (by omega)]
  simp [List.getElem?_map, List.getElem?_range hj]
theorem zbG (w : World) (base n : Nat) (cs : List Value) (F : NI) (hb : base <= w.heap.size) (hn : n <= 1000) (h : cs = (List.range n).map fun i => Value.int .u64 (F i)) : Nums (w.alloc (.cells cs.toArray 22)) base (.slice (some ⟨w.heap.size, 0, none⟩) n n) n F := by
 have := World.ownsRow_lit (base := base) (e := 22) (size := 1) w cs.toArray n hb (by unfold maxLen; omega) (by subst h; simp)
 unfold Nums
 rw [<- h]
 simpa using this
def GivesC (w : World) (nt : Nat) (T : NI) (nb : Nat) (L : Nat -> Nat) (B : NN) (r : Ending) (w' : World) : Prop :=
 Old w w' /\ ∃ v u, r = .returned (.agg #[v, u]) /\ Nums w' w.heap.size v nt T /\ Rws w' w.heap.size u nb L B
def MadeIn (w : World) (nt : Nat) (T : NI) (nb : Nat) (L : Nat -> Nat) (B : NN) (r : Ending) (w' : World) : Prop :=
 ∃ bt ct bb cb BA C, r = .returned (cv bt nt ct bb nb cb) /\ Old w w' /\ ClaimIn w' bt nt ct T bb nb cb BA L C B
def two7 (x y : Int) : Nat -> Int | 0 => x | _ => y
def tri7 (x y z : Int) : Nat -> Int | 0 => x | 1 => y | _ => z
theorem u64_two {x y : Int} (hx : U64 x) (hy : U64 y) : ∀ j, U64 (two7 x y j)
 | 0 => hx
 | _ + 1 => hy
end
end Go.Proofs.YtlnmjbbpenhdbaaGreat
