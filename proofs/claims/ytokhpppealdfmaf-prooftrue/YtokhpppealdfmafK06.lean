/-
  The contract of the document's Sum (layer 3).
  The contract of the document's Mac (layer 3).
  What the functions of modn answer, as functions of whole numbers, and the arithmetic under their loops.
  The contracts of the document's functions of layer 1 at this seat.
-/
import Derived.Test.YtokhpppealdfmafK05
import Derived.Test.YtokhpppealdfmafProg
import Derived.WalkKit
import Derived.Deep.QuietTactic
import Derived.BigQuiet
import Derived.WalkSmall
namespace Go.Proofs.Ytokhpppealdfmaf
open Go.RowKit

theorem came_drew {W : World} {size : Nat} {ao : Option Addr} {b off len cap : Nat} {olds : List Value} (h : Came W size ao b off len cap olds) : Came W.drew size ao b off len cap olds := ⟨h.le, h.addr, h.lt, h.oldsLen, h.olds, h.spare⟩

/-- The world with the two tables laid. -/
def shaW (w : World) (t : TypeId) : World := (w.alloc (.cells (hList.map (Value.int .u32)).toArray t)).alloc (.cells (kList.map (Value.int .u32)).toArray t)

theorem list_row (l : List Int) (i : Nat) (hi : i < (l.map (Value.int .u32)).toArray.size) : (l.map (Value.int .u32)).toArray[i]? = some (.int .u32 (l.getD i 0)) := by
  have hi' : i < l.length := by simpa using hi
  simp [List.getD, hi']

theorem shaW_size (w : World) (t : TypeId) : (shaW w t).heap.size = w.heap.size + 1 + 1 := by simp [shaW]
theorem shaW_h (w : World) (t : TypeId) : (shaW w t).rowIs w.heap.size t 8 (fun i => .int .u32 (hS i)) := (World.rowIs_alloc w _ t _ (list_row hList)).alloc _
theorem shaW_k (w : World) (t : TypeId) : (shaW w t).rowIs (w.heap.size + 1) t 64 (fun i => .int .u32 (kS i)) := by
  have h := World.rowIs_alloc (w.alloc (.cells (hList.map (Value.int .u32)).toArray t)) _ t _ (list_row kList)
  have e : (w.alloc (.cells (hList.map (Value.int .u32)).toArray t)).heap.size = w.heap.size + 1 := by simp
  rw [e] at h
  exact h
theorem shaW_old (w : World) (t : TypeId) : Old w (shaW w t) := ((Old.refl w).alloc _).alloc _

theorem str_one (s : ByteArray) : numsOf (s ++ ⟨#[128]⟩) = numsOf s ++ [128] := by
  simp [numsOf]
theorem size_one (s : ByteArray) : (s ++ ⟨#[128]⟩ : ByteArray).size = s.size + 1 := by
  rw [ByteArray.size_append]
  rfl

theorem sum_start (w : World) (s : ByteArray) (t u : TypeId) (hs : s.size ≤ 1000000) (cap : Nat) (hc : cap = grownCap (shaW w t) (s.size + 1) 0 u) :
    cap ≤ maxLen ∧ Came (((shaW w t).alloc (.cells (bytesRow (s ++ ⟨#[128]⟩) cap) u ((bytesRow (s ++ ⟨#[128]⟩) cap).size, (bytesRow (s ++ ⟨#[128]⟩) cap).size + 1))).drew) 1 (some ⟨w.heap.size + 1 + 1, 0, none⟩) (w.heap.size + 1 + 1) 0 (s.size + 1) cap ((numsOf s ++ [128]).map (Value.int .u8)) ∧
    (((shaW w t).alloc (.cells (bytesRow (s ++ ⟨#[128]⟩) cap) u ((bytesRow (s ++ ⟨#[128]⟩) cap).size, (bytesRow (s ++ ⟨#[128]⟩) cap).size + 1))).drew).rowIs w.heap.size t 8 (fun i => .int .u32 (hS i)) ∧
    (((shaW w t).alloc (.cells (bytesRow (s ++ ⟨#[128]⟩) cap) u ((bytesRow (s ++ ⟨#[128]⟩) cap).size, (bytesRow (s ++ ⟨#[128]⟩) cap).size + 1))).drew).rowIs (w.heap.size + 1) t 64 (fun i => .int .u32 (kS i)) ∧
    Old w (((shaW w t).alloc (.cells (bytesRow (s ++ ⟨#[128]⟩) cap) u ((bytesRow (s ++ ⟨#[128]⟩) cap).size, (bytesRow (s ++ ⟨#[128]⟩) cap).size + 1))).drew) := by
  have h1 := grownCap_ge (shaW w t) (s.size + 1) 0 u
  have h2 := grownCap_le_maxLen (shaW w t) (s.size + 1) 0 u (by unfold maxLen; omega)
  rw [← hc] at h1 h2
  have c := came_bytes (shaW w t) (s ++ ⟨#[128]⟩) u cap (by rw [size_one]; exact h1)
  rw [shaW_size, size_one, str_one] at c
  exact ⟨h2, came_drew c, ((shaW_h w t).alloc _).drew, ((shaW_k w t).alloc _).drew, ((shaW_old w t).alloc _).drew⟩

theorem zeros_hit (n : Nat) : (n + 1 + zeros n) % 64 = 56 := by unfold zeros; omega
theorem zeros_miss {n m : Nat} (h : m < zeros n) : (n + 1 + m) % 64 ≠ 56 := by unfold zeros at h; omega
theorem zeros_lt (n : Nat) : zeros n < 64 := by unfold zeros; omega
def lenV : Value → Nat
  | .slice _ n _ => n
  | _ => 0
theorem rep_succ (m : Nat) : List.replicate m (Value.int .u8 0) ++ [.int .u8 0] = List.replicate (m + 1) (Value.int .u8 0) := by
  rw [List.replicate_succ']

theorem upon_below {W w w' : World} {e : TypeId} {size : Nat} {ao : Option Addr} {b off len cap : Nat} {olds : List Value} {v : Value} {m : Nat} {ks : List Value} {r : Nat} (h : Upon W e size ao b off len cap olds w v m ks r) (hc : Came W size ao b off len cap olds) (hb : Below w.heap.size w w') : Upon W e size ao b off len cap olds w' v m ks r :=
  h.carry hc hb.os hb.output (fun i hi => hb.block i (Nat.lt_of_lt_of_le hi h.kept.size)) (fun g _ hg => hb.block g hg)

theorem src_nums {P : Program} {tx : TypeId} (hk : P.underlying tx = some .string) (xs : List Int) (h : Bts xs) (n : Nat) (hn : xs.length = n) (w : World) : Src P 1 tx (.string (strOfNums xs)) n (xs.map (Value.int .u8)) w := by
  have := Src.ofString w hk (strOfNums xs)
  rw [strOfNums_size, byteCells_nums, nums_str h, hn] at this
  exact this

/-- Where the elements lie when all is appended. -/
theorem upon_done {W w : World} {e : TypeId} {b len cap : Nat} {olds : List Value} {v : Value} {m : Nat} {ks : List Value} {r : Nat} (h : Upon W e 1 (some ⟨b, 0, none⟩) b 0 len cap olds w v m ks r) (hc : Came W 1 (some ⟨b, 0, none⟩) b 0 len cap olds) (_hp : 0 < m) :
    ∃ g c', v = .slice (some ⟨g, 0, none⟩) (len + m) c' ∧ (g = b ∨ W.heap.size ≤ g) ∧ ∀ j, j < len + m → w.cell? ⟨g, j, none⟩ = (olds ++ ks)[j]? := by
  rcases h.val with ⟨h1, rfl, h3⟩ | ⟨h1, g, c', rfl, ho⟩
  · refine ⟨b, cap, rfl, Or.inl rfl, fun j hj => ?_⟩
    have := h.inArray hc (by omega) h3 j (by omega)
    rwa [Nat.zero_add] at this
  · exact ⟨g, c', rfl, Or.inr ho.new, fun j hj => ho.holds j (by omega)⟩

theorem pad_cells (xs : List Int) : ((xs ++ [128]).map (Value.int .u8)) ++ (List.replicate (zeros xs.length) (Value.int .u8 0) ++ (bytesL (xs.length * 8) 8).map (Value.int .u8)) = (padL xs).map (Value.int .u8) := by
  simp [padL]
theorem pad_len (xs : List Int) : (padL xs).length = xs.length + 1 + (zeros xs.length + 8) := by
  simp [padL, bytesL_len]
  omega
theorem pad_pieces (n : Nat) : n + 1 + (zeros n + 8) = 64 * pieces n := by
  unfold pieces zeros
  omega
theorem pad_bd {xs : List Int} (h : Bts xs) : Bts (padL xs) := by
  intro x hx
  simp only [padL, List.mem_append, List.mem_singleton, List.mem_replicate] at hx
  rcases hx with ((hx | rfl) | ⟨_, rfl⟩) | hx
  · exact h x hx
  · omega
  · omega
  · exact bytesL_bd _ _ x hx
theorem getD_bd {xs : List Int} (h : Bts xs) (i : Nat) : 0 ≤ xs.getD i 0 ∧ xs.getD i 0 ≤ 255 := by
  by_cases hi : i < xs.length
  · have e : xs.getD i 0 = xs[i] := by simp [List.getD, hi]
    rw [e]
    exact h _ (List.getElem_mem hi)
  · have e : xs.getD i 0 = 0 := by
      rw [List.getD, List.getElem?_eq_none (by omega)]
      rfl
    rw [e]
    omega

theorem laid_of {w W wx : World} {e t : TypeId} {cap : Nat} {s : ByteArray} {v : Value} {r : Nat} (hc : Came W 1 (some ⟨w.heap.size + 1 + 1, 0, none⟩) (w.heap.size + 1 + 1) 0 (s.size + 1) cap ((numsOf s ++ [128]).map (Value.int .u8)))
    (hx : W.rowIs w.heap.size t 8 (fun i => .int .u32 (hS i)) ∧ W.rowIs (w.heap.size + 1) t 64 (fun i => .int .u32 (kS i)) ∧ Old w W)
    (hu : Upon W e 1 (some ⟨w.heap.size + 1 + 1, 0, none⟩) (w.heap.size + 1 + 1) 0 (s.size + 1) cap ((numsOf s ++ [128]).map (Value.int .u8)) wx v (zeros s.size + 8) (List.replicate (zeros s.size) (Value.int .u8 0) ++ (bytesL (s.size * 8) 8).map (Value.int .u8)) r) :
    Laid w wx t (fun i => (padL (numsOf s)).getD i 0) (64 * pieces s.size) v hS := by
  have hp := pad_cells (numsOf s)
  rw [numsOf_len] at hp
  obtain ⟨g, c', hv, hg, hcell⟩ := upon_done hu hc (by omega)
  rw [hp] at hcell
  refine ⟨⟨g, c', ?_, ?_, fun j hj => ?_⟩, row_upon hu hx.1 (by omega), row_upon hu hx.2.1 (by omega), hx.2.2.upon (by omega) hu⟩
  · rw [hv, pad_pieces]
  · have := hx.2.1.lt
    omega
  · have hj' : j < s.size + 1 + (zeros s.size + 8) := by rw [pad_pieces]; exact hj
    have hl : j < (padL (numsOf s)).length := by rw [pad_len, numsOf_len]; exact hj'
    rw [hcell j hj']
    simp [List.getD, hl]

theorem hS_bd (i : Nat) : 0 ≤ hS i ∧ hS i ≤ 4294967295 := by
  have : ∀ x ∈ hList, 0 ≤ x ∧ x ≤ 4294967295 := by decide
  unfold hS
  by_cases hi : i < hList.length
  · have e : hList.getD i 0 = hList[i] := by simp [List.getD, hi]
    rw [e]
    exact this _ (List.getElem_mem hi)
  · have e : hList.getD i 0 = 0 := by
      rw [List.getD, List.getElem?_eq_none (by omega)]
      rfl
    rw [e]
    omega
theorem state_bd (B : Nat → Int) (c i : Nat) : 0 ≤ state B c i ∧ state B c i ≤ 4294967295 := by
  cases c with
  | zero => exact hS_bd i
  | succ c =>
    show 0 ≤ add32 _ _ ∧ add32 _ _ ≤ _
    unfold add32
    omega
theorem outL_len (h : Nat → Int) : ∀ i, (outL h i).length = 4 * i
  | 0 => rfl
  | i + 1 => by
    show (outL h i ++ bytesL (h i) 4).length = _
    rw [List.length_append, outL_len h i, bytesL_len]
    omega
theorem idx_up (i : Nat) : Value.int .i64 ((i : Int) + 1) = .int .i64 ((i + 1 : Nat) : Int) := by
  rw [Int.natCast_add]
  rfl

set_option maxRecDepth 100000 in
set_option maxHeartbeats 4000000 in
theorem sum_any (s : ByteArray) (w : World) (hs : s.size ≤ 1000000) :
    Calls Try.prog 93 #[.string s] w fun e w' => e = .returned (.string (strOfNums (sumL (numsOf s)))) ∧ Old w w' := by
  have hcv := fun wx => run_bytes_of_string (P := Try.prog) wx 9 113 5 (s ++ ⟨#[128]⟩) Try.underlying9 Try.underlying113 Try.underlying5
  go_enter Try.func93, Try.ntmps93
  go_upto_region 3 with (go_at_call 102; refine (ks_any _).mono ?_; rintro e w' ⟨rfl, rfl⟩)
  go_cut [5] (fun bv wx => ∃ cap : Nat, bv = .slice (some ⟨w.heap.size + 1 + 1, 0, none⟩) (s.size + 1) cap ∧ cap ≤ maxLen ∧ Came wx 1 (some ⟨w.heap.size + 1 + 1, 0, none⟩) (w.heap.size + 1 + 1) 0 (s.size + 1) cap ((numsOf s ++ [128]).map (Value.int .u8)) ∧ wx.rowIs w.heap.size 124 8 (fun i => .int .u32 (hS i)) ∧ wx.rowIs (w.heap.size + 1) 124 64 (fun i => .int .u32 (kS i)) ∧ Old w wx)
  case first =>
    go_wp2_with fail
    go_meet
    case rel => exact ⟨_, rfl, sum_start w s 124 5 hs _ rfl⟩
  obtain ⟨cap, rfl, hcap, hcame, hh, hk, hold⟩ := hcut
  clear hcv
  obtain ⟨W0, hW0⟩ : ∃ x, x = wc := ⟨_, rfl⟩
  subst hW0
  have HC : Hid (Came W0 1 (some ⟨w.heap.size + 1 + 1, 0, none⟩) (w.heap.size + 1 + 1) 0 (s.size + 1) cap ((numsOf s ++ [128]).map (Value.int .u8))) := hcame
  have HX : Hid (W0.rowIs w.heap.size 124 8 (fun i => .int .u32 (hS i)) ∧ W0.rowIs (w.heap.size + 1) 124 64 (fun i => .int .u32 (kS i)) ∧ Old w W0) := ⟨hh, hk, hold⟩
  clear hcame hh hk hold
  obtain ⟨i0, hi, hz0, hz1, hz2⟩ := info_parts u8info
  go_upto_block 0 with fail
  go_cut [5] (fun bv wx => ∃ r : Nat, Upon W0 5 1 (some ⟨w.heap.size + 1 + 1, 0, none⟩) (w.heap.size + 1 + 1) 0 (s.size + 1) cap ((numsOf s ++ [128]).map (Value.int .u8)) wx bv (zeros s.size) (List.replicate (zeros s.size) (Value.int .u8 0)) r)
  case first =>
    go_wp2_with fail
    go_loopw [5] (fun bv wx => ∃ m r : Nat, m ≤ zeros s.size ∧ Upon W0 5 1 (some ⟨w.heap.size + 1 + 1, 0, none⟩) (w.heap.size + 1 + 1) 0 (s.size + 1) cap ((numsOf s ++ [128]).map (Value.int .u8)) wx bv m (List.replicate m (Value.int .u8 0)) r) (fun bv _ => s.size + 1 + zeros s.size - lenV bv)
    case atStart => exact ⟨0, 0, Nat.zero_le _, Upon.start HC.out⟩
    case round =>
      obtain ⟨m, r, hm, hu⟩ := hrel
      have HU : Hid (Upon W0 5 1 (some ⟨w.heap.size + 1 + 1, 0, none⟩) (w.heap.size + 1 + 1) 0 (s.size + 1) cap ((numsOf s ++ [128]).map (Value.int .u8)) wr u5 m (List.replicate m (Value.int .u8 0)) r) := hu
      obtain ⟨a', c', rfl⟩ := hu.shape
      clear hu
      have hz := zeros_lt s.size
      by_cases hlt : m < zeros s.size
      · have hne := zeros_miss hlt
        go_wp2_with (at_builtin; refine wpList_append_upon _ rfl (.tmp 30) (.tmp 31) 113 113 rfl HC.out i0 (.int .u8 0) 1 Try.underlying113 hi hz0 hz1 hz2 rfl rfl (HU.out.alloc HC.out _) _ 1 [.int .u8 0] rfl (Src.ofSlice _ Try.underlying113 ⟨wr.heap.size, 0, none⟩ 1 1 [.int .u8 0] rfl (cell_one_new _ _ _) (by intro u hu; simp at hu; subst hu; rfl)) (by unfold maxLen; omega) (by omega) ?_; intro v' w1 hu1)
        obtain ⟨a1, c1, rfl⟩ := hu1.shape
        rw [rep_succ] at hu1
        go_wp2_with fail
        go_roundw
        case rel => exact ⟨m + 1, _, by omega, hu1⟩
        case measure => simp [lenV]; omega
      · have he : m = zeros s.size := by omega
        have hit := zeros_hit s.size
        rw [← he] at hit
        go_wp2_with fail
        go_meet
        case rel => exact ⟨r, he ▸ HU.out⟩
  obtain ⟨r, hu⟩ := hcut
  have HU : Hid (Upon W0 5 1 (some ⟨w.heap.size + 1 + 1, 0, none⟩) (w.heap.size + 1 + 1) 0 (s.size + 1) cap ((numsOf s ++ [128]).map (Value.int .u8)) wc u5 (zeros s.size) (List.replicate (zeros s.size) (Value.int .u8 0)) r) := hu
  clear hu
  have hz := zeros_lt s.size
  go_upto_region 6 with fail
  go_cut [5] (fun bv wx => Laid w wx 124 (fun i => (padL (numsOf s)).getD i 0) (64 * pieces s.size) bv hS)
  case first =>
    go_wp2_with (first
      | (go_at_call 92; refine (bytes_any _ 8 _ (by omega) (by omega) (by omega) (by omega)).mono ?_; rintro e w' ⟨rfl, hb⟩)
      | (at_builtin; refine wpList_append_upon _ rfl (.tmp 33) (.tmp 38) 113 9 rfl HC.out i0 (.int .u8 0) 1 Try.underlying113 hi hz0 hz1 hz2 rfl rfl (upon_below HU.out HC.out hb) _ 8 _ rfl (src_nums Try.underlying9 _ (bytesL_bd _ _) 8 (bytesL_len _ _) _) (by unfold maxLen; omega) (by omega) ?_; intro v' w1 hu1))
    go_meet
    case rel => exact laid_of HC.out HX.out hu1
  have HS : Hid (sumL (numsOf s) = outL (state (fun i => (padL (numsOf s)).getD i 0) (pieces s.size)) 8) := by unfold Hid sumL; rw [numsOf_len]
  have HB : Hid (∀ i, 0 ≤ (fun i => (padL (numsOf s)).getD i 0) i ∧ (fun i => (padL (numsOf s)).getD i 0) i ≤ 255) := getD_bd (pad_bd (numsOf_bd s))
  have hP : pieces s.size ≤ 20000 := by have := pad_pieces s.size; omega
  clear HU HC HX hi hz0 hz1 hz2
  generalize (fun i => (padL (numsOf s)).getD i 0) = B at *
  generalize pieces s.size = P at *
  obtain ⟨⟨g, bc, rfl, hg, hcell⟩, hh, hk, hold⟩ := hcut
  have HL : Hid (Laid w wc 124 B (64 * P) (.slice (some ⟨g, 0, none⟩) (64 * P) bc) hS) := ⟨⟨g, bc, rfl, hg, hcell⟩, hh, hk, hold⟩
  clear hcell hh hk hold hg
  go_upto_block 2 with fail
  refine pieces_loop w _ B P g bc _ _ _ _ _ _ _ _ _ _ _ _ _ _ _ _ _ _ _ _ _ _ _ _ _ _ _ _ _ _ _ _ _ _ _ _ _ _ _ _ _ _ _ _ _ _ _ _ _ _ _ _ _ _ _ _ _ _ _ _ _ _ _ _ _ _ _ _ _ _ _ _ _ _ _ _ _ _ _ _ _ _ _ _ _ _ _ _ _ _ _ _ _ _ _ _ _ _ _ _ _ _ _ _ _ _ _ _ _ _ _ _ _ _ _ _ _ _ _ _ _ _ _ _ _ _ _ _ _ _ _ _ _ _ _ _ _ _ _ _ _ _ _ _ _ _ _ _ _ _ _ _ _ _ _ _ _ _ _ _ _ _ _ _ _ _ _ _ _ _ _ _ _ _ _ _ _ _ _ _ _ _ _ _ _ _ _ _ _ _ _ _ _ _ _ _ _ _ _ _ _ _ _ _ _ _ _ _ _ _ _ _ _ _ _ _ _ _ _ _ _ _ _ _ _ _ _ _ _ _ _ _ _ _ _ _ _ _ _ _ _ _ _ _ _ _ _ _ _ _ _ _ _ _ _ _ _ _ _ _ _ _ _ _ hP HB.out HL.out ?_
  intro u6 u7 u8 u9 u10 u11 u12 u13 u14 u15 u16 u17 u18 u40 u41 u42 u43 u44 u45 u46 u47 u48 u49 u50 u51 u52 u53 u54 u55 u56 u57 u58 u59 u60 u61 u62 u63 u64 u65 u66 u67 u68 u69 u70 u71 u72 u73 u74 u75 u76 u77 u78 u79 u80 u81 u82 u83 u84 u85 u86 u87 u88 u89 u90 u91 u92 u93 u94 u95 u96 u97 u98 u99 u100 u101 u102 u103 u104 u105 u106 u107 u108 u109 u110 u111 u112 u113 u114 u115 u116 u117 u118 u119 u120 u121 u122 u123 u124 u125 u126 u127 u128 u129 u130 u131 u132 u133 u134 u135 u136 u137 u138 u139 u140 u141 u142 u143 u144 u145 u146 u147 u148 u149 u150 u151 u152 u153 u154 u155 u156 u157 u158 u159 u160 u161 u162 u163 u164 u165 u166 u167 u168 u169 u170 u171 u172 u173 u174 u175 u176 u177 u178 u179 u180 u181 u182 u183 u184 u185 u186 u187 u188 u189 u190 u191 u192 u193 u194 u195 u196 u197 u198 u199 u200 u201 u202 u203 u204 u205 u206 u207 u208 u209 u210 u211 u212 u213 u214 u215 u216 u217 u218 u219 u220 u221 u222 u223 u224 u225 u226 u227 u228 u229 u230 u231 u232 u233 u234 u235 u236 u237 u238 u239 u240 u241 u242 u243 u244 u245 u246 u247 u248 u249 u250 u251 u252 u253 u254 w1 hl
  have H1 : Hid (Old w w1 ∧ w1.rowIs w.heap.size 124 8 (fun i => .int .u32 (state B P i))) := ⟨hl.old, hl.hrow⟩
  have HE : Hid (∀ i, 0 ≤ state B P i ∧ state B P i ≤ 4294967295) := state_bd B P
  clear hl HL HB
  generalize state B P = h at *
  dsimp only
  go_wp2_with fail
  go_loopw [19, 20] (fun ov iv wx => ∃ i : Nat, iv = .int .i64 (i : Int) ∧ i ≤ 8 ∧ ov = .string (strOfNums (outL h i)) ∧ Hid (Old w wx ∧ wx.rowIs w.heap.size 124 8 (fun i => .int .u32 (h i)))) (fun _ iv _ => 8 - (intOf iv).toNat)
  case atStart => exact ⟨0, rfl, Nat.zero_le _, rfl, H1⟩
  case round =>
    obtain ⟨i, rfl, hi, rfl, HR⟩ := hrel
    by_cases hlt : i < 8
    · have ci := HR.out.2.cell hlt
      obtain ⟨e0, e1⟩ := HE.out i
      have z1 : (strOfNums (outL h i)).size = 4 * i := by rw [strOfNums_size, outL_len]
      have z2 : (strOfNums (bytesL (h i) 4)).size = 4 := by rw [strOfNums_size, bytesL_len]
      go_wp2_with (go_at_call 92; refine (bytes_any _ 4 _ (by omega) (by omega) (by omega) (by omega)).mono ?_; rintro e w' ⟨rfl, hb⟩)
      go_roundw
      case rel => exact ⟨i + 1, idx_up i, by omega, congrArg Value.string (str_add _ _), HR.out.1.trans (Old.ofBelow hb), (Old.ofBelow hb).row HR.out.2⟩
      case measure => simp [intOf]; omega
    · have he : i = 8 := by omega
      subst he
      go_wp2_with fail
      go_ret
      exact ⟨by rw [HS.out]; rfl, HR.out.1⟩

end Go.Proofs.Ytokhpppealdfmaf

namespace Go.Proofs.Ytokhpppealdfmaf
open Go.RowKit

theorem bts_app {xs ys : List Int} (hx : Bts xs) (hy : Bts ys) : Bts (xs ++ ys) := by
  intro x h
  rcases List.mem_append.1 h with h | h
  · exact hx x h
  · exact hy x h
theorem outL_bd (h : Nat → Int) : ∀ i, Bts (outL h i)
  | 0 => by intro x hx; cases hx
  | i + 1 => bts_app (outL_bd h i) (bytesL_bd _ _)
theorem sumL_len (xs : List Int) : (sumL xs).length = 32 := outL_len _ 8
theorem sumL_bd (xs : List Int) : Bts (sumL xs) := outL_bd _ 8

/-- Sum, of a list of bytes. -/
theorem sum_list (xs : List Int) (w : World) (h : Bts xs) (hl : xs.length ≤ 1000000) :
    Calls Try.prog 93 #[.string (strOfNums xs)] w fun e w' => e = .returned (.string (strOfNums (sumL xs))) ∧ Old w w' := by
  have := sum_any (strOfNums xs) w (by rw [strOfNums_size]; exact hl)
  rwa [nums_str h] at this

def xor8 (a b : Int) : Int := bits .xor .u8 a b
theorem xor8_bd (a b : Int) : 0 ≤ xor8 a b ∧ xor8 a b ≤ 255 := by
  have h1 := bits_lo_u8 .xor a b
  have h2 := bits_hi_u8 .xor a b
  exact ⟨h1, h2⟩
/-- A key of at most 64 bytes. -/
def keyK (k : List Int) : List Int := if 64 < k.length then sumL k else k
def masked (k : List Int) (b : Int) : List Int := (List.range 64).map fun i => xor8 (k.getD i 0) b
/-- HMAC of bytes. -/
def macL (k s : List Int) : List Int := sumL (masked (keyK k) 92 ++ sumL (masked (keyK k) 54 ++ s))

theorem masked_len (k : List Int) (b : Int) : (masked k b).length = 64 := by simp [masked]
theorem masked_bd (k : List Int) (b : Int) : Bts (masked k b) := by
  intro x hx
  obtain ⟨i, _, rfl⟩ := List.mem_map.1 hx
  exact xor8_bd _ _
theorem keyK_len (k : List Int) : (keyK k).length ≤ 64 := by
  unfold keyK
  split
  · rw [sumL_len]; omega
  · omega
theorem keyK_bd {k : List Int} (h : Bts k) : Bts (keyK k) := by
  unfold keyK
  split
  · exact sumL_bd _
  · exact h

theorem mask_step {b : Nat} {wr : World} {ty : TypeId} {k : List Int} {m : Int} {t : Nat} {x : Int} (hr : wr.rowIs b ty 64 (fun j => .int .u8 (if j < t then xor8 (k.getD j 0) m else 0))) (hx : x = xor8 (k.getD t 0) m) :
    (wr.setCell ⟨b, t, none⟩ (.int .u8 x)).rowIs b ty 64 (fun j => .int .u8 (if j < t + 1 then xor8 (k.getD j 0) m else 0)) := by
  refine (hr.set t _).congr fun j _ => ?_
  by_cases he : j = t
  · subst he
    rw [hx]
    simp
  · by_cases hl : j < t
    · simp [he, hl, show j < t + 1 by omega]
    · simp [he, hl, show ¬ j < t + 1 by omega]

/-- The row as a text. -/
theorem mask_text {P : Program} {b : Nat} {wr : World} {src e : TypeId} {ty : TypeId} {k : List Int} {m : Int} (hs : P.underlying src = some (.slice e)) (he : P.underlying e = some (.int .u8)) (hr : wr.rowIs b ty 64 (fun j => .int .u8 (if j < 64 then xor8 (k.getD j 0) m else 0))) (dst : TypeId) (hd : P.underlying dst = some .string) :
    (convert src dst (.slice (some ⟨b, 0, none⟩) 64 64)).run P wr = .ok (.string (strOfNums (masked k m))) wr :=
  run_convert_bytes_arg wr src e hs he b 0 64 64 (masked k m) (masked_len k m) (fun i hi => by
    rw [Nat.zero_add, hr.cell hi]
    simp [masked, hi]) dst hd

theorem str_index {k : List Int} (h : Bts k) {i : Nat} (hi : i < (strOfNums k).size) : (((strOfNums k)[i]'hi).toNat : Int) = k.getD i 0 := by
  have hl : i < k.length := by rw [strOfNums_size] at hi; exact hi
  have e : (strOfNums k)[i]'hi = UInt8.ofNat (k[i]).toNat := by
    show (strOfNums k).data[i] = _
    simp [strOfNums]
  rw [e]
  have hb := h k[i] (List.getElem_mem hl)
  simp [List.getD, hl]
  omega

theorem two_step {W wr : World} {ty : TypeId} {q : List Int} {t : Nat} {x y : Int} (h : Old W wr ∧ wr.rowIs W.heap.size ty 64 (fun j => .int .u8 (if j < t then xor8 (q.getD j 0) 54 else 0)) ∧ wr.rowIs (W.heap.size + 1) ty 64 (fun j => .int .u8 (if j < t then xor8 (q.getD j 0) 92 else 0)))
    (hx : x = xor8 (q.getD t 0) 54) (hy : y = xor8 (q.getD t 0) 92) :
    Old W ((wr.setCell ⟨W.heap.size, t, none⟩ (.int .u8 x)).setCell ⟨W.heap.size + 1, t, none⟩ (.int .u8 y)) ∧ ((wr.setCell ⟨W.heap.size, t, none⟩ (.int .u8 x)).setCell ⟨W.heap.size + 1, t, none⟩ (.int .u8 y)).rowIs W.heap.size ty 64 (fun j => .int .u8 (if j < t + 1 then xor8 (q.getD j 0) 54 else 0)) ∧
    ((wr.setCell ⟨W.heap.size, t, none⟩ (.int .u8 x)).setCell ⟨W.heap.size + 1, t, none⟩ (.int .u8 y)).rowIs (W.heap.size + 1) ty 64 (fun j => .int .u8 (if j < t + 1 then xor8 (q.getD j 0) 92 else 0)) := by
  refine ⟨(h.1.setCell (Nat.le_refl _) _).setCell (Nat.le_succ _) _, (mask_step h.2.1 hx).setOther (by simp) _, ?_⟩
  exact mask_step (h.2.2.setOther (by simp) _) hy

theorem two_start (W : World) (ty : TypeId) (q : List Int) : Old W ((W.alloc (.cells (madeCells #[.int .u8 0] 64) ty)).alloc (.cells (madeCells #[.int .u8 0] 64) ty)) ∧
    ((W.alloc (.cells (madeCells #[.int .u8 0] 64) ty)).alloc (.cells (madeCells #[.int .u8 0] 64) ty)).rowIs W.heap.size ty 64 (fun j => .int .u8 (if j < 0 then xor8 (q.getD j 0) 54 else 0)) ∧
    ((W.alloc (.cells (madeCells #[.int .u8 0] 64) ty)).alloc (.cells (madeCells #[.int .u8 0] 64) ty)).rowIs (W.heap.size + 1) ty 64 (fun j => .int .u8 (if j < 0 then xor8 (q.getD j 0) 92 else 0)) := by
  refine ⟨((Old.refl W).alloc _).alloc _, ((World.rowIs_made W (.int .u8 0) 64 ty).alloc _).congr fun i _ => by simp, ?_⟩
  have h := World.rowIs_made (W.alloc (.cells (madeCells #[.int .u8 0] 64) ty)) (.int .u8 0) 64 ty
  have e : (W.alloc (.cells (madeCells #[.int .u8 0] 64) ty)).heap.size = W.heap.size + 1 := by simp
  rw [e] at h
  exact h.congr fun i _ => by simp

theorem getD_past {q : List Int} {i : Nat} (h : ¬ i < q.length) : q.getD i 0 = 0 := by
  rw [List.getD, List.getElem?_eq_none (by omega)]
  rfl

end Go.Proofs.Ytokhpppealdfmaf

namespace Go.Proofs.Ytokhpppealdfmaf

/-- A modulus: from 2 to 2 to the 62. -/
def okM (m : Int) : Bool := decide (2 ≤ m) && decide (m ≤ 4611686018427387904)
def addI (a b m : Int) : Int := if okM m then (a + b) % m else 0
def subI (a b m : Int) : Int := if okM m then (a - b) % m else 0
def mulI (a b m : Int) : Int := if okM m then (a * b) % m else 0
def powI (a e m : Int) : Int := if okM m then a ^ e.toNat % m else 0
/-- The search for what makes 1 of a. -/
def invS (a m : Int) : Option Nat := if okM m then (List.range m.toNat).find? (fun n => (a * (n : Int)) % m == 1) else none
def invB (a m : Int) : Bool := (invS a m).isSome
def invI (a m : Int) : Int := ((invS a m).getD 0 : Nat)

theorem okM_yes {m : Int} (h : okM m = true) : 2 ≤ m ∧ m ≤ 4611686018427387904 := by
  unfold okM at h; simpa using h
theorem okM_of {m : Int} (h : 2 ≤ m) (h' : m ≤ 4611686018427387904) : okM m = true := by
  unfold okM; simp [h, h']
theorem okM_not {m : Int} (h : m < 2 ∨ 4611686018427387904 < m) : okM m = false := by
  unfold okM; simp; omega
theorem okM_no {m : Int} (h : okM m = false) : m < 2 ∨ 4611686018427387904 < m := by
  unfold okM at h; simp at h; omega

theorem addI_yes {a b m : Int} (h : okM m = true) : addI a b m = (a + b) % m := by unfold addI; simp [h]
theorem subI_yes {a b m : Int} (h : okM m = true) : subI a b m = (a - b) % m := by unfold subI; simp [h]
theorem mulI_yes {a b m : Int} (h : okM m = true) : mulI a b m = (a * b) % m := by unfold mulI; simp [h]
theorem powI_yes {a e m : Int} (h : okM m = true) : powI a e m = a ^ e.toNat % m := by unfold powI; simp [h]
theorem addI_no {a b m : Int} (h : okM m = false) : addI a b m = 0 := by unfold addI; simp [h]
theorem subI_no {a b m : Int} (h : okM m = false) : subI a b m = 0 := by unfold subI; simp [h]
theorem mulI_no {a b m : Int} (h : okM m = false) : mulI a b m = 0 := by unfold mulI; simp [h]
theorem powI_no {a e m : Int} (h : okM m = false) : powI a e m = 0 := by unfold powI; simp [h]
theorem invS_no {a m : Int} (h : okM m = false) : invS a m = none := by unfold invS; simp [h]

theorem mod_bd (x : Int) {m : Int} (h : okM m = true) : 0 ≤ x % m ∧ x % m < m := by
  have := okM_yes h
  exact ⟨Int.emod_nonneg _ (by omega), Int.emod_lt_of_pos _ (by omega)⟩

theorem addI_bd (a b m : Int) : 0 ≤ addI a b m ∧ addI a b m ≤ 4611686018427387903 := by
  cases h : okM m
  · rw [addI_no h]; omega
  · rw [addI_yes h]; have := mod_bd (a + b) h; have := okM_yes h; omega
theorem subI_bd (a b m : Int) : 0 ≤ subI a b m ∧ subI a b m ≤ 4611686018427387903 := by
  cases h : okM m
  · rw [subI_no h]; omega
  · rw [subI_yes h]; have := mod_bd (a - b) h; have := okM_yes h; omega
theorem mulI_bd (a b m : Int) : 0 ≤ mulI a b m ∧ mulI a b m ≤ 4611686018427387903 := by
  cases h : okM m
  · rw [mulI_no h]; omega
  · rw [mulI_yes h]; have := mod_bd (a * b) h; have := okM_yes h; omega
theorem powI_bd (a b m : Int) : 0 ≤ powI a b m ∧ powI a b m ≤ 4611686018427387903 := by
  cases h : okM m
  · rw [powI_no h]; omega
  · rw [powI_yes h]; have := mod_bd (a ^ b.toNat) h; have := okM_yes h; omega

/-! ### congruences -/
theorem cong_of {a b m : Int} (k : Int) (h : a = b + m * k) : a % m = b % m := by rw [h, Int.add_mul_emod_self_left]
theorem cong_mul {a b c d m : Int} (h : a % m = b % m) (h' : c % m = d % m) : a * c % m = b * d % m := by
  rw [Int.mul_emod, h, h', ← Int.mul_emod]
theorem cong_add {a b c d m : Int} (h : a % m = b % m) (h' : c % m = d % m) : (a + c) % m = (b + d) % m := by
  rw [Int.add_emod, h, h', ← Int.add_emod]
theorem cong_sub {a b c d m : Int} (h : a % m = b % m) (h' : c % m = d % m) : (a - c) % m = (b - d) % m := by
  rw [Int.sub_emod, h, h', ← Int.sub_emod]
theorem cong_pow {a b m : Int} (h : a % m = b % m) : ∀ n : Nat, a ^ n % m = b ^ n % m
  | 0 => by simp
  | n + 1 => by rw [Int.pow_succ, Int.pow_succ]; exact cong_mul (cong_pow h n) h
theorem mod_self (a m : Int) : a % m % m = a % m := Int.emod_emod_of_dvd a (Int.dvd_refl m)

/-! ### sums -/
theorem add_eq (a b m : Int) : (a % m + b % m) % m = (a + b) % m := by rw [← Int.add_emod]
theorem add_eq2 (a b m : Int) (hm : 0 < m) : (if m ≤ a % m + b % m then a % m + b % m - m else a % m + b % m) = (a + b) % m := by
  have h1 := Int.emod_nonneg a (show m ≠ 0 by omega)
  have h2 := Int.emod_lt_of_pos a hm
  have h3 := Int.emod_nonneg b (show m ≠ 0 by omega)
  have h4 := Int.emod_lt_of_pos b hm
  rw [← add_eq]
  generalize a % m = x at *
  generalize b % m = y at *
  split
  · rw [show x + y = (x + y - m) + m * 1 by omega, Int.add_mul_emod_self_left, Int.emod_eq_of_lt (by omega) (by omega)]; omega
  · rw [Int.emod_eq_of_lt (by omega) (by omega)]
theorem sub_eq (a b m : Int) : (a % m + m - b % m) % m = (a - b) % m := by
  rw [show a % m + m - b % m = (a % m - b % m) + m * 1 by omega, Int.add_mul_emod_self_left, ← Int.sub_emod]

/-! ### products by doubling -/
theorem mul_odd (s t h m e d : Int) : (s + t - m * e + (t + t - m * d) * h) % m = (s + t * (2 * h + 1)) % m := by
  refine (cong_of (e + d * h) ?_).symm
  rw [Int.sub_mul, Int.add_mul, Int.mul_add m, ← Int.mul_assoc m, Int.mul_add t, Int.mul_left_comm]
  omega
theorem mul_even (s t h m d : Int) : (s + (t + t - m * d) * h) % m = (s + t * (2 * h)) % m := by
  refine (cong_of (d * h) ?_).symm
  rw [Int.sub_mul, Int.add_mul, ← Int.mul_assoc m, Int.mul_left_comm]
  omega

/-! ### powers by squaring -/
theorem pow_two_mul (s : Int) (h : Nat) : s ^ (2 * h) = (s * s) ^ h := by
  rw [Int.pow_mul]; congr 1; rw [Int.pow_succ, Int.pow_succ]; simp
theorem pow_odd (p s m : Int) (h : Nat) : (p * s % m) * (s * s % m) ^ h % m = p * s ^ (2 * h + 1) % m := by
  rw [Int.pow_succ, pow_two_mul, Int.mul_comm ((s * s) ^ h), ← Int.mul_assoc]
  exact cong_mul (mod_self _ _) (cong_pow (mod_self _ _) h)
theorem pow_even (p s m : Int) (h : Nat) : p * (s * s % m) ^ h % m = p * s ^ (2 * h) % m := by
  rw [pow_two_mul]
  exact cong_mul rfl (cong_pow (mod_self _ _) h)

/-! ### what makes 1 of a number -/
theorem inv_has {a m n : Int} (h : okM m = true) (h0 : 0 ≤ n) (h1 : n < m) (h2 : a * n % m = 1) : invB a m = true ∧ invI a m = n := by
  have hm := okM_yes h
  obtain ⟨k, rfl⟩ := Int.eq_ofNat_of_zero_le h0
  unfold invB invI invS
  simp only [h, if_true]
  cases hf : (List.range m.toNat).find? (fun n : Nat => (a * (n : Int)) % m == 1) with
  | none =>
    have := List.find?_eq_none.1 hf k (List.mem_range.2 (by omega))
    simp [h2] at this
  | some j =>
    have hj := List.find?_some hf
    have hr := List.mem_range.1 (List.mem_of_find?_eq_some hf)
    simp at hj
    refine ⟨rfl, ?_⟩
    -- two such numbers are one
    have e1 : a * (j : Int) * (k : Int) % m = (k : Int) % m := by
      have := cong_mul (a := a * (j : Int)) (b := 1) (c := (k : Int)) (d := (k : Int)) (m := m) (by rw [hj, Int.emod_eq_of_lt (by omega) (by omega)]) rfl
      rw [this, Int.one_mul]
    have e2 : a * (k : Int) * (j : Int) % m = (j : Int) % m := by
      have := cong_mul (a := a * (k : Int)) (b := 1) (c := (j : Int)) (d := (j : Int)) (m := m) (by rw [h2, Int.emod_eq_of_lt (by omega) (by omega)]) rfl
      rw [this, Int.one_mul]
    rw [Int.mul_right_comm, e2, Int.emod_eq_of_lt (by omega) (by omega), Int.emod_eq_of_lt (by omega) (by omega)] at e1
    simpa using e1

theorem inv_not {a m g : Int} (h : okM m = true) (hg : 2 ≤ g) (h1 : g ∣ m) (h2 : g ∣ a) : invB a m = false ∧ invI a m = 0 := by
  have hm := okM_yes h
  unfold invB invI invS
  simp only [h, if_true]
  cases hf : (List.range m.toNat).find? (fun n : Nat => (a * (n : Int)) % m == 1) with
  | none => simp
  | some j =>
    have hj := List.find?_some hf
    simp at hj
    have e := Int.mul_ediv_add_emod (a * (j : Int)) m
    rw [hj] at e
    have : g ∣ 1 := by
      have d1 : g ∣ a * (j : Int) := Int.dvd_trans h2 (Int.dvd_mul_right _ _)
      have d2 : g ∣ m * (a * (j : Int) / m) := Int.dvd_trans h1 (Int.dvd_mul_right _ _)
      have := Int.dvd_sub d1 d2
      rwa [show a * (j : Int) - m * (a * (j : Int) / m) = 1 by omega] at this
    have := Int.le_of_dvd (by omega) this
    omega

theorem inv_bad {a m : Int} (h : okM m = false) : invB a m = false ∧ invI a m = 0 := by
  unfold invB invI; rw [invS_no h]; simp

theorem inv_is {a m : Int} (hb : invB a m = true) : okM m = true ∧ 0 ≤ invI a m ∧ invI a m < m ∧ a * invI a m % m = 1 := by
  have h : okM m = true := by
    cases h : okM m
    · rw [(inv_bad h).1] at hb; cases hb
    · rfl
  have hm := okM_yes h
  refine ⟨h, ?_⟩
  unfold invB invS at hb
  unfold invI invS
  simp only [h, if_true] at hb ⊢
  cases hf : (List.range m.toNat).find? (fun n : Nat => (a * (n : Int)) % m == 1) with
  | none => rw [hf] at hb; cases hb
  | some j =>
    have hj := List.find?_some hf
    have hr := List.mem_range.1 (List.mem_of_find?_eq_some hf)
    simp at hj
    simp
    exact ⟨by omega, hj⟩

theorem inv_none {a m : Int} (hb : invB a m = false) : invI a m = 0 := by
  unfold invB at hb
  unfold invI
  cases hf : invS a m with
  | none => rfl
  | some j => rw [hf] at hb; cases hb

theorem invI_bd (a m : Int) : 0 ≤ invI a m ∧ invI a m ≤ 4611686018427387903 := by
  cases hb : invB a m
  · rw [inv_none hb]; omega
  · have ⟨h, h1, h2, _⟩ := inv_is hb
    have := okM_yes h
    omega

/-- One round of Euclid's way: what the new pair is modulo m. -/
theorem euclid_step {a m rest next f g : Int} (h1 : m ∣ a * f - rest) (h2 : m ∣ a * g - next) : m ∣ a * ((f - rest / next * g % m) % m) - rest % next := by
  have e1 := Int.mul_ediv_add_emod rest next
  have e2 := Int.mul_ediv_add_emod (rest / next * g) m
  have e3 := Int.mul_ediv_add_emod (f - rest / next * g % m) m
  have key : a * ((f - rest / next * g % m) % m) - rest % next
      = (a * f - rest) - (a * g - next) * (rest / next) + m * (a * (rest / next * g / m) - a * ((f - rest / next * g % m) / m)) := by
    generalize rest / next = k at *
    generalize rest % next = r at *
    generalize k * g / m = u at *
    generalize k * g % m = v at *
    generalize (f - v) / m = p at *
    generalize (f - v) % m = q at *
    have hv : v = k * g - m * u := by omega
    have hq : q = f - v - m * p := by omega
    have hr : r = rest - next * k := by omega
    subst hv
    subst hq
    subst hr
    simp only [Int.mul_sub, Int.sub_mul]
    rw [Int.mul_left_comm a m u, Int.mul_left_comm a m p, Int.mul_assoc a g k, Int.mul_comm g k]
    omega
  rw [key]
  refine Int.dvd_add (Int.dvd_sub h1 ?_) (Int.dvd_mul_right _ _)
  exact Int.dvd_trans h2 (Int.dvd_mul_right _ _)

theorem euclid_div {m a rest next : Int} (h : ∀ d : Int, d ∣ rest → d ∣ next → d ∣ m ∧ d ∣ a) : ∀ d : Int, d ∣ next → d ∣ rest % next → d ∣ m ∧ d ∣ a := by
  intro d h1 h2
  refine h d ?_ h1
  have e := Int.mul_ediv_add_emod rest next
  rw [← e]
  exact Int.dvd_add (Int.dvd_trans h1 (Int.dvd_mul_right _ _)) h2

theorem euclid_yes {a m f : Int} (h : okM m = true) (h0 : 0 ≤ f) (h1 : f < m) (hd : m ∣ a * f - 1) : invB a m = true ∧ invI a m = f := by
  have hm := okM_yes h
  refine inv_has h h0 h1 ?_
  obtain ⟨k, hk⟩ := hd
  rw [show a * f = 1 + m * k by omega, Int.add_mul_emod_self_left, Int.emod_eq_of_lt (by omega) (by omega)]

theorem euclid_no {a m g : Int} (h : okM m = true) (hg : 1 ≤ g) (hg' : g ≠ 1) (hd : ∀ d : Int, d ∣ g → d ∣ 0 → d ∣ m ∧ d ∣ a) : invB a m = false ∧ invI a m = 0 := by
  have ⟨h1, h2⟩ := hd g (Int.dvd_refl _) (Int.dvd_zero _)
  exact inv_not h (by omega) h1 h2

theorem euclid_start (a m : Int) : m ∣ a * 0 - m ∧ m ∣ a * 1 - a % m ∧ ∀ d : Int, d ∣ m → d ∣ a % m → d ∣ m ∧ d ∣ a := by
  refine ⟨?_, ?_, ?_⟩
  · rw [Int.mul_zero, Int.zero_sub]; exact Int.dvd_neg.2 (Int.dvd_refl _)
  · have e := Int.mul_ediv_add_emod a m
    rw [Int.mul_one, show a - a % m = m * (a / m) by omega]
    exact Int.dvd_mul_right _ _
  · intro d h1 h2
    refine ⟨h1, ?_⟩
    have e := Int.mul_ediv_add_emod a m
    rw [← e]
    exact Int.dvd_add (Int.dvd_trans h1 (Int.dvd_mul_right _ _)) h2

/-! ### the rules -/
theorem rule_dist (a b c m : Int) : mulI a (addI b c m) m = addI (mulI a b m) (mulI a c m) m := by
  cases h : okM m
  · rw [mulI_no h, addI_no h]
  · rw [mulI_yes h, mulI_yes h, mulI_yes h, addI_yes h, addI_yes h, ← Int.add_emod, ← Int.mul_add]
    exact cong_mul rfl (mod_self _ _)
theorem rule_back (a b m : Int) (h : okM m = true) : addI (subI a b m) b m = a % m := by
  rw [addI_yes h, subI_yes h]
  have := cong_add (a := (a - b) % m) (b := a - b) (c := b) (d := b) (m := m) (mod_self _ _) rfl
  rw [this]
  congr 1
  omega
theorem rule_comm (a b m : Int) : mulI a b m = mulI b a m := by
  unfold mulI; rw [Int.mul_comm]
theorem rule_pow (a x y m : Int) (hx : 0 ≤ x) (hy : 0 ≤ y) : powI a (x + y) m = mulI (powI a x m) (powI a y m) m := by
  cases h : okM m
  · rw [powI_no h, mulI_no h]
  · rw [powI_yes h, powI_yes h, powI_yes h, mulI_yes h, ← Int.mul_emod, show (x + y).toNat = x.toNat + y.toNat by omega, Int.pow_add]

end Go.Proofs.Ytokhpppealdfmaf

namespace Go.Proofs.Ytokhpppealdfmaf
open Go.RowKit

theorem ret_u64 {a b : Int} (h : a = b) : Ending.returned (.int .u64 a) = .returned (.int .u64 b) := by rw [h]

theorem right_yes (m : Int) (w : World) (h1 : 2 ≤ m) (h2 : m ≤ 4611686018427387904) :
    Calls Try.prog 55 #[.int .u64 m] w fun e w' => e = .returned (.bool true) ∧ w = w' := by
  go_enter Try.func55, Try.ntmps55
  go_wp2
  go_ret
  exact ⟨rfl, rfl⟩
theorem right_no (m : Int) (w : World) (h : m < 2 ∨ 4611686018427387904 < m) :
    Calls Try.prog 55 #[.int .u64 m] w fun e w' => e = .returned (.bool false) ∧ w = w' := by
  rcases h with h | h
  · go_enter Try.func55, Try.ntmps55
    go_wp2
    go_ret
    exact ⟨rfl, rfl⟩
  · have h' : 2 ≤ m := by omega
    have hd : decide (m ≤ 4611686018427387904) = false := by simpa using h
    go_enter Try.func55, Try.ntmps55
    go_wp2
    go_ret
    exact ⟨rfl, rfl⟩

theorem radd_any (a b m : Int) (w : World) (a0 : 0 ≤ a) (a1 : a ≤ 18446744073709551615) (b0 : 0 ≤ b) (b1 : b ≤ 18446744073709551615) :
    Calls Try.prog 19 #[.int .u64 a, .int .u64 b, .int .u64 m] w fun e w' => e = .returned (.int .u64 (addI a b m)) ∧ ∃ n, w' = w.drewN n := by
  cases hm : okM m
  · have hn := okM_no hm
    go_enter Try.func19, Try.ntmps19
    go_wp2_with (go_at_call 55; refine (right_no _ _ hn).mono ?_; rintro e w' ⟨rfl, rfl⟩)
    go_ret
    exact ⟨ret_u64 (addI_no hm).symm, 0, rfl⟩
  · have ⟨m0, m1⟩ := okM_yes hm
    obtain ⟨x0, x1⟩ := mod_bd a hm
    obtain ⟨y0, y1⟩ := mod_bd b hm
    have e := add_eq2 a b m (by omega)
    rw [← addI_yes hm] at e
    have HE : Hid ((if m ≤ a % m + b % m then a % m + b % m - m else a % m + b % m) = addI a b m) := e
    clear hm e
    by_cases hc : m ≤ a % m + b % m
    · go_enter Try.func19, Try.ntmps19
      go_wp2_with (go_at_call 55; refine (right_yes _ _ m0 m1).mono ?_; rintro e w' ⟨rfl, rfl⟩)
      go_quiet (fail)
      go_wp2
      go_ret
      exact ⟨ret_u64 (by rw [← HE.out, if_pos hc]), _, rfl⟩
    · go_enter Try.func19, Try.ntmps19
      go_wp2_with (go_at_call 55; refine (right_yes _ _ m0 m1).mono ?_; rintro e w' ⟨rfl, rfl⟩)
      go_quiet (fail)
      go_wp2
      go_ret
      exact ⟨ret_u64 (by rw [← HE.out, if_neg (by omega)]), _, rfl⟩

theorem sub_add (a b m : Int) : (a + (m - b % m)) % m = (a - b) % m := by
  rw [show a + (m - b % m) = (a - b % m) + m * 1 by omega, Int.add_mul_emod_self_left]
  exact cong_sub rfl (mod_self _ _)

theorem rsub_any (a b m : Int) (w : World) (a0 : 0 ≤ a) (a1 : a ≤ 18446744073709551615) (b0 : 0 ≤ b) (b1 : b ≤ 18446744073709551615) :
    Calls Try.prog 94 #[.int .u64 a, .int .u64 b, .int .u64 m] w fun e w' => e = .returned (.int .u64 (subI a b m)) ∧ ∃ n, w' = w.drewN n := by
  cases hm : okM m
  · have hn := okM_no hm
    go_enter Try.func94, Try.ntmps94
    go_wp2_with (go_at_call 55; refine (right_no _ _ hn).mono ?_; rintro e w' ⟨rfl, rfl⟩)
    go_ret
    exact ⟨ret_u64 (subI_no hm).symm, 0, rfl⟩
  · have ⟨m0, m1⟩ := okM_yes hm
    obtain ⟨y0, y1⟩ := mod_bd b hm
    have HM : Hid (okM m = true) := hm
    clear hm
    go_enter Try.func94, Try.ntmps94
    go_wp2_with (first | (go_at_call 55; refine (right_yes _ _ m0 m1).mono ?_; rintro e w' ⟨rfl, rfl⟩) | (go_at_call 19; refine (radd_any _ _ _ _ (by omega) (by omega) (by omega) (by omega)).mono ?_; rintro e w' ⟨rfl, n, rfl⟩))
    go_ret
    exact ⟨ret_u64 (by rw [subI_yes HM.out, addI_yes HM.out, sub_add]), _, rfl⟩

theorem mr_odd (s t n m s' t' : Int) (e d : Int) (hn : n % 2 = 1) (hs : s' = s + t - m * e) (ht : t' = t + t - m * d) : (s' + t' * (n / 2)) % m = (s + t * n) % m := by
  subst hs ht
  have := mul_odd s t (n / 2) m e d
  rwa [show 2 * (n / 2) + 1 = n by omega] at this
theorem mr_even (s t n m t' : Int) (d : Int) (hn : n % 2 = 0) (ht : t' = t + t - m * d) : (s + t' * (n / 2)) % m = (s + t * n) % m := by
  subst ht
  have := mul_even s t (n / 2) m d
  rwa [show 2 * (n / 2) = n by omega] at this

set_option maxHeartbeats 1000000 in
theorem rmul_any (a b m : Int) (w : World) (a0 : 0 ≤ a) (a1 : a ≤ 18446744073709551615) (b0 : 0 ≤ b) (b1 : b ≤ 18446744073709551615) :
    Calls Try.prog 71 #[.int .u64 a, .int .u64 b, .int .u64 m] w fun e w' => e = .returned (.int .u64 (mulI a b m)) ∧ ∃ n, w' = w.drewN n := by
  cases hm : okM m
  · have hn := okM_no hm
    go_enter Try.func71, Try.ntmps71
    go_wp2_with (go_at_call 55; refine (right_no _ _ hn).mono ?_; rintro e w' ⟨rfl, rfl⟩)
    go_ret
    exact ⟨ret_u64 (mulI_no hm).symm, 0, rfl⟩
  · have ⟨m0, m1⟩ := okM_yes hm
    obtain ⟨x0, x1⟩ := mod_bd a hm
    obtain ⟨y0, y1⟩ := mod_bd b hm
    have HM : Hid (okM m = true) := hm
    clear hm
    go_enter Try.func71, Try.ntmps71
    go_wp2_with (go_at_call 55; refine (right_yes _ _ m0 m1).mono ?_; rintro e w' ⟨rfl, rfl⟩)
    go_loop [7, 8, 9] (fun sv tv nv => ∃ s t n : Int, sv = .int .u64 s ∧ tv = .int .u64 t ∧ nv = .int .u64 n ∧ 0 ≤ s ∧ s < m ∧ 0 ≤ t ∧ t < m ∧ 0 ≤ n ∧ n < m ∧ (s + t * n) % m = a * b % m) (fun _ _ nv => (intOf nv).toNat)
    case atStart => exact ⟨0, _, _, rfl, rfl, rfl, by omega, by omega, x0, x1, y0, y1, by rw [Int.zero_add, ← Int.mul_emod]⟩
    case round =>
      obtain ⟨s, t, n, rfl, rfl, rfl, s0, s1, t0, t1, n0, n1, hr⟩ := hrel
      have HR : Hid ((s + t * n) % m = a * b % m) := hr
      clear hr
      by_cases hn : 0 < n
      · by_cases hp : n % 2 = 1
        · by_cases h1 : m ≤ s + t
          · by_cases h2 : m ≤ t + t
            · go_wp2
              go_round
              case rel => exact ⟨_, _, _, rfl, rfl, rfl, by omega, by omega, by omega, by omega, by omega, by omega, by rw [mr_odd s t n m _ _ 1 1 hp (by omega) (by omega)]; exact HR.out⟩
              case measure => simp [intOf]; omega
            · go_wp2
              go_round
              case rel => exact ⟨_, _, _, rfl, rfl, rfl, by omega, by omega, by omega, by omega, by omega, by omega, by rw [mr_odd s t n m _ _ 1 0 hp (by omega) (by omega)]; exact HR.out⟩
              case measure => simp [intOf]; omega
          · by_cases h2 : m ≤ t + t
            · go_wp2
              go_round
              case rel => exact ⟨_, _, _, rfl, rfl, rfl, by omega, by omega, by omega, by omega, by omega, by omega, by rw [mr_odd s t n m _ _ 0 1 hp (by omega) (by omega)]; exact HR.out⟩
              case measure => simp [intOf]; omega
            · go_wp2
              go_round
              case rel => exact ⟨_, _, _, rfl, rfl, rfl, by omega, by omega, by omega, by omega, by omega, by omega, by rw [mr_odd s t n m _ _ 0 0 hp (by omega) (by omega)]; exact HR.out⟩
              case measure => simp [intOf]; omega
        · have hp : n % 2 = 0 := by omega
          by_cases h2 : m ≤ t + t
          · go_wp2
            go_round
            case rel => exact ⟨_, _, _, rfl, rfl, rfl, by omega, by omega, by omega, by omega, by omega, by omega, by rw [mr_even s t n m _ 1 hp (by omega)]; exact HR.out⟩
            case measure => simp [intOf]; omega
          · go_wp2
            go_round
            case rel => exact ⟨_, _, _, rfl, rfl, rfl, by omega, by omega, by omega, by omega, by omega, by omega, by rw [mr_even s t n m _ 0 hp (by omega)]; exact HR.out⟩
            case measure => simp [intOf]; omega
      · have hz : n = 0 := by omega
        have hk := HR.out
        rw [hz, Int.mul_zero, Int.add_zero, Int.emod_eq_of_lt s0 s1] at hk
        have HK : Hid (s = a * b % m) := hk
        clear hk
        subst hz
        go_wp2
        go_ret
        exact ⟨ret_u64 (by rw [mulI_yes HM.out]; exact HK.out), 0, rfl⟩

set_option maxHeartbeats 1000000 in
theorem rpow_any (a e m : Int) (w : World) (a0 : 0 ≤ a) (a1 : a ≤ 18446744073709551615) (e0 : 0 ≤ e) (e1 : e ≤ 18446744073709551615) :
    Calls Try.prog 61 #[.int .u64 a, .int .u64 e, .int .u64 m] w fun x w' => x = .returned (.int .u64 (powI a e m)) ∧ ∃ n, w' = w.drewN n := by
  cases hm : okM m
  · have hn := okM_no hm
    go_enter Try.func61, Try.ntmps61
    go_wp2_with (go_at_call 55; refine (right_no _ _ hn).mono ?_; rintro e w' ⟨rfl, rfl⟩)
    go_ret
    exact ⟨ret_u64 (powI_no hm).symm, 0, rfl⟩
  · have ⟨m0, m1⟩ := okM_yes hm
    obtain ⟨x0, x1⟩ := mod_bd a hm
    obtain ⟨E, rfl⟩ := Int.eq_ofNat_of_zero_le e0
    have HM : Hid (okM m = true) := hm
    clear hm
    have HS : Hid (∀ x y : Int, mulI x y m = x * y % m ∧ 0 ≤ mulI x y m ∧ mulI x y m < m) := fun x y => by rw [mulI_yes HM.out]; exact ⟨rfl, mod_bd _ HM.out⟩
    go_enter Try.func61, Try.ntmps61
    go_wp2_with (go_at_call 55; refine (right_yes _ _ m0 m1).mono ?_; rintro e w' ⟨rfl, rfl⟩)
    go_loopw [1, 7, 8] (fun ev pv sv wx => ∃ (k : Nat) (p s : Int) (nd : Nat), ev = .int .u64 (k : Int) ∧ pv = .int .u64 p ∧ sv = .int .u64 s ∧ k ≤ E ∧ 0 ≤ p ∧ p < m ∧ 0 ≤ s ∧ s < m ∧ p * s ^ k % m = a ^ E % m ∧ wx = w.drewN nd) (fun ev _ _ _ => (intOf ev).toNat)
    case atStart => exact ⟨E, 1, _, 0, rfl, rfl, rfl, Nat.le_refl _, by omega, by omega, x0, x1, by rw [Int.one_mul]; exact cong_pow (mod_self _ _) E, rfl⟩
    case round =>
      obtain ⟨k, p, s, nd, rfl, rfl, rfl, hk, p0, p1, s0, s1, hr, rfl⟩ := hrel
      have HR : Hid (p * s ^ k % m = a ^ E % m) := hr
      clear hr
      obtain ⟨q1, q2, q3⟩ := HS.out p s
      obtain ⟨r1, r2, r3⟩ := HS.out s s
      have Q1 : Hid (mulI p s m = p * s % m) := q1
      have R1 : Hid (mulI s s m = s * s % m) := r1
      clear q1 r1
      by_cases hn : 0 < k
      · by_cases hp : k % 2 = 1
        · go_wp2_with (go_at_call 71; refine (rmul_any _ _ _ _ (by omega) (by omega) (by omega) (by omega)).mono ?_; rintro e w' ⟨rfl, n, rfl⟩)
          go_roundw
          case rel => exact ⟨k / 2, _, _, _, by go_num, rfl, rfl, by omega, q2, q3, r2, r3, by rw [Q1.out, R1.out, pow_odd, show 2 * (k / 2) + 1 = k by omega]; exact HR.out, rfl⟩
          case measure => simp [intOf]; omega
        · have hp' : k % 2 = 0 := by omega
          go_wp2_with (go_at_call 71; refine (rmul_any _ _ _ _ (by omega) (by omega) (by omega) (by omega)).mono ?_; rintro e w' ⟨rfl, n, rfl⟩)
          go_roundw
          case rel => exact ⟨k / 2, _, _, _, by go_num, rfl, rfl, by omega, p0, p1, r2, r3, by rw [R1.out, pow_even, show 2 * (k / 2) = k by omega]; exact HR.out, rfl⟩
          case measure => simp [intOf]; omega
      · have hz : k = 0 := by omega
        have hq := HR.out
        rw [hz, Int.pow_zero, Int.mul_one, Int.emod_eq_of_lt p0 p1] at hq
        have HK : Hid (p = a ^ E % m) := hq
        clear hq q2 q3 r2 r3
        subst hz
        go_wp2
        go_ret
        exact ⟨ret_u64 (by rw [powI_yes HM.out, Int.toNat_natCast]; rw [← HK.out, Int.emod_eq_of_lt p0 p1]), _, rfl⟩

theorem ret_inv {a b : Int} {x y : Bool} (h : a = b) (h' : x = y) : Ending.returned (.tuple #[.int .u64 a, .bool x]) = .returned (.tuple #[.int .u64 b, .bool y]) := by rw [h, h']

set_option maxHeartbeats 1000000 in
theorem rinv_any (a m : Int) (w : World) (a0 : 0 ≤ a) (a1 : a ≤ 18446744073709551615) :
    Calls Try.prog 82 #[.int .u64 a, .int .u64 m] w fun e w' => e = .returned (.tuple #[.int .u64 (invI a m), .bool (invB a m)]) ∧ ∃ n, w' = w.drewN n := by
  cases hm : okM m
  · have hn := okM_no hm
    go_enter Try.func82, Try.ntmps82
    go_wp2_with (go_at_call 55; refine (right_no _ _ hn).mono ?_; rintro e w' ⟨rfl, rfl⟩)
    go_ret2
    exact ⟨ret_inv (inv_bad hm).2.symm (inv_bad hm).1.symm, 0, rfl⟩
  · have ⟨m0, m1⟩ := okM_yes hm
    obtain ⟨x0, x1⟩ := mod_bd a hm
    have HM : Hid (okM m = true) := hm
    clear hm
    have HS : Hid (∀ x y : Int, subI x y m = (x - y) % m ∧ 0 ≤ subI x y m ∧ subI x y m < m) := fun x y => by rw [subI_yes HM.out]; exact ⟨rfl, mod_bd _ HM.out⟩
    have HT : Hid (∀ x y : Int, mulI x y m = x * y % m ∧ 0 ≤ mulI x y m ∧ mulI x y m < m) := fun x y => by rw [mulI_yes HM.out]; exact ⟨rfl, mod_bd _ HM.out⟩
    have HZ : Hid (m ∣ a * 0 - m ∧ m ∣ a * 1 - a % m ∧ ∀ d : Int, d ∣ m → d ∣ a % m → d ∣ m ∧ d ∣ a) := euclid_start a m
    go_enter Try.func82, Try.ntmps82
    go_wp2_with (go_at_call 55; refine (right_yes _ _ m0 m1).mono ?_; rintro e w' ⟨rfl, rfl⟩)
    go_loopw [6, 7, 8, 9] (fun xv rv gv fv wx => ∃ (r x f g : Int) (nd : Nat), rv = .int .u64 r ∧ xv = .int .u64 x ∧ fv = .int .u64 f ∧ gv = .int .u64 g ∧ 1 ≤ r ∧ r ≤ m ∧ 0 ≤ x ∧ x ≤ m ∧ 0 ≤ f ∧ f < m ∧ 0 ≤ g ∧ g < m ∧ Hid (m ∣ a * f - r) ∧ Hid (m ∣ a * g - x) ∧ Hid (∀ d : Int, d ∣ r → d ∣ x → d ∣ m ∧ d ∣ a) ∧ wx = w.drewN nd) (fun xv _ _ _ _ => (intOf xv).toNat)
    case atStart => exact ⟨_, _, 0, 1, 0, rfl, rfl, rfl, rfl, by omega, by omega, x0, by omega, by omega, by omega, by omega, by omega, HZ.out.1, HZ.out.2.1, HZ.out.2.2, rfl⟩
    case round =>
      obtain ⟨r, x, f, g, nd, rfl, rfl, rfl, rfl, r0, r1, y0, y1, f0, f1, g0, g1, D1, D2, D3, rfl⟩ := hrel
      by_cases hx : 0 < x
      · have k0 := Int.ediv_nonneg (show 0 ≤ r by omega) y0
        have k1 : r / x ≤ r := Int.ediv_le_self _ (by omega)
        have k2 := Int.emod_nonneg r (show x ≠ 0 by omega)
        have k3 := Int.emod_lt_of_pos r hx
        have k4 : 0 ≤ r / x * x := Int.mul_nonneg k0 y0
        have k5 : r / x * x ≤ r := Int.ediv_mul_le _ (by omega)
        have e5 : r - r / x * x = r % x := by rw [Int.emod_def, Int.mul_comm]
        have E5 : Hid (r - r / x * x = r % x) := e5
        clear e5
        obtain ⟨u1, u2, u3⟩ := HT.out (r / x) g
        obtain ⟨t1, t2, t3⟩ := HS.out f (mulI (r / x) g m)
        have U1 : Hid (mulI (r / x) g m = r / x * g % m) := u1
        have T1 : Hid (subI f (mulI (r / x) g m) m = (f - mulI (r / x) g m) % m) := t1
        clear u1 t1
        go_wp2_with (first | (go_at_call 71; refine (rmul_any _ _ _ _ (by omega) (by omega) (by omega) (by omega)).mono ?_; rintro e w' ⟨rfl, n, rfl⟩) | (go_at_call 94; refine (rsub_any _ _ _ _ (by omega) (by omega) (by omega) (by omega)).mono ?_; rintro e w' ⟨rfl, n, rfl⟩))
        go_roundw
        case rel => exact ⟨_, _, _, _, _, rfl, by rw [E5.out], rfl, rfl, by omega, by omega, by omega, by omega, g0, g1, t2, t3, D2, by rw [T1.out, U1.out]; exact euclid_step D1.out D2.out, euclid_div D3.out, rfl⟩
        case measure => simp [intOf]; rw [E5.out]; omega
      · have hz : x = 0 := by omega
        subst hz
        by_cases h1 : r = 1
        · subst h1
          have hy := euclid_yes HM.out f0 f1 D1.out
          have HY : Hid (invB a m = true ∧ invI a m = f) := hy
          have HF : Hid (f % m = f) := Int.emod_eq_of_lt f0 f1
          clear hy
          go_wp2
          go_ret2
          exact ⟨ret_inv (by rw [HF.out]; exact HY.out.2.symm) HY.out.1.symm, _, rfl⟩
        · have hy := euclid_no HM.out r0 h1 D3.out
          have HY : Hid (invB a m = false ∧ invI a m = 0) := hy
          clear hy
          go_wp2
          go_ret2
          exact ⟨ret_inv HY.out.2.symm HY.out.1.symm, _, rfl⟩

end Go.Proofs.Ytokhpppealdfmaf
