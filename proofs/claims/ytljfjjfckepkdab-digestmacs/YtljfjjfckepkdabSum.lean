/-
  The contract of the document's Sum (layer 3).
-/
import Derived.Test.YtljfjjfckepkdabPieces
namespace Go.Proofs.Ytljfjjfckepkdab
open Go.RowKit

theorem came_drew {W : World} {size : Nat} {ao : Option Addr} {b off len cap : Nat} {olds : List Value} (h : Came W size ao b off len cap olds) : Came W.drew size ao b off len cap olds := ⟨h.le, h.addr, h.lt, h.oldsLen, h.olds, h.spare⟩

/-- The world with the two tables laid. -/
def shaW (w : World) (t : TypeId) : World := (w.alloc (.cells (hList.map (Value.int .u32)).toArray t)).alloc (.cells (kList.map (Value.int .u32)).toArray t)

theorem list_row (l : List Int) (i : Nat) (hi : i < (l.map (Value.int .u32)).toArray.size) : (l.map (Value.int .u32)).toArray[i]? = some (.int .u32 (l.getD i 0)) := by
  have hi' : i < l.length := by simpa using hi
  simp [List.getD, hi']

theorem shaW_size (w : World) (t : TypeId) : (shaW w t).heap.size = w.heap.size + 1 + 1 := by simp [shaW]
theorem shaW_h (w : World) (t : TypeId) : (shaW w t).rowIs w.heap.size t 8 (fun i => .int .u32 (hS i)) := (World.rowIs_alloc w _ t _ (list_row hList)).alloc _
theorem shaW_k (w : World) (t : TypeId) : (shaW w t).rowIs (w.heap.size + 1) t 64 (fun i => .int .u32 (kS i)) := by
  have h := World.rowIs_alloc (w.alloc (.cells (hList.map (Value.int .u32)).toArray t)) _ t _ (list_row kList)
  have e : (w.alloc (.cells (hList.map (Value.int .u32)).toArray t)).heap.size = w.heap.size + 1 := by simp
  rw [e] at h
  exact h
theorem shaW_old (w : World) (t : TypeId) : Old w (shaW w t) := ((Old.refl w).alloc _).alloc _

theorem str_one (s : ByteArray) : numsOf (s ++ ⟨#[128]⟩) = numsOf s ++ [128] := by
  simp [numsOf]
theorem size_one (s : ByteArray) : (s ++ ⟨#[128]⟩ : ByteArray).size = s.size + 1 := by
  rw [ByteArray.size_append]
  rfl

theorem sum_start (w : World) (s : ByteArray) (t u : TypeId) (hs : s.size ≤ 1000000) (cap : Nat) (hc : cap = grownCap (shaW w t) (s.size + 1) 0 u) :
    cap ≤ maxLen ∧ Came (((shaW w t).alloc (.cells (bytesRow (s ++ ⟨#[128]⟩) cap) u ((bytesRow (s ++ ⟨#[128]⟩) cap).size, (bytesRow (s ++ ⟨#[128]⟩) cap).size + 1))).drew) 1 (some ⟨w.heap.size + 1 + 1, 0, none⟩) (w.heap.size + 1 + 1) 0 (s.size + 1) cap ((numsOf s ++ [128]).map (Value.int .u8)) ∧
    (((shaW w t).alloc (.cells (bytesRow (s ++ ⟨#[128]⟩) cap) u ((bytesRow (s ++ ⟨#[128]⟩) cap).size, (bytesRow (s ++ ⟨#[128]⟩) cap).size + 1))).drew).rowIs w.heap.size t 8 (fun i => .int .u32 (hS i)) ∧
    (((shaW w t).alloc (.cells (bytesRow (s ++ ⟨#[128]⟩) cap) u ((bytesRow (s ++ ⟨#[128]⟩) cap).size, (bytesRow (s ++ ⟨#[128]⟩) cap).size + 1))).drew).rowIs (w.heap.size + 1) t 64 (fun i => .int .u32 (kS i)) ∧
    Old w (((shaW w t).alloc (.cells (bytesRow (s ++ ⟨#[128]⟩) cap) u ((bytesRow (s ++ ⟨#[128]⟩) cap).size, (bytesRow (s ++ ⟨#[128]⟩) cap).size + 1))).drew) := by
  have h1 := grownCap_ge (shaW w t) (s.size + 1) 0 u
  have h2 := grownCap_le_maxLen (shaW w t) (s.size + 1) 0 u (by unfold maxLen; omega)
  rw [← hc] at h1 h2
  have c := came_bytes (shaW w t) (s ++ ⟨#[128]⟩) u cap (by rw [size_one]; exact h1)
  rw [shaW_size, size_one, str_one] at c
  exact ⟨h2, came_drew c, ((shaW_h w t).alloc _).drew, ((shaW_k w t).alloc _).drew, ((shaW_old w t).alloc _).drew⟩

theorem zeros_hit (n : Nat) : (n + 1 + zeros n) % 64 = 56 := by unfold zeros; omega
theorem zeros_miss {n m : Nat} (h : m < zeros n) : (n + 1 + m) % 64 ≠ 56 := by unfold zeros at h; omega
theorem zeros_lt (n : Nat) : zeros n < 64 := by unfold zeros; omega
def lenV : Value → Nat
  | .slice _ n _ => n
  | _ => 0
theorem rep_succ (m : Nat) : List.replicate m (Value.int .u8 0) ++ [.int .u8 0] = List.replicate (m + 1) (Value.int .u8 0) := by
  rw [List.replicate_succ']

theorem upon_below {W w w' : World} {e : TypeId} {size : Nat} {ao : Option Addr} {b off len cap : Nat} {olds : List Value} {v : Value} {m : Nat} {ks : List Value} {r : Nat} (h : Upon W e size ao b off len cap olds w v m ks r) (hc : Came W size ao b off len cap olds) (hb : Below w.heap.size w w') : Upon W e size ao b off len cap olds w' v m ks r :=
  h.carry hc hb.os hb.output (fun i hi => hb.block i (Nat.lt_of_lt_of_le hi h.kept.size)) (fun g _ hg => hb.block g hg)

theorem src_nums {P : Program} {tx : TypeId} (hk : P.underlying tx = some .string) (xs : List Int) (h : Bts xs) (n : Nat) (hn : xs.length = n) (w : World) : Src P 1 tx (.string (strOfNums xs)) n (xs.map (Value.int .u8)) w := by
  have := Src.ofString w hk (strOfNums xs)
  rw [strOfNums_size, byteCells_nums, nums_str h, hn] at this
  exact this

/-- Where the elements lie when all is appended. -/
theorem upon_done {W w : World} {e : TypeId} {b len cap : Nat} {olds : List Value} {v : Value} {m : Nat} {ks : List Value} {r : Nat} (h : Upon W e 1 (some ⟨b, 0, none⟩) b 0 len cap olds w v m ks r) (hc : Came W 1 (some ⟨b, 0, none⟩) b 0 len cap olds) (_hp : 0 < m) :
    ∃ g c', v = .slice (some ⟨g, 0, none⟩) (len + m) c' ∧ (g = b ∨ W.heap.size ≤ g) ∧ ∀ j, j < len + m → w.cell? ⟨g, j, none⟩ = (olds ++ ks)[j]? := by
  rcases h.val with ⟨h1, rfl, h3⟩ | ⟨h1, g, c', rfl, ho⟩
  · refine ⟨b, cap, rfl, Or.inl rfl, fun j hj => ?_⟩
    have := h.inArray hc (by omega) h3 j (by omega)
    rwa [Nat.zero_add] at this
  · exact ⟨g, c', rfl, Or.inr ho.new, fun j hj => ho.holds j (by omega)⟩

theorem pad_cells (xs : List Int) : ((xs ++ [128]).map (Value.int .u8)) ++ (List.replicate (zeros xs.length) (Value.int .u8 0) ++ (bytesL (xs.length * 8) 8).map (Value.int .u8)) = (padL xs).map (Value.int .u8) := by
  simp [padL]
theorem pad_len (xs : List Int) : (padL xs).length = xs.length + 1 + (zeros xs.length + 8) := by
  simp [padL, bytesL_len]
  omega
theorem pad_pieces (n : Nat) : n + 1 + (zeros n + 8) = 64 * pieces n := by
  unfold pieces zeros
  omega
theorem pad_bd {xs : List Int} (h : Bts xs) : Bts (padL xs) := by
  intro x hx
  simp only [padL, List.mem_append, List.mem_singleton, List.mem_replicate] at hx
  rcases hx with ((hx | rfl) | ⟨_, rfl⟩) | hx
  · exact h x hx
  · omega
  · omega
  · exact bytesL_bd _ _ x hx
theorem getD_bd {xs : List Int} (h : Bts xs) (i : Nat) : 0 ≤ xs.getD i 0 ∧ xs.getD i 0 ≤ 255 := by
  by_cases hi : i < xs.length
  · have e : xs.getD i 0 = xs[i] := by simp [List.getD, hi]
    rw [e]
    exact h _ (List.getElem_mem hi)
  · have e : xs.getD i 0 = 0 := by
      rw [List.getD, List.getElem?_eq_none (by omega)]
      rfl
    rw [e]
    omega

theorem laid_of {w W wx : World} {e t : TypeId} {cap : Nat} {s : ByteArray} {v : Value} {r : Nat} (hc : Came W 1 (some ⟨w.heap.size + 1 + 1, 0, none⟩) (w.heap.size + 1 + 1) 0 (s.size + 1) cap ((numsOf s ++ [128]).map (Value.int .u8)))
    (hx : W.rowIs w.heap.size t 8 (fun i => .int .u32 (hS i)) ∧ W.rowIs (w.heap.size + 1) t 64 (fun i => .int .u32 (kS i)) ∧ Old w W)
    (hu : Upon W e 1 (some ⟨w.heap.size + 1 + 1, 0, none⟩) (w.heap.size + 1 + 1) 0 (s.size + 1) cap ((numsOf s ++ [128]).map (Value.int .u8)) wx v (zeros s.size + 8) (List.replicate (zeros s.size) (Value.int .u8 0) ++ (bytesL (s.size * 8) 8).map (Value.int .u8)) r) :
    Laid w wx t (fun i => (padL (numsOf s)).getD i 0) (64 * pieces s.size) v hS := by
  have hp := pad_cells (numsOf s)
  rw [numsOf_len] at hp
  obtain ⟨g, c', hv, hg, hcell⟩ := upon_done hu hc (by omega)
  rw [hp] at hcell
  refine ⟨⟨g, c', ?_, ?_, fun j hj => ?_⟩, row_upon hu hx.1 (by omega), row_upon hu hx.2.1 (by omega), hx.2.2.upon (by omega) hu⟩
  · rw [hv, pad_pieces]
  · have := hx.2.1.lt
    omega
  · have hj' : j < s.size + 1 + (zeros s.size + 8) := by rw [pad_pieces]; exact hj
    have hl : j < (padL (numsOf s)).length := by rw [pad_len, numsOf_len]; exact hj'
    rw [hcell j hj']
    simp [List.getD, hl]

theorem hS_bd (i : Nat) : 0 ≤ hS i ∧ hS i ≤ 4294967295 := by
  have : ∀ x ∈ hList, 0 ≤ x ∧ x ≤ 4294967295 := by decide
  unfold hS
  by_cases hi : i < hList.length
  · have e : hList.getD i 0 = hList[i] := by simp [List.getD, hi]
    rw [e]
    exact this _ (List.getElem_mem hi)
  · have e : hList.getD i 0 = 0 := by
      rw [List.getD, List.getElem?_eq_none (by omega)]
      rfl
    rw [e]
    omega
theorem state_bd (B : Nat → Int) (c i : Nat) : 0 ≤ state B c i ∧ state B c i ≤ 4294967295 := by
  cases c with
  | zero => exact hS_bd i
  | succ c =>
    show 0 ≤ add32 _ _ ∧ add32 _ _ ≤ _
    unfold add32
    omega
theorem outL_len (h : Nat → Int) : ∀ i, (outL h i).length = 4 * i
  | 0 => rfl
  | i + 1 => by
    show (outL h i ++ bytesL (h i) 4).length = _
    rw [List.length_append, outL_len h i, bytesL_len]
    omega
theorem idx_up (i : Nat) : Value.int .i64 ((i : Int) + 1) = .int .i64 ((i + 1 : Nat) : Int) := by
  rw [Int.natCast_add]
  rfl

set_option maxRecDepth 100000 in
set_option maxHeartbeats 4000000 in
theorem sum_any (s : ByteArray) (w : World) (hs : s.size ≤ 1000000) :
    Calls Try.prog 25 #[.string s] w fun e w' => e = .returned (.string (strOfNums (sumL (numsOf s)))) ∧ Old w w' := by
  have hcv := fun wx => run_bytes_of_string (P := Try.prog) wx 9 47 5 (s ++ ⟨#[128]⟩) Try.underlying9 Try.underlying47 Try.underlying5
  go_enter Try.func25, Try.ntmps25
  go_upto_region 3 with (go_at_call 40; refine (ks_any _).mono ?_; rintro e w' ⟨rfl, rfl⟩)
  go_cut [5] (fun bv wx => ∃ cap : Nat, bv = .slice (some ⟨w.heap.size + 1 + 1, 0, none⟩) (s.size + 1) cap ∧ cap ≤ maxLen ∧ Came wx 1 (some ⟨w.heap.size + 1 + 1, 0, none⟩) (w.heap.size + 1 + 1) 0 (s.size + 1) cap ((numsOf s ++ [128]).map (Value.int .u8)) ∧ wx.rowIs w.heap.size 54 8 (fun i => .int .u32 (hS i)) ∧ wx.rowIs (w.heap.size + 1) 54 64 (fun i => .int .u32 (kS i)) ∧ Old w wx)
  case first =>
    go_wp2_with fail
    go_meet
    case rel => exact ⟨_, rfl, sum_start w s 54 5 hs _ rfl⟩
  obtain ⟨cap, rfl, hcap, hcame, hh, hk, hold⟩ := hcut
  clear hcv
  obtain ⟨W0, hW0⟩ : ∃ x, x = wc := ⟨_, rfl⟩
  subst hW0
  have HC : Hid (Came W0 1 (some ⟨w.heap.size + 1 + 1, 0, none⟩) (w.heap.size + 1 + 1) 0 (s.size + 1) cap ((numsOf s ++ [128]).map (Value.int .u8))) := hcame
  have HX : Hid (W0.rowIs w.heap.size 54 8 (fun i => .int .u32 (hS i)) ∧ W0.rowIs (w.heap.size + 1) 54 64 (fun i => .int .u32 (kS i)) ∧ Old w W0) := ⟨hh, hk, hold⟩
  clear hcame hh hk hold
  obtain ⟨i0, hi, hz0, hz1, hz2⟩ := info_parts u8info
  go_upto_block 0 with fail
  go_cut [5] (fun bv wx => ∃ r : Nat, Upon W0 5 1 (some ⟨w.heap.size + 1 + 1, 0, none⟩) (w.heap.size + 1 + 1) 0 (s.size + 1) cap ((numsOf s ++ [128]).map (Value.int .u8)) wx bv (zeros s.size) (List.replicate (zeros s.size) (Value.int .u8 0)) r)
  case first =>
    go_wp2_with fail
    go_loopw [5] (fun bv wx => ∃ m r : Nat, m ≤ zeros s.size ∧ Upon W0 5 1 (some ⟨w.heap.size + 1 + 1, 0, none⟩) (w.heap.size + 1 + 1) 0 (s.size + 1) cap ((numsOf s ++ [128]).map (Value.int .u8)) wx bv m (List.replicate m (Value.int .u8 0)) r) (fun bv _ => s.size + 1 + zeros s.size - lenV bv)
    case atStart => exact ⟨0, 0, Nat.zero_le _, Upon.start HC.out⟩
    case round =>
      obtain ⟨m, r, hm, hu⟩ := hrel
      have HU : Hid (Upon W0 5 1 (some ⟨w.heap.size + 1 + 1, 0, none⟩) (w.heap.size + 1 + 1) 0 (s.size + 1) cap ((numsOf s ++ [128]).map (Value.int .u8)) wr u5 m (List.replicate m (Value.int .u8 0)) r) := hu
      obtain ⟨a', c', rfl⟩ := hu.shape
      clear hu
      have hz := zeros_lt s.size
      by_cases hlt : m < zeros s.size
      · have hne := zeros_miss hlt
        go_wp2_with (at_builtin; refine wpList_append_upon _ rfl (.tmp 30) (.tmp 31) 47 47 rfl HC.out i0 (.int .u8 0) 1 Try.underlying47 hi hz0 hz1 hz2 rfl rfl (HU.out.alloc HC.out _) _ 1 [.int .u8 0] rfl (Src.ofSlice _ Try.underlying47 ⟨wr.heap.size, 0, none⟩ 1 1 [.int .u8 0] rfl (cell_one_new _ _ _) (by intro u hu; simp at hu; subst hu; rfl)) (by unfold maxLen; omega) (by omega) ?_; intro v' w1 hu1)
        obtain ⟨a1, c1, rfl⟩ := hu1.shape
        rw [rep_succ] at hu1
        go_wp2_with fail
        go_roundw
        case rel => exact ⟨m + 1, _, by omega, hu1⟩
        case measure => simp [lenV]; omega
      · have he : m = zeros s.size := by omega
        have hit := zeros_hit s.size
        rw [← he] at hit
        go_wp2_with fail
        go_meet
        case rel => exact ⟨r, he ▸ HU.out⟩
  obtain ⟨r, hu⟩ := hcut
  have HU : Hid (Upon W0 5 1 (some ⟨w.heap.size + 1 + 1, 0, none⟩) (w.heap.size + 1 + 1) 0 (s.size + 1) cap ((numsOf s ++ [128]).map (Value.int .u8)) wc u5 (zeros s.size) (List.replicate (zeros s.size) (Value.int .u8 0)) r) := hu
  clear hu
  have hz := zeros_lt s.size
  go_upto_region 6 with fail
  go_cut [5] (fun bv wx => Laid w wx 54 (fun i => (padL (numsOf s)).getD i 0) (64 * pieces s.size) bv hS)
  case first =>
    go_wp2_with (first
      | (go_at_call 41; refine (bytes_any _ 8 _ (by omega) (by omega) (by omega) (by omega)).mono ?_; rintro e w' ⟨rfl, hb⟩)
      | (at_builtin; refine wpList_append_upon _ rfl (.tmp 33) (.tmp 38) 47 9 rfl HC.out i0 (.int .u8 0) 1 Try.underlying47 hi hz0 hz1 hz2 rfl rfl (upon_below HU.out HC.out hb) _ 8 _ rfl (src_nums Try.underlying9 _ (bytesL_bd _ _) 8 (bytesL_len _ _) _) (by unfold maxLen; omega) (by omega) ?_; intro v' w1 hu1))
    go_meet
    case rel => exact laid_of HC.out HX.out hu1
  have HS : Hid (sumL (numsOf s) = outL (state (fun i => (padL (numsOf s)).getD i 0) (pieces s.size)) 8) := by unfold Hid sumL; rw [numsOf_len]
  have HB : Hid (∀ i, 0 ≤ (fun i => (padL (numsOf s)).getD i 0) i ∧ (fun i => (padL (numsOf s)).getD i 0) i ≤ 255) := getD_bd (pad_bd (numsOf_bd s))
  have hP : pieces s.size ≤ 20000 := by have := pad_pieces s.size; omega
  clear HU HC HX hi hz0 hz1 hz2
  generalize (fun i => (padL (numsOf s)).getD i 0) = B at *
  generalize pieces s.size = P at *
  obtain ⟨⟨g, bc, rfl, hg, hcell⟩, hh, hk, hold⟩ := hcut
  have HL : Hid (Laid w wc 54 B (64 * P) (.slice (some ⟨g, 0, none⟩) (64 * P) bc) hS) := ⟨⟨g, bc, rfl, hg, hcell⟩, hh, hk, hold⟩
  clear hcell hh hk hold hg
  go_upto_block 2 with fail
  refine pieces_loop w _ B P g bc _ _ _ _ _ _ _ _ _ _ _ _ _ _ _ _ _ _ _ _ _ _ _ _ _ _ _ _ _ _ _ _ _ _ _ _ _ _ _ _ _ _ _ _ _ _ _ _ _ _ _ _ _ _ _ _ _ _ _ _ _ _ _ _ _ _ _ _ _ _ _ _ _ _ _ _ _ _ _ _ _ _ _ _ _ _ _ _ _ _ _ _ _ _ _ _ _ _ _ _ _ _ _ _ _ _ _ _ _ _ _ _ _ _ _ _ _ _ _ _ _ _ _ _ _ _ _ _ _ _ _ _ _ _ _ _ _ _ _ _ _ _ _ _ _ _ _ _ _ _ _ _ _ _ _ _ _ _ _ _ _ _ _ _ _ _ _ _ _ _ _ _ _ _ _ _ _ _ _ _ _ _ _ _ _ _ _ _ _ _ _ _ _ _ _ _ _ _ _ _ _ _ _ _ _ _ _ _ _ _ _ _ _ _ _ _ _ _ _ _ _ _ _ _ _ _ _ _ _ _ _ _ _ _ _ _ _ _ _ _ _ _ _ _ _ _ _ _ _ _ _ _ _ _ _ _ _ _ _ _ _ _ _ _ hP HB.out HL.out ?_
  intro u6 u7 u8 u9 u10 u11 u12 u13 u14 u15 u16 u17 u18 u40 u41 u42 u43 u44 u45 u46 u47 u48 u49 u50 u51 u52 u53 u54 u55 u56 u57 u58 u59 u60 u61 u62 u63 u64 u65 u66 u67 u68 u69 u70 u71 u72 u73 u74 u75 u76 u77 u78 u79 u80 u81 u82 u83 u84 u85 u86 u87 u88 u89 u90 u91 u92 u93 u94 u95 u96 u97 u98 u99 u100 u101 u102 u103 u104 u105 u106 u107 u108 u109 u110 u111 u112 u113 u114 u115 u116 u117 u118 u119 u120 u121 u122 u123 u124 u125 u126 u127 u128 u129 u130 u131 u132 u133 u134 u135 u136 u137 u138 u139 u140 u141 u142 u143 u144 u145 u146 u147 u148 u149 u150 u151 u152 u153 u154 u155 u156 u157 u158 u159 u160 u161 u162 u163 u164 u165 u166 u167 u168 u169 u170 u171 u172 u173 u174 u175 u176 u177 u178 u179 u180 u181 u182 u183 u184 u185 u186 u187 u188 u189 u190 u191 u192 u193 u194 u195 u196 u197 u198 u199 u200 u201 u202 u203 u204 u205 u206 u207 u208 u209 u210 u211 u212 u213 u214 u215 u216 u217 u218 u219 u220 u221 u222 u223 u224 u225 u226 u227 u228 u229 u230 u231 u232 u233 u234 u235 u236 u237 u238 u239 u240 u241 u242 u243 u244 u245 u246 u247 u248 u249 u250 u251 u252 u253 u254 w1 hl
  have H1 : Hid (Old w w1 ∧ w1.rowIs w.heap.size 54 8 (fun i => .int .u32 (state B P i))) := ⟨hl.old, hl.hrow⟩
  have HE : Hid (∀ i, 0 ≤ state B P i ∧ state B P i ≤ 4294967295) := state_bd B P
  clear hl HL HB
  generalize state B P = h at *
  dsimp only
  go_wp2_with fail
  go_loopw [19, 20] (fun ov iv wx => ∃ i : Nat, iv = .int .i64 (i : Int) ∧ i ≤ 8 ∧ ov = .string (strOfNums (outL h i)) ∧ Hid (Old w wx ∧ wx.rowIs w.heap.size 54 8 (fun i => .int .u32 (h i)))) (fun _ iv _ => 8 - (intOf iv).toNat)
  case atStart => exact ⟨0, rfl, Nat.zero_le _, rfl, H1⟩
  case round =>
    obtain ⟨i, rfl, hi, rfl, HR⟩ := hrel
    by_cases hlt : i < 8
    · have ci := HR.out.2.cell hlt
      obtain ⟨e0, e1⟩ := HE.out i
      have z1 : (strOfNums (outL h i)).size = 4 * i := by rw [strOfNums_size, outL_len]
      have z2 : (strOfNums (bytesL (h i) 4)).size = 4 := by rw [strOfNums_size, bytesL_len]
      go_wp2_with (go_at_call 41; refine (bytes_any _ 4 _ (by omega) (by omega) (by omega) (by omega)).mono ?_; rintro e w' ⟨rfl, hb⟩)
      go_roundw
      case rel => exact ⟨i + 1, idx_up i, by omega, congrArg Value.string (str_add _ _), HR.out.1.trans (Old.ofBelow hb), (Old.ofBelow hb).row HR.out.2⟩
      case measure => simp [intOf]; omega
    · have he : i = 8 := by omega
      subst he
      go_wp2_with fail
      go_ret
      exact ⟨by rw [HS.out]; rfl, HR.out.1⟩

end Go.Proofs.Ytljfjjfckepkdab
