/-
  What the proof needs, part 7.
-/
import Derived.Test.YtlnmjbbpenhdbaaGreatKp06
import Derived.Deep.OwnRows
import Derived.Test.YtlnmjbbpenhdbaaGreatKp04
import Derived.Laws.IdiomStrings
import Derived.Deep.CutRange
import Derived.Deep.CutBlock
import Derived.Deep.DeepCutAuto
import Derived.Deep.RegionHeld3
import Derived.Laws.BitsAllLaws
namespace Go.Proofs.YtlnmjbbpenhdbaaGreat
set_option linter.unusedSimpArgs false
set_option linter.unusedVariables false
set_option maxRecDepth 100000
set_option maxHeartbeats 32000000
section
open Go.RowKit
theorem turn_any (x : Int) (n : Nat) (w : World) (n1 : n <= 32) :
  Calls Tryz.prog 159 #[.int .u32 x, .int .i64 (n : Int)] w fun e w' => e = .returned (.int .u32 (rot x n)) /\ ∃ n, w' = w.drewN n := by
 go_enter Tryz.func159, Tryz.ntmps159
 go_wp2_with fail
 go_quiet (fail)
 go_wp2
 go_ret
 exact ⟨rfl, _, rfl⟩
theorem ks_any (w : World) : Calls Tryz.prog 158 #[] w fun e w' => e = .returned (.slice (some ⟨w.heap.size, 0, none⟩) 64 64) /\ w' = w.alloc (.cells (kList.map (Value.int .u32)).toArray 163) := by
 go_enter Tryz.func158, Tryz.ntmps158
 go_wp2
 go_ret
 exact ⟨rfl, rfl⟩
end
section
open Go.RowKit
def numsOf (s : ByteArray) : List Int := s.data.toList.map fun b => (b.toNat : Int)
theorem numsOf_len (s : ByteArray) : (numsOf s).length = s.size := by
 unfold numsOf
 rw [List.length_map, Array.length_toList]
 rfl
theorem numsOf_str (s : ByteArray) : strOfNums (numsOf s) = s := by
 have : ∀ l : List UInt8, (l.map fun b => (b.toNat : Int)).map (fun n => UInt8.ofNat n.toNat) = l := by
  intro l
  induction l with
  | nil => rfl
  | cons b l ih => simp only [List.map_cons, ih]; simp
 unfold strOfNums numsOf
 rw [this]
theorem numsOf_bd (s : ByteArray) : ∀ x ∈ numsOf s, 0 <= x /\ x <= 255 := by
 intro x hx
 obtain ⟨b, _, rfl⟩ := List.mem_map.1 hx
 have := b.toNat_lt
 omega
def Bts (xs : List Int) : Prop := ∀ x ∈ xs, 0 <= x /\ x <= 255
theorem nums_str {xs : List Int} (h : Bts xs) : numsOf (strOfNums xs) = xs := by
 unfold numsOf
 rw [strOfNums_data, List.map_map]
 conv => rhs; rw [<- List.map_id xs]
 refine List.map_congr_left fun x hx => ?_
 have := h x hx
 simp
 omega
theorem str_add (xs ys : List Int) : strOfNums xs ++ strOfNums ys = strOfNums (xs ++ ys) := by
 apply ByteArray.ext
 simp [strOfNums]
theorem byteCells_nums (s : ByteArray) : byteCells s = (numsOf s).map (Value.int .u8) := by
 simp [byteCells, numsOf]
theorem byteAt_bd (n : Int) (i : Nat) : 0 <= byteAt n i /\ byteAt n i <= 255 := by
 unfold byteAt
 omega
theorem bytesL_bd (n : Int) (k : Nat) : Bts (bytesL n k) := by
 intro x hx
 obtain ⟨t, _, rfl⟩ := List.mem_map.1 hx
 exact byteAt_bd _ _
theorem bytesL_len (n : Int) (k : Nat) : (bytesL n k).length = k := bytesP_len n k k
theorem came_bytes (w : World) (s : ByteArray) (t : TypeId) (cap : Nat) (h : s.size <= cap) :
  Came (w.alloc (.cells (bytesRow s cap) t ((bytesRow s cap).size, (bytesRow s cap).size + 1))) 1 (some ⟨w.heap.size, 0, none⟩) w.heap.size 0 s.size cap ((numsOf s).map (Value.int .u8)) := by
 have hsz : (bytesRow s cap).size = cap := by
  unfold bytesRow
  rw [Array.size_append, Array.size_map, Array.size_replicate]
  have : s.data.size = s.size := rfl
  omega
 refine ⟨h, fun _ => rfl, fun _ => by simp, by simp [numsOf_len], fun j u hj => ?_, fun j hj => ⟨?_, ?_⟩⟩
 · have hj' : j < s.data.size := by
   have := (List.getElem?_eq_some_iff.1 hj).1
   simpa [numsOf] using this
  rw [Nat.zero_add, World.cell?_alloc_mark, bytesRow_at s cap j hj', <- hj]
  simp [numsOf, Array.getElem?_eq_getElem hj']
 · rw [World.cell?_alloc_mark, Array.getElem?_eq_getElem (by rw [hsz]; omega)]
  rfl
 · rw [World.frozen?_alloc_mark, hsz]
  simp
  omega
end
section
open Go.RowKit
def findBlock (n : Nat) : Code -> Option Code
 | .block m c => if m = n then some (.block m c) else findBlock n c
 | .seq a b => match findBlock n a with
  | some c => some c
  | none => findBlock n b
 | .loop c => findBlock n c
 | .cond _ a b => match findBlock n a with
  | some c => some c
  | none => findBlock n b
 | _ => none
theorem words_step {W wr : World} {ty : TypeId} {D : Nat -> Int} {t : Nat} {v : Int} (h : Old W wr /\ wr.rowIs W.heap.size ty 64 (fun j => .int .u32 (sched D t j))) (hv : v = word D (sched D t) t) :
  Old W (wr.setCell ⟨W.heap.size, t, none⟩ (.int .u32 v)) /\ (wr.setCell ⟨W.heap.size, t, none⟩ (.int .u32 v)).rowIs W.heap.size ty 64 (fun j => .int .u32 (sched D (t + 1) j)) := by
 refine ⟨h.1.setCell (Nat.le_refl _) _, (h.2.set t _).congr fun j _ => ?_⟩
 show (if j = t then Value.int .u32 v else .int .u32 (sched D t j)) = .int .u32 (if j = t then word D (sched D t) t else sched D t j)
 split
 · rw [hv]
 · rfl
theorem keep_two {w : World} {b t i j : Nat} {x y v : Value} (h : w.cell? ⟨b, i, none⟩ = some x /\ w.cell? ⟨b, j, none⟩ = some y) (hi : t ≠ i) (hj : t ≠ j) : (w.setCell ⟨b, t, none⟩ v).cell? ⟨b, i, none⟩ = some x /\ (w.setCell ⟨b, t, none⟩ v).cell? ⟨b, j, none⟩ = some y := by
 refine ⟨?_, ?_⟩
 · rw [World.cell?_setCell_other _ _ _ _ (fun e => hi (congrArg Addr.off e))]
  exact h.1
 · rw [World.cell?_setCell_other _ _ _ _ (fun e => hj (congrArg Addr.off e))]
  exact h.2
theorem add_four (a b c d : Int) : add32 (add32 (add32 a b) c) d = (a + b + c + d) % 4294967296 := by
 unfold add32
 omega
theorem word_low {D : Nat -> Int} {S : Nat -> Int} {t : Nat} (h : t < 16) : word D S t = four (D (4 * t)) (D (4 * t + 1)) (D (4 * t + 2)) (D (4 * t + 3)) := by
 unfold word
 rw [if_pos h]
theorem word_high {D : Nat -> Int} {S : Nat -> Int} {t : Nat} (h : ¬ t < 16) : word D S t = add32 (add32 (add32 (S (t - 16)) (low0 (S (t - 15)))) (S (t - 7))) (low1 (S (t - 2))) := by
 unfold word
 rw [if_neg h]
theorem words_loop {K : Act -> World -> Prop} {Q' : Exit -> Act -> World -> Prop} (W w0 : World) (B : Nat -> Int) (g M bc c : Nat) (c0 c1 c2 c3 c4 c9 c10 c11 c12 c13 c14 c15 c16 c17 c18 c19 c20 c21 c22 c23 c24 c25 c26 c27 c28 c29 c30 c31 c32 c33 c34 c35 c36 c37 c38 c39 c40 c41 c42 c43 c44 c45 c46 c47 c48 c49 c50 c51 c52 c53 c54 c55 c56 c57 c58 c59 c60 c61 c62 c63 c64 c65 c66 c67 c68 c69 c70 c71 c72 c73 c74 c75 c76 c77 c78 c79 c80 c81 c82 c83 c84 c85 c86 c87 c88 c89 c90 c91 c92 c93 c94 c95 c96 c97 c98 c99 c100 c101 c102 c103 c104 c105 c106 c107 c108 c109 c110 c111 c112 c113 c114 c115 c116 c117 c118 c119 c120 c121 c122 c123 c124 c125 c126 c127 c128 c129 c130 c131 c132 c133 c134 c135 c136 c137 c138 c139 c140 c141 c142 c143 c144 c145 c146 c147 c148 c149 c150 c151 c152 c153 c154 c155 c156 c157 c158 c159 c160 c161 c162 c163 c164 c165 c166 c167 c168 c169 c170 c171 c172 c173 c174 c175 c176 c177 c178 c179 c180 c181 c182 c183 c184 c185 c186 c187 c188 c189 c190 c191 c192 c193 c194 c195 c196 c197 c198 c199 c200 c201 c202 c203 c204 c205 c206 c207 c208 c209 c210 c211 c212 c213 c214 c215 c216 c217 c218 c219 c220 c221 c222 c223 c224 c225 c226 c227 c228 c229 c230 c231 c232 c233 c234 c235 c236 c237 c238 c239 c240 c241 c242 c243 c244 c245 c246 c247 c248 c249 c250 c251 c252 c253 c254 c255 c256 c257 c258 c259 c260 c261 c262 c263 c264 c265 c266 c267 : Value)
  (hM : 64 * c + 64 <= M) (hM2 : M <= 2000000) (hold : Old W w0) (htext : ∀ j, j < M -> W.cell? ⟨g, j, none⟩ = some (.int .u8 (B j))) (hB : ∀ i, 0 <= B i /\ B i <= 255)
  (hrow : w0.rowIs W.heap.size 163 64 (fun _ => .int .u32 0))
  (hK : ∀ (u8 u9 u10 u11 u47 u48 u49 u50 u51 u52 u53 u54 u55 u56 u57 u58 u59 u60 u61 u62 u63 u64 u65 u66 u67 u68 u69 u70 u71 u72 u73 u74 u75 u76 u77 u78 u79 u80 u81 u82 u83 u84 u85 u86 u87 u88 u89 u90 u91 u92 u93 u94 u95 u96 u97 u98 u99 u100 u101 u102 u103 u104 u105 u106 u107 u108 u109 u110 u111 u112 u113 u114 u115 u116 u117 u118 u119 u120 u121 u122 u123 u124 u125 u126 u127 u128 u129 u130 : Value) (w' : World), Old W w' -> w'.rowIs W.heap.size 163 64 (fun j => .int .u32 (sched (fun j => B (64 * c + j)) 64 j)) -> K ⟨#[c0, c1, c2, c3, c4, .slice (some ⟨g, 0, none⟩) M bc, .int .i64 (64 * (c : Int)), .slice (some ⟨W.heap.size, 0, none⟩) 64 64, u8, u9, u10, u11, c12, c13, c14, c15, c16, c17, c18, c19, c20, c21, c22, c23, c24, c25, c26, c27, c28, c29, c30, c31, c32, c33, c34, c35, c36, c37, c38, c39, c40, c41, c42, c43, c44, c45, c46, u47, u48, u49, u50, u51, u52, u53, u54, u55, u56, u57, u58, u59, u60, u61, u62, u63, u64, u65, u66, u67, u68, u69, u70, u71, u72, u73, u74, u75, u76, u77, u78, u79, u80, u81, u82, u83, u84, u85, u86, u87, u88, u89, u90, u91, u92, u93, u94, u95, u96, u97, u98, u99, u100, u101, u102, u103, u104, u105, u106, u107, u108, u109, u110, u111, u112, u113, u114, u115, u116, u117, u118, u119, u120, u121, u122, u123, u124, u125, u126, u127, u128, u129, u130, c131, c132, c133, c134, c135, c136, c137, c138, c139, c140, c141, c142, c143, c144, c145, c146, c147, c148, c149, c150, c151, c152, c153, c154, c155, c156, c157, c158, c159, c160, c161, c162, c163, c164, c165, c166, c167, c168, c169, c170, c171, c172, c173, c174, c175, c176, c177, c178, c179, c180, c181, c182, c183, c184, c185, c186, c187, c188, c189, c190, c191, c192, c193, c194, c195, c196, c197, c198, c199, c200, c201, c202, c203, c204, c205, c206, c207, c208, c209, c210, c211, c212, c213, c214, c215, c216, c217, c218, c219, c220, c221, c222, c223, c224, c225, c226, c227, c228, c229, c230, c231, c232, c233, c234, c235, c236, c237, c238, c239, c240, c241, c242, c243, c244, c245, c246, c247, c248, c249, c250, c251, c252, c253, c254, c255, c256, c257, c258, c259, c260, c261, c262, c263, c264, c265, c266, c267], []⟩ w') :
  Code.wp Tryz.prog ((findBlock 4 (Tryz.f149.body.getD .skip)).getD .skip) (Exit.then K Q') ⟨#[c0, c1, c2, c3, c4, .slice (some ⟨g, 0, none⟩) M bc, .int .i64 (64 * (c : Int)), .slice (some ⟨W.heap.size, 0, none⟩) 64 64, .int .i64 0, c9, c10, c11, c12, c13, c14, c15, c16, c17, c18, c19, c20, c21, c22, c23, c24, c25, c26, c27, c28, c29, c30, c31, c32, c33, c34, c35, c36, c37, c38, c39, c40, c41, c42, c43, c44, c45, c46, c47, c48, c49, c50, c51, c52, c53, c54, c55, c56, c57, c58, c59, c60, c61, c62, c63, c64, c65, c66, c67, c68, c69, c70, c71, c72, c73, c74, c75, c76, c77, c78, c79, c80, c81, c82, c83, c84, c85, c86, c87, c88, c89, c90, c91, c92, c93, c94, c95, c96, c97, c98, c99, c100, c101, c102, c103, c104, c105, c106, c107, c108, c109, c110, c111, c112, c113, c114, c115, c116, c117, c118, c119, c120, c121, c122, c123, c124, c125, c126, c127, c128, c129, c130, c131, c132, c133, c134, c135, c136, c137, c138, c139, c140, c141, c142, c143, c144, c145, c146, c147, c148, c149, c150, c151, c152, c153, c154, c155, c156, c157, c158, c159, c160, c161, c162, c163, c164, c165, c166, c167, c168, c169, c170, c171, c172, c173, c174, c175, c176, c177, c178, c179, c180, c181, c182, c183, c184, c185, c186, c187, c188, c189, c190, c191, c192, c193, c194, c195, c196, c197, c198, c199, c200, c201, c202, c203, c204, c205, c206, c207, c208, c209, c210, c211, c212, c213, c214, c215, c216, c217, c218, c219, c220, c221, c222, c223, c224, c225, c226, c227, c228, c229, c230, c231, c232, c233, c234, c235, c236, c237, c238, c239, c240, c241, c242, c243, c244, c245, c246, c247, c248, c249, c250, c251, c252, c253, c254, c255, c256, c257, c258, c259, c260, c261, c262, c263, c264, c265, c266, c267], []⟩ w0 := by
 conv => arg 2; whnf
 have HT : Hid (∀ j, j < M -> W.cell? ⟨g, j, none⟩ = some (.int .u8 (B j))) := htext
 have HB : Hid (∀ i, 0 <= B i /\ B i <= 255) := hB
 have HK : Hid (∀ (u8 u9 u10 u11 u47 u48 u49 u50 u51 u52 u53 u54 u55 u56 u57 u58 u59 u60 u61 u62 u63 u64 u65 u66 u67 u68 u69 u70 u71 u72 u73 u74 u75 u76 u77 u78 u79 u80 u81 u82 u83 u84 u85 u86 u87 u88 u89 u90 u91 u92 u93 u94 u95 u96 u97 u98 u99 u100 u101 u102 u103 u104 u105 u106 u107 u108 u109 u110 u111 u112 u113 u114 u115 u116 u117 u118 u119 u120 u121 u122 u123 u124 u125 u126 u127 u128 u129 u130 : Value) (w' : World), Old W w' -> w'.rowIs W.heap.size 163 64 (fun j => .int .u32 (sched (fun j => B (64 * c + j)) 64 j)) -> K ⟨#[c0, c1, c2, c3, c4, .slice (some ⟨g, 0, none⟩) M bc, .int .i64 (64 * (c : Int)), .slice (some ⟨W.heap.size, 0, none⟩) 64 64, u8, u9, u10, u11, c12, c13, c14, c15, c16, c17, c18, c19, c20, c21, c22, c23, c24, c25, c26, c27, c28, c29, c30, c31, c32, c33, c34, c35, c36, c37, c38, c39, c40, c41, c42, c43, c44, c45, c46, u47, u48, u49, u50, u51, u52, u53, u54, u55, u56, u57, u58, u59, u60, u61, u62, u63, u64, u65, u66, u67, u68, u69, u70, u71, u72, u73, u74, u75, u76, u77, u78, u79, u80, u81, u82, u83, u84, u85, u86, u87, u88, u89, u90, u91, u92, u93, u94, u95, u96, u97, u98, u99, u100, u101, u102, u103, u104, u105, u106, u107, u108, u109, u110, u111, u112, u113, u114, u115, u116, u117, u118, u119, u120, u121, u122, u123, u124, u125, u126, u127, u128, u129, u130, c131, c132, c133, c134, c135, c136, c137, c138, c139, c140, c141, c142, c143, c144, c145, c146, c147, c148, c149, c150, c151, c152, c153, c154, c155, c156, c157, c158, c159, c160, c161, c162, c163, c164, c165, c166, c167, c168, c169, c170, c171, c172, c173, c174, c175, c176, c177, c178, c179, c180, c181, c182, c183, c184, c185, c186, c187, c188, c189, c190, c191, c192, c193, c194, c195, c196, c197, c198, c199, c200, c201, c202, c203, c204, c205, c206, c207, c208, c209, c210, c211, c212, c213, c214, c215, c216, c217, c218, c219, c220, c221, c222, c223, c224, c225, c226, c227, c228, c229, c230, c231, c232, c233, c234, c235, c236, c237, c238, c239, c240, c241, c242, c243, c244, c245, c246, c247, c248, c249, c250, c251, c252, c253, c254, c255, c256, c257, c258, c259, c260, c261, c262, c263, c264, c265, c266, c267], []⟩ w') := hK
 have HG : Hid (g ≠ W.heap.size) := by
  have := World.block_lt_of_cell? _ _ (HT.out 0 (by omega))
  exact Nat.ne_of_lt this
 have H0 : Hid (Old W w0 /\ w0.rowIs W.heap.size 163 64 (fun _ => .int .u32 0)) := ⟨hold, hrow⟩
 clear htext hB hK hold hrow
 go_wp2_with fail
 go_loopw [8] (fun tv wx => ∃ t : Nat, tv = .int .i64 (t : Int) /\ t <= 64 /\ Hid (Old W wx /\ wx.rowIs W.heap.size 163 64 (fun j => .int .u32 (sched (fun j => B (64 * c + j)) t j)))) (fun tv _ => 64 - (intOf tv).toNat)
 case atStart => exact ⟨0, rfl, Nat.zero_le _, H0⟩
 case round =>
  obtain ⟨t, rfl, ht, HR⟩ := hrel
  by_cases hlt : t < 64
  · have cT : ∀ j, j < M -> wr.cell? ⟨g, j, none⟩ = some (.int .u8 (B j)) := fun j hj => HR.out.1.cellOf (HT.out j hj)
   have fz := HR.out.2.frozen t
   have ct := HR.out.2.cell hlt
   by_cases h16 : t < 16
   · have b0 := cT (64 * c + 4 * t) (by omega)
    have b1 := cT (64 * c + 4 * t + 1) (by omega)
    have b2 := cT (64 * c + 4 * t + 2) (by omega)
    have b3 := cT (64 * c + 4 * t + 3) (by omega)
    clear cT
    obtain ⟨x0, y0⟩ := HB.out (64 * c + 4 * t)
    obtain ⟨x1, y1⟩ := HB.out (64 * c + 4 * t + 1)
    obtain ⟨x2, y2⟩ := HB.out (64 * c + 4 * t + 2)
    obtain ⟨x3, y3⟩ := HB.out (64 * c + 4 * t + 3)
    go_wp2_with fail
    have hgw : g ≠ W.heap.size := HG.out
    have hgw' : W.heap.size ≠ g := fun h => hgw h.symm
    have ei : 64 * (c : Int) + 4 * (t : Int) = ((64 * c + 4 * t : Nat) : Int) := by omega
    simp only [ei]
    have HV : Hid (word (fun j => B (64 * c + j)) (sched (fun j => B (64 * c + j)) t) t = four (B (64 * c + 4 * t)) (B (64 * c + 4 * t + 1)) (B (64 * c + 4 * t + 2)) (B (64 * c + 4 * t + 3))) := word_low h16
    generalize 64 * c + 4 * t = i at *
    have i0 : (0 : Int) <= (i : Int) := by omega
    have i3 : (i : Int) + 3 < (M : Int) := by omega
    have i2 : (i : Int) + 2 < (M : Int) := by omega
    have i1 : (i : Int) + 1 < (M : Int) := by omega
    have ii : (i : Int) < (M : Int) := by omega
    have w1 : IntKind.i64.wrap ((i : Int) + 1) = (i : Int) + 1 := by rw [IntKind.wrap_i64]; omega
    have w2 : IntKind.i64.wrap ((i : Int) + 2) = (i : Int) + 2 := by rw [IntKind.wrap_i64]; omega
    have w3 : IntKind.i64.wrap ((i : Int) + 3) = (i : Int) + 3 := by rw [IntKind.wrap_i64]; omega
    have n1 : (0 : Int) <= (i : Int) + 1 := by omega
    have n2 : (0 : Int) <= (i : Int) + 2 := by omega
    have n3 : (0 : Int) <= (i : Int) + 3 := by omega
    have t1 : ((i : Int) + 1).toNat = i + 1 := by omega
    have t2 : ((i : Int) + 2).toNat = i + 2 := by omega
    have t3 : ((i : Int) + 3).toNat = i + 3 := by omega
    have tt : (t : Int) < 64 := by omega
    have v0 : IntKind.u32.wrap (B i) = B i := by rw [IntKind.wrap_u32']; omega
    have v1 : IntKind.u32.wrap (B (i + 1)) = B (i + 1) := by rw [IntKind.wrap_u32']; omega
    have v2 : IntKind.u32.wrap (B (i + 2)) = B (i + 2) := by rw [IntKind.wrap_u32']; omega
    have v3 : IntKind.u32.wrap (B (i + 3)) = B (i + 3) := by rw [IntKind.wrap_u32']; omega
    have z0 : IntKind.u32.wrap (B i * 16777216) = B i * 16777216 := by rw [IntKind.wrap_u32']; omega
    have z1 : IntKind.u32.wrap (B (i + 1) * 65536) = B (i + 1) * 65536 := by rw [IntKind.wrap_u32']; omega
    have z2 : IntKind.u32.wrap (B (i + 2) * 256) = B (i + 2) * 256 := by rw [IntKind.wrap_u32']; omega
    clear hM2 hM ei
    go_region_held3 (fun w' => w'.cell? ⟨g, i, none⟩ = some (.int .u8 (B i)) /\ w'.cell? ⟨g, i + 1, none⟩ = some (.int .u8 (B (i + 1))) /\ w'.cell? ⟨g, i + 2, none⟩ = some (.int .u8 (B (i + 2))) /\ w'.cell? ⟨g, i + 3, none⟩ = some (.int .u8 (B (i + 3)))) (go_keep) (fail)
    go_wp2_with fail
    go_roundw
    case rel => exact ⟨t + 1, by go_num, by omega, (words_step HR.out HV.out.symm).1.drew, (words_step HR.out HV.out.symm).2⟩
    case measure => simp [intOf]; omega
   · clear cT
    have c16 := HR.out.2.cell (i := t - 16) (by omega)
    have c15 := HR.out.2.cell (i := t - 15) (by omega)
    have c7 := HR.out.2.cell (i := t - 7) (by omega)
    have c2 := HR.out.2.cell (i := t - 2) (by omega)
    have HV : Hid (word (fun j => B (64 * c + j)) (sched (fun j => B (64 * c + j)) t) t = _) := word_high h16
    generalize sched (fun j => B (64 * c + j)) t (t - 16) = s16 at *
    generalize sched (fun j => B (64 * c + j)) t (t - 15) = s15 at *
    generalize sched (fun j => B (64 * c + j)) t (t - 7) = s7 at *
    generalize sched (fun j => B (64 * c + j)) t (t - 2) = s2 at *
    go_wp2_with fail
    have e16 : ((t : Int) - 16).toNat = t - 16 := by omega
    have e7 : ((t : Int) - 7).toNat = t - 7 := by omega
    have f16 : IntKind.i64.wrap ((t : Int) - 16) = (t : Int) - 16 := by rw [IntKind.wrap_i64]; omega
    have f7 : IntKind.i64.wrap ((t : Int) - 7) = (t : Int) - 7 := by rw [IntKind.wrap_i64]; omega
    have g16 : (0 : Int) <= (t : Int) - 16 := by omega
    have g7 : (0 : Int) <= (t : Int) - 7 := by omega
    have k16 : (t : Int) - 16 < 64 := by omega
    have k7 : (t : Int) - 7 < 64 := by omega
    have tt : (t : Int) < 64 := by omega
    have p7 : (7 : Int) <= (t : Int) := by omega
    have q7 : (t : Int) < 71 := by omega
    have q16 : (t : Int) < 80 := by omega
    clear hM2 hM c15 c2
    go_region_held3 (fun w' => w'.cell? ⟨W.heap.size, t - 16, none⟩ = some (.int .u32 s16) /\ w'.cell? ⟨W.heap.size, t - 7, none⟩ = some (.int .u32 s7)) (first | go_keep | exact keep_two (by assumption) (by omega) (by omega)) (first
     | (go_at_call_of 159 (Value.int IntKind.i64 7); refine (turn_any _ 7 _ (by omega)).mono ?_; rintro e w' ⟨rfl, nd, rfl⟩)
     | (go_at_call_of 159 (Value.int IntKind.i64 18); refine (turn_any _ 18 _ (by omega)).mono ?_; rintro e w' ⟨rfl, nd, rfl⟩)
     | (go_at_call_of 159 (Value.int IntKind.i64 17); refine (turn_any _ 17 _ (by omega)).mono ?_; rintro e w' ⟨rfl, nd, rfl⟩)
     | (go_at_call_of 159 (Value.int IntKind.i64 19); refine (turn_any _ 19 _ (by omega)).mono ?_; rintro e w' ⟨rfl, nd, rfl⟩))
    simp only [IntKind.wrap_u32']
    go_wp2_with fail
    go_roundw
    case rel => exact ⟨t + 1, by go_num, by omega, words_step ⟨HR.out.1.drewN _, HR.out.2⟩ (by rw [HV.out, add_four]; rfl)⟩
    case measure => simp [intOf]; omega
  · have he : t = 64 := by omega
   subst he
   go_wp2_with fail
   exact HK.out _ _ _ _ _ _ _ _ _ _ _ _ _ _ _ _ _ _ _ _ _ _ _ _ _ _ _ _ _ _ _ _ _ _ _ _ _ _ _ _ _ _ _ _ _ _ _ _ _ _ _ _ _ _ _ _ _ _ _ _ _ _ _ _ _ _ _ _ _ _ _ _ _ _ _ _ _ _ _ _ _ _ _ _ _ _ _ _ _ HR.out.1 HR.out.2
end
section
open Go.RowKit
theorem one_eq (a b c d e : Int) : (a + b + c + d + e) % 4294967296 = add32 (add32 (add32 (add32 a b) c) d) e := by
 unfold add32
 omega
def turned (wr : World) (b : Nat) (x0 x1 x2 x3 x4 x5 x6 x7 : Value) : World :=
 (((((((wr.setCell ⟨b, 0, none⟩ x0).setCell ⟨b, 1, none⟩ x1).setCell ⟨b, 2, none⟩ x2).setCell ⟨b, 3, none⟩ x3).setCell ⟨b, 4, none⟩ x4).setCell ⟨b, 5, none⟩ x5).setCell ⟨b, 6, none⟩ x6).setCell ⟨b, 7, none⟩ x7
theorem turned_row {wr : World} {b : Nat} {T : TypeId} {g : Nat -> Value} (h : wr.rowIs b T 8 g) (f : Nat -> Value) : (turned wr b (f 0) (f 1) (f 2) (f 3) (f 4) (f 5) (f 6) (f 7)).rowIs b T 8 f := by
 refine ((((((((h.set 0 _).set 1 _).set 2 _).set 3 _).set 4 _).set 5 _).set 6 _).set 7 _).congr fun i hi => ?_
 match i, hi with
 | 0, _ => rfl
 | 1, _ => rfl
 | 2, _ => rfl
 | 3, _ => rfl
 | 4, _ => rfl
 | 5, _ => rfl
 | 6, _ => rfl
 | 7, _ => rfl
theorem turned_old {W wr : World} {b : Nat} (h : Old W wr) (hb : W.heap.size <= b) (x0 x1 x2 x3 x4 x5 x6 x7 : Value) : Old W (turned wr b x0 x1 x2 x3 x4 x5 x6 x7) :=
 (((((((h.setCell hb _).setCell hb _).setCell hb _).setCell hb _).setCell hb _).setCell hb _).setCell hb _).setCell hb _
theorem rounds_step {W wr : World} {T : TypeId} {r : Nat -> Int} {kk ww o p : Int} (h : Old W wr /\ wr.rowIs W.heap.size T 8 (fun i => .int .u32 (r i))) (ho : o = one32 r kk ww) (hp : p = two32 r) :
  Old W (turned wr W.heap.size (.int .u32 ((o + p) % 4294967296)) (.int .u32 (r 0)) (.int .u32 (r 1)) (.int .u32 (r 2)) (.int .u32 ((r 3 + o) % 4294967296)) (.int .u32 (r 4)) (.int .u32 (r 5)) (.int .u32 (r 6))) /\
  (turned wr W.heap.size (.int .u32 ((o + p) % 4294967296)) (.int .u32 (r 0)) (.int .u32 (r 1)) (.int .u32 (r 2)) (.int .u32 ((r 3 + o) % 4294967296)) (.int .u32 (r 4)) (.int .u32 (r 5)) (.int .u32 (r 6))).rowIs W.heap.size T 8 (fun i => .int .u32 (round32 r kk ww i)) := by
 subst ho hp
 exact ⟨turned_old h.1 (Nat.le_refl _) _ _ _ _ _ _ _ _, turned_row h.2 (fun i => .int .u32 (round32 r kk ww i))⟩
theorem rounds_loop {K : Act -> World -> Prop} {Q' : Exit -> Act -> World -> Prop} (W w0 : World) (D v : Nat -> Int) (T : TypeId) (bk bw : Nat) (c0 c1 c2 c3 c5 c6 c8 c9 c10 c11 c14 c15 c16 c17 c18 c19 c20 c21 c22 c23 c24 c25 c26 c27 c28 c29 c30 c31 c32 c33 c34 c35 c36 c37 c38 c39 c40 c41 c42 c43 c44 c45 c46 c47 c48 c49 c50 c51 c52 c53 c54 c55 c56 c57 c58 c59 c60 c61 c62 c63 c64 c65 c66 c67 c68 c69 c70 c71 c72 c73 c74 c75 c76 c77 c78 c79 c80 c81 c82 c83 c84 c85 c86 c87 c88 c89 c90 c91 c92 c93 c94 c95 c96 c97 c98 c99 c100 c101 c102 c103 c104 c105 c106 c107 c108 c109 c110 c111 c112 c113 c114 c115 c116 c117 c118 c119 c120 c121 c122 c123 c124 c125 c126 c127 c128 c129 c130 c131 c132 c133 c134 c135 c136 c137 c138 c139 c140 c141 c142 c143 c144 c145 c146 c147 c148 c149 c150 c151 c152 c153 c154 c155 c156 c157 c158 c159 c160 c161 c162 c163 c164 c165 c166 c167 c168 c169 c170 c171 c172 c173 c174 c175 c176 c177 c178 c179 c180 c181 c182 c183 c184 c185 c186 c187 c188 c189 c190 c191 c192 c193 c194 c195 c196 c197 c198 c199 c200 c201 c202 c203 c204 c205 c206 c207 c208 c209 c210 c211 c212 c213 c214 c215 c216 c217 c218 c219 c220 c221 c222 c223 c224 c225 c226 c227 c228 c229 c230 c231 c232 c233 c234 c235 c236 c237 c238 c239 c240 c241 c242 c243 c244 c245 c246 c247 c248 c249 c250 c251 c252 c253 c254 c255 c256 c257 c258 c259 c260 c261 c262 c263 c264 c265 c266 c267 : Value)
  (hold : Old W w0) (hkr : W.rowIs bk 163 64 (fun i => .int .u32 (kS i))) (hwr : W.rowIs bw 163 64 (fun i => .int .u32 (D i)))
  (hrow : w0.rowIs W.heap.size T 8 (fun i => .int .u32 (v i)))
  (hK : ∀ (u13 u14 u15 u16 u17 u156 u157 u158 u159 u160 u161 u162 u163 u164 u165 u166 u167 u168 u169 u170 u171 u172 u173 u174 u175 u176 u177 u178 u179 u180 u181 u182 u183 u184 u185 u186 u187 u188 u189 u190 u191 u192 u193 u194 u195 u196 u197 u198 u199 u200 u201 u202 u203 u204 u205 u206 u207 u208 u209 u210 u211 u212 u213 u214 u215 u216 u217 u218 u219 u220 u221 u222 u223 u224 u225 u226 u227 u228 u229 u230 u231 u232 u233 u234 u235 u236 u237 u238 u239 : Value) (w' : World), Old W w' -> w'.rowIs W.heap.size T 8 (fun i => .int .u32 (rounds D 64 v i)) -> K ⟨#[c0, c1, c2, c3, .slice (some ⟨bk, 0, none⟩) 64 64, c5, c6, .slice (some ⟨bw, 0, none⟩) 64 64, c8, c9, c10, c11, .pointer (some ⟨W.heap.size, 0, none⟩), u13, u14, u15, u16, u17, c18, c19, c20, c21, c22, c23, c24, c25, c26, c27, c28, c29, c30, c31, c32, c33, c34, c35, c36, c37, c38, c39, c40, c41, c42, c43, c44, c45, c46, c47, c48, c49, c50, c51, c52, c53, c54, c55, c56, c57, c58, c59, c60, c61, c62, c63, c64, c65, c66, c67, c68, c69, c70, c71, c72, c73, c74, c75, c76, c77, c78, c79, c80, c81, c82, c83, c84, c85, c86, c87, c88, c89, c90, c91, c92, c93, c94, c95, c96, c97, c98, c99, c100, c101, c102, c103, c104, c105, c106, c107, c108, c109, c110, c111, c112, c113, c114, c115, c116, c117, c118, c119, c120, c121, c122, c123, c124, c125, c126, c127, c128, c129, c130, c131, c132, c133, c134, c135, c136, c137, c138, c139, c140, c141, c142, c143, c144, c145, c146, c147, c148, c149, c150, c151, c152, c153, c154, c155, u156, u157, u158, u159, u160, u161, u162, u163, u164, u165, u166, u167, u168, u169, u170, u171, u172, u173, u174, u175, u176, u177, u178, u179, u180, u181, u182, u183, u184, u185, u186, u187, u188, u189, u190, u191, u192, u193, u194, u195, u196, u197, u198, u199, u200, u201, u202, u203, u204, u205, u206, u207, u208, u209, u210, u211, u212, u213, u214, u215, u216, u217, u218, u219, u220, u221, u222, u223, u224, u225, u226, u227, u228, u229, u230, u231, u232, u233, u234, u235, u236, u237, u238, u239, c240, c241, c242, c243, c244, c245, c246, c247, c248, c249, c250, c251, c252, c253, c254, c255, c256, c257, c258, c259, c260, c261, c262, c263, c264, c265, c266, c267], []⟩ w') :
  Code.wp Tryz.prog ((findBlock 6 (Tryz.f149.body.getD .skip)).getD .skip) (Exit.then K Q') ⟨#[c0, c1, c2, c3, .slice (some ⟨bk, 0, none⟩) 64 64, c5, c6, .slice (some ⟨bw, 0, none⟩) 64 64, c8, c9, c10, c11, .pointer (some ⟨W.heap.size, 0, none⟩), .int .i64 0, c14, c15, c16, c17, c18, c19, c20, c21, c22, c23, c24, c25, c26, c27, c28, c29, c30, c31, c32, c33, c34, c35, c36, c37, c38, c39, c40, c41, c42, c43, c44, c45, c46, c47, c48, c49, c50, c51, c52, c53, c54, c55, c56, c57, c58, c59, c60, c61, c62, c63, c64, c65, c66, c67, c68, c69, c70, c71, c72, c73, c74, c75, c76, c77, c78, c79, c80, c81, c82, c83, c84, c85, c86, c87, c88, c89, c90, c91, c92, c93, c94, c95, c96, c97, c98, c99, c100, c101, c102, c103, c104, c105, c106, c107, c108, c109, c110, c111, c112, c113, c114, c115, c116, c117, c118, c119, c120, c121, c122, c123, c124, c125, c126, c127, c128, c129, c130, c131, c132, c133, c134, c135, c136, c137, c138, c139, c140, c141, c142, c143, c144, c145, c146, c147, c148, c149, c150, c151, c152, c153, c154, c155, c156, c157, c158, c159, c160, c161, c162, c163, c164, c165, c166, c167, c168, c169, c170, c171, c172, c173, c174, c175, c176, c177, c178, c179, c180, c181, c182, c183, c184, c185, c186, c187, c188, c189, c190, c191, c192, c193, c194, c195, c196, c197, c198, c199, c200, c201, c202, c203, c204, c205, c206, c207, c208, c209, c210, c211, c212, c213, c214, c215, c216, c217, c218, c219, c220, c221, c222, c223, c224, c225, c226, c227, c228, c229, c230, c231, c232, c233, c234, c235, c236, c237, c238, c239, c240, c241, c242, c243, c244, c245, c246, c247, c248, c249, c250, c251, c252, c253, c254, c255, c256, c257, c258, c259, c260, c261, c262, c263, c264, c265, c266, c267], []⟩ w0 := by
 conv => arg 2; whnf
 have HK : Hid (∀ (u13 u14 u15 u16 u17 u156 u157 u158 u159 u160 u161 u162 u163 u164 u165 u166 u167 u168 u169 u170 u171 u172 u173 u174 u175 u176 u177 u178 u179 u180 u181 u182 u183 u184 u185 u186 u187 u188 u189 u190 u191 u192 u193 u194 u195 u196 u197 u198 u199 u200 u201 u202 u203 u204 u205 u206 u207 u208 u209 u210 u211 u212 u213 u214 u215 u216 u217 u218 u219 u220 u221 u222 u223 u224 u225 u226 u227 u228 u229 u230 u231 u232 u233 u234 u235 u236 u237 u238 u239 : Value) (w' : World), Old W w' -> w'.rowIs W.heap.size T 8 (fun i => .int .u32 (rounds D 64 v i)) -> K ⟨#[c0, c1, c2, c3, .slice (some ⟨bk, 0, none⟩) 64 64, c5, c6, .slice (some ⟨bw, 0, none⟩) 64 64, c8, c9, c10, c11, .pointer (some ⟨W.heap.size, 0, none⟩), u13, u14, u15, u16, u17, c18, c19, c20, c21, c22, c23, c24, c25, c26, c27, c28, c29, c30, c31, c32, c33, c34, c35, c36, c37, c38, c39, c40, c41, c42, c43, c44, c45, c46, c47, c48, c49, c50, c51, c52, c53, c54, c55, c56, c57, c58, c59, c60, c61, c62, c63, c64, c65, c66, c67, c68, c69, c70, c71, c72, c73, c74, c75, c76, c77, c78, c79, c80, c81, c82, c83, c84, c85, c86, c87, c88, c89, c90, c91, c92, c93, c94, c95, c96, c97, c98, c99, c100, c101, c102, c103, c104, c105, c106, c107, c108, c109, c110, c111, c112, c113, c114, c115, c116, c117, c118, c119, c120, c121, c122, c123, c124, c125, c126, c127, c128, c129, c130, c131, c132, c133, c134, c135, c136, c137, c138, c139, c140, c141, c142, c143, c144, c145, c146, c147, c148, c149, c150, c151, c152, c153, c154, c155, u156, u157, u158, u159, u160, u161, u162, u163, u164, u165, u166, u167, u168, u169, u170, u171, u172, u173, u174, u175, u176, u177, u178, u179, u180, u181, u182, u183, u184, u185, u186, u187, u188, u189, u190, u191, u192, u193, u194, u195, u196, u197, u198, u199, u200, u201, u202, u203, u204, u205, u206, u207, u208, u209, u210, u211, u212, u213, u214, u215, u216, u217, u218, u219, u220, u221, u222, u223, u224, u225, u226, u227, u228, u229, u230, u231, u232, u233, u234, u235, u236, u237, u238, u239, c240, c241, c242, c243, c244, c245, c246, c247, c248, c249, c250, c251, c252, c253, c254, c255, c256, c257, c258, c259, c260, c261, c262, c263, c264, c265, c266, c267], []⟩ w') := hK
 have HA : Hid (W.rowIs bk 163 64 (fun i => .int .u32 (kS i)) /\ W.rowIs bw 163 64 (fun i => .int .u32 (D i))) := ⟨hkr, hwr⟩
 have H0 : Hid (Old W w0 /\ w0.rowIs W.heap.size T 8 (fun i => .int .u32 (v i))) := ⟨hold, hrow⟩
 clear hK hold hrow hkr hwr
 go_wp2_with fail
 go_loopw [13] (fun tv wx => ∃ t : Nat, tv = .int .i64 (t : Int) /\ t <= 64 /\ Hid (Old W wx /\ wx.rowIs W.heap.size T 8 (fun i => .int .u32 (rounds D t v i)))) (fun tv _ => 64 - (intOf tv).toNat)
 case atStart => exact ⟨0, rfl, Nat.zero_le _, H0⟩
 case round =>
  obtain ⟨t, rfl, ht, HR⟩ := hrel
  by_cases hlt : t < 64
  · have kt := (HR.out.1.row HA.out.1).cell hlt
   have wt := (HR.out.1.row HA.out.2).cell hlt
   have x0 := HR.out.2.cell (i := 0) (by omega)
   have x1 := HR.out.2.cell (i := 1) (by omega)
   have x2 := HR.out.2.cell (i := 2) (by omega)
   have x3 := HR.out.2.cell (i := 3) (by omega)
   have x4 := HR.out.2.cell (i := 4) (by omega)
   have x5 := HR.out.2.cell (i := 5) (by omega)
   have x6 := HR.out.2.cell (i := 6) (by omega)
   have x7 := HR.out.2.cell (i := 7) (by omega)
   have z0 := HR.out.2.frozen 0
   have z1 := HR.out.2.frozen 1
   have z2 := HR.out.2.frozen 2
   have z3 := HR.out.2.frozen 3
   have z4 := HR.out.2.frozen 4
   have z5 := HR.out.2.frozen 5
   have z6 := HR.out.2.frozen 6
   have z7 := HR.out.2.frozen 7
   have HV : Hid (∀ i, rounds D (t + 1) v i = round32 (rounds D t v) (kS t) (D t) i) := fun _ => rfl
   generalize kS t = kk at *
   generalize D t = ww at *
   have hr : ∃ r, r = rounds D t v := ⟨_, rfl⟩
   obtain ⟨r, hr⟩ := hr
   rw [<- hr] at HR HV x0 x1 x2 x3 x4 x5 x6 x7
   clear hr
   have tt : (t : Int) < 64 := by omega
   have t0 : (0 : Int) <= (t : Int) := by omega
   go_upto_region 26 with fail
   go_cut [16] from 156 to 239 (fun ov wx => ov = .int .u32 (one32 r kk ww) /\ ∃ n, wx = wr.drewN n)
   case first =>
    go_quiet (first
     | (go_at_call_of 159 (Value.int IntKind.i64 6); exact Calls.quiet_of (turn_any _ 6 _ (by omega)))
     | (go_at_call_of 159 (Value.int IntKind.i64 11); exact Calls.quiet_of (turn_any _ 11 _ (by omega)))
     | (go_at_call_of 159 (Value.int IntKind.i64 25); exact Calls.quiet_of (turn_any _ 25 _ (by omega))))
    go_wp2_with fail
    go_meet
    case rel => exact ⟨congrArg (Value.int .u32) (one_eq (r 7) (big1 (r 4)) (pick (r 4) (r 5) (r 6)) kk ww), _, rfl⟩
   obtain ⟨rfl, nd, rfl⟩ := hcut
   have HO : Hid (∃ o, o = one32 r kk ww) := ⟨_, rfl⟩
   obtain ⟨o, ho⟩ := HO.out
   rw [<- ho]
   have HO : Hid (o = one32 r kk ww) := ho
   clear ho
   go_upto_region 27 with fail
   obtain ⟨wy, hwy⟩ : ∃ x, x = wr.drewN nd := ⟨_, rfl⟩
   have y0 : wy.cell? ⟨W.heap.size, 0, none⟩ = some (.int .u32 (r 0)) := by rw [hwy]; exact x0
   have y1 : wy.cell? ⟨W.heap.size, 1, none⟩ = some (.int .u32 (r 1)) := by rw [hwy]; exact x1
   have y2 : wy.cell? ⟨W.heap.size, 2, none⟩ = some (.int .u32 (r 2)) := by rw [hwy]; exact x2
   rw [<- hwy]
   have HW : Hid (wy = wr.drewN nd) := hwy
   clear hwy
   go_cut [17] from 156 to 239 (fun ov wx => ov = .int .u32 (two32 r) /\ ∃ n, wx = wy.drewN n)
   case first =>
    go_quiet (first
     | (go_at_call_of 159 (Value.int IntKind.i64 2); exact Calls.quiet_of (turn_any _ 2 _ (by omega)))
     | (go_at_call_of 159 (Value.int IntKind.i64 13); exact Calls.quiet_of (turn_any _ 13 _ (by omega)))
     | (go_at_call_of 159 (Value.int IntKind.i64 22); exact Calls.quiet_of (turn_any _ 22 _ (by omega))))
    go_wp2_with fail
    go_meet
    case rel => exact ⟨rfl, _, rfl⟩
   obtain ⟨rfl, nd2, rfl⟩ := hcut
   have HP : Hid (∃ p, p = two32 r) := ⟨_, rfl⟩
   obtain ⟨p, hp⟩ := HP.out
   rw [<- hp]
   have HP : Hid (p = two32 r) := hp
   clear hp
   have HE : Hid (wy.drewN nd2 = wr.drewN (nd + nd2)) := by rw [HW.out]; exact World.drewN_drewN wr nd nd2
   rw [HE.out]
   clear y0 y1 y2 HW HE
   go_wp2_with fail
   go_roundw
   case rel => exact ⟨t + 1, by go_num, by omega, by
    have hs := rounds_step (T := T) (kk := kk) (ww := ww) ⟨HR.out.1.drewN (nd + nd2), HR.out.2⟩ HO.out HP.out
    exact ⟨hs.1, hs.2.congr fun i _ => by rw [HV.out i]⟩⟩
   case measure => simp [intOf]; omega
  · have he : t = 64 := by omega
   subst he
   go_wp2_with fail
   exact HK.out _ _ _ _ _ _ _ _ _ _ _ _ _ _ _ _ _ _ _ _ _ _ _ _ _ _ _ _ _ _ _ _ _ _ _ _ _ _ _ _ _ _ _ _ _ _ _ _ _ _ _ _ _ _ _ _ _ _ _ _ _ _ _ _ _ _ _ _ _ _ _ _ _ _ _ _ _ _ _ _ _ _ _ _ _ _ _ _ _ _ HR.out.1 HR.out.2
end
section
open Go.RowKit
structure But (b : Nat) (w w' : World) : Prop where
 os : w'.os = w.os
 output : w'.output = w.output
 size : w'.heap.size = w.heap.size
 block : ∀ k, k ≠ b -> w'.heap[k]? = w.heap[k]?
theorem But.refl (b : Nat) (w : World) : But b w w := ⟨rfl, rfl, rfl, fun _ _ => rfl⟩
theorem But.set {b : Nat} {w w' : World} (h : But b w w') (i : Nat) (v : Value) : But b w (w'.setCell ⟨b, i, none⟩ v) :=
 ⟨h.os, h.output, by simpa [World.setCell] using h.size, fun k hk => (Below.heap_setCell _ _ _ _ hk).trans (h.block k hk)⟩
theorem But.drew {b : Nat} {w w' : World} (h : But b w w') : But b w w'.drew := ⟨h.os, h.output, h.size, h.block⟩
theorem But.row {b : Nat} {w w' : World} (h : But b w w') {k : Nat} {t : TypeId} {n : Nat} {f : Nat -> Value} (hr : w.rowIs k t n f) (hk : k ≠ b) : w'.rowIs k t n f := hr.of_block (h.block k hk)
theorem But.cell {b : Nat} {w w' : World} (h : But b w w') {p : Addr} (hp : p.block ≠ b) : w'.cell? p = w.cell? p := World.cell?_of_block (w := w) (h.block p.block hp)
theorem Old.but {a b : World} {k : Nat} {c : World} (h : Old a b) (hb : But k b c) (hk : a.heap.size <= k) : Old a c :=
 ⟨hb.os.trans h.os, hb.output.trans h.output, by rw [hb.size]; exact h.size, fun i hi => (hb.block i (by omega)).trans (h.block i hi)⟩
theorem adds_step {b : Nat} {w wr : World} {ty : TypeId} {h v : Nat -> Int} {t : Nat} {x : Int} (hr : But b w wr /\ wr.rowIs b ty 8 (fun j => .int .u32 (if j < t then add32 (h j) (v j) else h j))) (hx : x = add32 (h t) (v t)) :
  But b w (wr.setCell ⟨b, t, none⟩ (.int .u32 x)) /\ (wr.setCell ⟨b, t, none⟩ (.int .u32 x)).rowIs b ty 8 (fun j => .int .u32 (if j < t + 1 then add32 (h j) (v j) else h j)) := by
 refine ⟨hr.1.set t _, (hr.2.set t _).congr fun j _ => ?_⟩
 by_cases he : j = t
 · subst he
  rw [hx]
  simp
 · by_cases hl : j < t
  · simp [he, hl, show j < t + 1 by omega]
  · simp [he, hl, show ¬ j < t + 1 by omega]
theorem adds_loop {Q : Exit -> Act -> World -> Prop} (w0 : World) (h v : Nat -> Int) (T : TypeId) (bh bv : Nat) (c0 c1 c2 c4 c5 c6 c7 c8 c9 c10 c11 c13 c14 c15 c16 c17 c19 c20 c21 c22 c23 c24 c25 c26 c27 c28 c29 c30 c31 c32 c33 c34 c35 c36 c37 c38 c39 c40 c41 c42 c43 c44 c45 c46 c47 c48 c49 c50 c51 c52 c53 c54 c55 c56 c57 c58 c59 c60 c61 c62 c63 c64 c65 c66 c67 c68 c69 c70 c71 c72 c73 c74 c75 c76 c77 c78 c79 c80 c81 c82 c83 c84 c85 c86 c87 c88 c89 c90 c91 c92 c93 c94 c95 c96 c97 c98 c99 c100 c101 c102 c103 c104 c105 c106 c107 c108 c109 c110 c111 c112 c113 c114 c115 c116 c117 c118 c119 c120 c121 c122 c123 c124 c125 c126 c127 c128 c129 c130 c131 c132 c133 c134 c135 c136 c137 c138 c139 c140 c141 c142 c143 c144 c145 c146 c147 c148 c149 c150 c151 c152 c153 c154 c155 c156 c157 c158 c159 c160 c161 c162 c163 c164 c165 c166 c167 c168 c169 c170 c171 c172 c173 c174 c175 c176 c177 c178 c179 c180 c181 c182 c183 c184 c185 c186 c187 c188 c189 c190 c191 c192 c193 c194 c195 c196 c197 c198 c199 c200 c201 c202 c203 c204 c205 c206 c207 c208 c209 c210 c211 c212 c213 c214 c215 c216 c217 c218 c219 c220 c221 c222 c223 c224 c225 c226 c227 c228 c229 c230 c231 c232 c233 c234 c235 c236 c237 c238 c239 c240 c241 c242 c243 c244 c245 c246 c247 c248 c249 c250 c251 c252 c253 c254 c255 c256 c257 c258 c259 c260 c261 c262 c263 c264 c265 c266 c267 : Value)
  (hne : bv ≠ bh) (hh : w0.rowIs bh 163 8 (fun i => .int .u32 (h i))) (hv : w0.rowIs bv T 8 (fun i => .int .u32 (v i)))
  (hK : ∀ (u18 u240 u241 u242 u243 u244 u245 u246 u247 u248 u249 u250 u251 u252 u253 u254 : Value) (w' : World), But bh w0 w' -> w'.rowIs bh 163 8 (fun i => .int .u32 (add32 (h i) (v i))) -> Q .normal ⟨#[c0, c1, c2, .slice (some ⟨bh, 0, none⟩) 8 8, c4, c5, c6, c7, c8, c9, c10, c11, .pointer (some ⟨bv, 0, none⟩), c13, c14, c15, c16, c17, u18, c19, c20, c21, c22, c23, c24, c25, c26, c27, c28, c29, c30, c31, c32, c33, c34, c35, c36, c37, c38, c39, c40, c41, c42, c43, c44, c45, c46, c47, c48, c49, c50, c51, c52, c53, c54, c55, c56, c57, c58, c59, c60, c61, c62, c63, c64, c65, c66, c67, c68, c69, c70, c71, c72, c73, c74, c75, c76, c77, c78, c79, c80, c81, c82, c83, c84, c85, c86, c87, c88, c89, c90, c91, c92, c93, c94, c95, c96, c97, c98, c99, c100, c101, c102, c103, c104, c105, c106, c107, c108, c109, c110, c111, c112, c113, c114, c115, c116, c117, c118, c119, c120, c121, c122, c123, c124, c125, c126, c127, c128, c129, c130, c131, c132, c133, c134, c135, c136, c137, c138, c139, c140, c141, c142, c143, c144, c145, c146, c147, c148, c149, c150, c151, c152, c153, c154, c155, c156, c157, c158, c159, c160, c161, c162, c163, c164, c165, c166, c167, c168, c169, c170, c171, c172, c173, c174, c175, c176, c177, c178, c179, c180, c181, c182, c183, c184, c185, c186, c187, c188, c189, c190, c191, c192, c193, c194, c195, c196, c197, c198, c199, c200, c201, c202, c203, c204, c205, c206, c207, c208, c209, c210, c211, c212, c213, c214, c215, c216, c217, c218, c219, c220, c221, c222, c223, c224, c225, c226, c227, c228, c229, c230, c231, c232, c233, c234, c235, c236, c237, c238, c239, u240, u241, u242, u243, u244, u245, u246, u247, u248, u249, u250, u251, u252, u253, u254, c255, c256, c257, c258, c259, c260, c261, c262, c263, c264, c265, c266, c267], []⟩ w') :
  Code.wp Tryz.prog ((findBlock 8 (Tryz.f149.body.getD .skip)).getD .skip) Q ⟨#[c0, c1, c2, .slice (some ⟨bh, 0, none⟩) 8 8, c4, c5, c6, c7, c8, c9, c10, c11, .pointer (some ⟨bv, 0, none⟩), c13, c14, c15, c16, c17, .int .i64 0, c19, c20, c21, c22, c23, c24, c25, c26, c27, c28, c29, c30, c31, c32, c33, c34, c35, c36, c37, c38, c39, c40, c41, c42, c43, c44, c45, c46, c47, c48, c49, c50, c51, c52, c53, c54, c55, c56, c57, c58, c59, c60, c61, c62, c63, c64, c65, c66, c67, c68, c69, c70, c71, c72, c73, c74, c75, c76, c77, c78, c79, c80, c81, c82, c83, c84, c85, c86, c87, c88, c89, c90, c91, c92, c93, c94, c95, c96, c97, c98, c99, c100, c101, c102, c103, c104, c105, c106, c107, c108, c109, c110, c111, c112, c113, c114, c115, c116, c117, c118, c119, c120, c121, c122, c123, c124, c125, c126, c127, c128, c129, c130, c131, c132, c133, c134, c135, c136, c137, c138, c139, c140, c141, c142, c143, c144, c145, c146, c147, c148, c149, c150, c151, c152, c153, c154, c155, c156, c157, c158, c159, c160, c161, c162, c163, c164, c165, c166, c167, c168, c169, c170, c171, c172, c173, c174, c175, c176, c177, c178, c179, c180, c181, c182, c183, c184, c185, c186, c187, c188, c189, c190, c191, c192, c193, c194, c195, c196, c197, c198, c199, c200, c201, c202, c203, c204, c205, c206, c207, c208, c209, c210, c211, c212, c213, c214, c215, c216, c217, c218, c219, c220, c221, c222, c223, c224, c225, c226, c227, c228, c229, c230, c231, c232, c233, c234, c235, c236, c237, c238, c239, c240, c241, c242, c243, c244, c245, c246, c247, c248, c249, c250, c251, c252, c253, c254, c255, c256, c257, c258, c259, c260, c261, c262, c263, c264, c265, c266, c267], []⟩ w0 := by
 conv => arg 2; whnf
 have HK : Hid (∀ (u18 u240 u241 u242 u243 u244 u245 u246 u247 u248 u249 u250 u251 u252 u253 u254 : Value) (w' : World), But bh w0 w' -> w'.rowIs bh 163 8 (fun i => .int .u32 (add32 (h i) (v i))) -> Q .normal ⟨#[c0, c1, c2, .slice (some ⟨bh, 0, none⟩) 8 8, c4, c5, c6, c7, c8, c9, c10, c11, .pointer (some ⟨bv, 0, none⟩), c13, c14, c15, c16, c17, u18, c19, c20, c21, c22, c23, c24, c25, c26, c27, c28, c29, c30, c31, c32, c33, c34, c35, c36, c37, c38, c39, c40, c41, c42, c43, c44, c45, c46, c47, c48, c49, c50, c51, c52, c53, c54, c55, c56, c57, c58, c59, c60, c61, c62, c63, c64, c65, c66, c67, c68, c69, c70, c71, c72, c73, c74, c75, c76, c77, c78, c79, c80, c81, c82, c83, c84, c85, c86, c87, c88, c89, c90, c91, c92, c93, c94, c95, c96, c97, c98, c99, c100, c101, c102, c103, c104, c105, c106, c107, c108, c109, c110, c111, c112, c113, c114, c115, c116, c117, c118, c119, c120, c121, c122, c123, c124, c125, c126, c127, c128, c129, c130, c131, c132, c133, c134, c135, c136, c137, c138, c139, c140, c141, c142, c143, c144, c145, c146, c147, c148, c149, c150, c151, c152, c153, c154, c155, c156, c157, c158, c159, c160, c161, c162, c163, c164, c165, c166, c167, c168, c169, c170, c171, c172, c173, c174, c175, c176, c177, c178, c179, c180, c181, c182, c183, c184, c185, c186, c187, c188, c189, c190, c191, c192, c193, c194, c195, c196, c197, c198, c199, c200, c201, c202, c203, c204, c205, c206, c207, c208, c209, c210, c211, c212, c213, c214, c215, c216, c217, c218, c219, c220, c221, c222, c223, c224, c225, c226, c227, c228, c229, c230, c231, c232, c233, c234, c235, c236, c237, c238, c239, u240, u241, u242, u243, u244, u245, u246, u247, u248, u249, u250, u251, u252, u253, u254, c255, c256, c257, c258, c259, c260, c261, c262, c263, c264, c265, c266, c267], []⟩ w') := hK
 have HA : Hid (w0.rowIs bv T 8 (fun i => .int .u32 (v i)) /\ bv ≠ bh) := ⟨hv, hne⟩
 have H0 : Hid (But bh w0 w0 /\ w0.rowIs bh 163 8 (fun j => .int .u32 (if j < 0 then add32 (h j) (v j) else h j))) := ⟨But.refl _ _, hh.congr fun i _ => by simp⟩
 clear hK hv hh hne
 go_wp2_with fail
 go_loopw [18] (fun tv wx => ∃ t : Nat, tv = .int .i64 (t : Int) /\ t <= 8 /\ Hid (But bh w0 wx /\ wx.rowIs bh 163 8 (fun j => .int .u32 (if j < t then add32 (h j) (v j) else h j)))) (fun tv _ => 8 - (intOf tv).toNat)
 case atStart => exact ⟨0, rfl, Nat.zero_le _, H0⟩
 case round =>
  obtain ⟨t, rfl, ht, HR⟩ := hrel
  by_cases hlt : t < 8
  · have ht' : wr.cell? ⟨bh, t, none⟩ = some (.int .u32 (h t)) := by
    have := HR.out.2.cell hlt
    simpa using this
   have vt : wr.cell? ⟨bv, t, none⟩ = some (.int .u32 (v t)) := (HR.out.1.row HA.out.1 HA.out.2).cell hlt
   have fz := HR.out.2.frozen t
   have tt : (t : Int) < 8 := by omega
   have t0 : (0 : Int) <= (t : Int) := by omega
   go_wp2_with fail
   go_region
   all_goals
    go_wp2_with fail
    go_roundw
    case rel => exact ⟨t + 1, by go_num, by omega, (adds_step HR.out rfl).1.drew, (adds_step HR.out rfl).2⟩
    case measure => simp [intOf]; omega
  · have he : t = 8 := by omega
   subst he
   go_wp2_with fail
   exact HK.out _ _ _ _ _ _ _ _ _ _ _ _ _ _ _ _ _ HR.out.1 (HR.out.2.congr fun i hi => by simp [hi])
end
section
open Go.RowKit
theorem u32info : (Tryz.prog.info? 163).map (fun i => (i.zero, i.size, i.bytes)) = some (some (.int .u32 0), 1, 4) := by kernel_rfl
structure Laid (w wx : World) (t : TypeId) (B : Nat -> Int) (M : Nat) (bv : Value) (h : Nat -> Int) : Prop where
 text : ∃ g c', bv = .slice (some ⟨g, 0, none⟩) M c' /\ w.heap.size < g /\ ∀ j, j < M -> wx.cell? ⟨g, j, none⟩ = some (.int .u8 (B j))
 hrow : wx.rowIs w.heap.size t 8 (fun i => .int .u32 (h i))
 krow : wx.rowIs (w.heap.size + 1) t 64 (fun i => .int .u32 (kS i))
 old : Old w wx
theorem laid_next {w wr w2 w3 : World} {t : TypeId} {B : Nat -> Int} {M g bc : Nat} {h h' : Nat -> Int} (hl : Laid w wr t B M (.slice (some ⟨g, 0, none⟩) M bc) h) (ho : Old wr w2) (hb : But w.heap.size w2 w3) (hr : w3.rowIs w.heap.size t 8 (fun i => .int .u32 (h' i))) :
  Laid w w3 t B M (.slice (some ⟨g, 0, none⟩) M bc) h' := by
 obtain ⟨g', c', e, hg, hc⟩ := hl.text
 simp at e
 obtain ⟨rfl, rfl⟩ := e
 refine ⟨⟨g, bc, rfl, hg, fun j hj => ?_⟩, hr, hb.row (ho.row hl.krow) (by omega), (hl.old.trans ho).but hb (Nat.le_refl _)⟩
 rw [hb.cell (p := ⟨g, j, none⟩) (Nat.ne_of_gt hg)]
 exact ho.cellOf (hc j hj)
theorem laid_cells {w wr : World} {t : TypeId} {B : Nat -> Int} {M g bc : Nat} {h : Nat -> Int} (hl : Laid w wr t B M (.slice (some ⟨g, 0, none⟩) M bc) h) : ∀ j, j < M -> wr.cell? ⟨g, j, none⟩ = some (.int .u8 (B j)) := by
 obtain ⟨g', c', e, hg, hc⟩ := hl.text
 simp at e
 obtain ⟨rfl, rfl⟩ := e
 exact hc
theorem eight_row (w : World) (t : TypeId) (h : Nat -> Int) : (w.alloc (.cells #[.int .u32 (h 0), .int .u32 (h 1), .int .u32 (h 2), .int .u32 (h 3), .int .u32 (h 4), .int .u32 (h 5), .int .u32 (h 6), .int .u32 (h 7)] t)).drew.rowIs w.heap.size t 8 (fun i => .int .u32 (h i)) :=
 World.rowIs_alloc w _ t _ fun i hi => by
  match i, hi with
  | 0, _ => rfl
  | 1, _ => rfl
  | 2, _ => rfl
  | 3, _ => rfl
  | 4, _ => rfl
  | 5, _ => rfl
  | 6, _ => rfl
  | 7, _ => rfl
theorem pieces_loop {K : Act -> World -> Prop} {Q' : Exit -> Act -> World -> Prop} (w w0 : World) (B : Nat -> Int) (P g bc : Nat) (c0 c1 c2 c7 c8 c9 c10 c11 c12 c13 c14 c15 c16 c17 c18 c19 c20 c21 c22 c23 c24 c25 c26 c27 c28 c29 c30 c31 c32 c33 c34 c35 c36 c37 c38 c39 c40 c41 c42 c43 c44 c45 c46 c47 c48 c49 c50 c51 c52 c53 c54 c55 c56 c57 c58 c59 c60 c61 c62 c63 c64 c65 c66 c67 c68 c69 c70 c71 c72 c73 c74 c75 c76 c77 c78 c79 c80 c81 c82 c83 c84 c85 c86 c87 c88 c89 c90 c91 c92 c93 c94 c95 c96 c97 c98 c99 c100 c101 c102 c103 c104 c105 c106 c107 c108 c109 c110 c111 c112 c113 c114 c115 c116 c117 c118 c119 c120 c121 c122 c123 c124 c125 c126 c127 c128 c129 c130 c131 c132 c133 c134 c135 c136 c137 c138 c139 c140 c141 c142 c143 c144 c145 c146 c147 c148 c149 c150 c151 c152 c153 c154 c155 c156 c157 c158 c159 c160 c161 c162 c163 c164 c165 c166 c167 c168 c169 c170 c171 c172 c173 c174 c175 c176 c177 c178 c179 c180 c181 c182 c183 c184 c185 c186 c187 c188 c189 c190 c191 c192 c193 c194 c195 c196 c197 c198 c199 c200 c201 c202 c203 c204 c205 c206 c207 c208 c209 c210 c211 c212 c213 c214 c215 c216 c217 c218 c219 c220 c221 c222 c223 c224 c225 c226 c227 c228 c229 c230 c231 c232 c233 c234 c235 c236 c237 c238 c239 c240 c241 c242 c243 c244 c245 c246 c247 c248 c249 c250 c251 c252 c253 c254 c255 c256 c257 c258 c259 c260 c261 c262 c263 c264 c265 c266 c267 : Value)
  (hP : P <= 20000) (hB : ∀ i, 0 <= B i /\ B i <= 255) (hL : Laid w w0 163 B (64 * P) (.slice (some ⟨g, 0, none⟩) (64 * P) bc) (hS))
  (hK : ∀ (u6 u7 u8 u9 u10 u11 u12 u13 u14 u15 u16 u17 u18 u40 u41 u42 u43 u44 u45 u46 u47 u48 u49 u50 u51 u52 u53 u54 u55 u56 u57 u58 u59 u60 u61 u62 u63 u64 u65 u66 u67 u68 u69 u70 u71 u72 u73 u74 u75 u76 u77 u78 u79 u80 u81 u82 u83 u84 u85 u86 u87 u88 u89 u90 u91 u92 u93 u94 u95 u96 u97 u98 u99 u100 u101 u102 u103 u104 u105 u106 u107 u108 u109 u110 u111 u112 u113 u114 u115 u116 u117 u118 u119 u120 u121 u122 u123 u124 u125 u126 u127 u128 u129 u130 u131 u132 u133 u134 u135 u136 u137 u138 u139 u140 u141 u142 u143 u144 u145 u146 u147 u148 u149 u150 u151 u152 u153 u154 u155 u156 u157 u158 u159 u160 u161 u162 u163 u164 u165 u166 u167 u168 u169 u170 u171 u172 u173 u174 u175 u176 u177 u178 u179 u180 u181 u182 u183 u184 u185 u186 u187 u188 u189 u190 u191 u192 u193 u194 u195 u196 u197 u198 u199 u200 u201 u202 u203 u204 u205 u206 u207 u208 u209 u210 u211 u212 u213 u214 u215 u216 u217 u218 u219 u220 u221 u222 u223 u224 u225 u226 u227 u228 u229 u230 u231 u232 u233 u234 u235 u236 u237 u238 u239 u240 u241 u242 u243 u244 u245 u246 u247 u248 u249 u250 u251 u252 u253 u254 : Value) (w' : World), Laid w w' 163 B (64 * P) (.slice (some ⟨g, 0, none⟩) (64 * P) bc) (state B P) -> K ⟨#[c0, c1, c2, .slice (some ⟨w.heap.size, 0, none⟩) 8 8, .slice (some ⟨w.heap.size + 1, 0, none⟩) 64 64, .slice (some ⟨g, 0, none⟩) (64 * P) bc, u6, u7, u8, u9, u10, u11, u12, u13, u14, u15, u16, u17, u18, c19, c20, c21, c22, c23, c24, c25, c26, c27, c28, c29, c30, c31, c32, c33, c34, c35, c36, c37, c38, c39, u40, u41, u42, u43, u44, u45, u46, u47, u48, u49, u50, u51, u52, u53, u54, u55, u56, u57, u58, u59, u60, u61, u62, u63, u64, u65, u66, u67, u68, u69, u70, u71, u72, u73, u74, u75, u76, u77, u78, u79, u80, u81, u82, u83, u84, u85, u86, u87, u88, u89, u90, u91, u92, u93, u94, u95, u96, u97, u98, u99, u100, u101, u102, u103, u104, u105, u106, u107, u108, u109, u110, u111, u112, u113, u114, u115, u116, u117, u118, u119, u120, u121, u122, u123, u124, u125, u126, u127, u128, u129, u130, u131, u132, u133, u134, u135, u136, u137, u138, u139, u140, u141, u142, u143, u144, u145, u146, u147, u148, u149, u150, u151, u152, u153, u154, u155, u156, u157, u158, u159, u160, u161, u162, u163, u164, u165, u166, u167, u168, u169, u170, u171, u172, u173, u174, u175, u176, u177, u178, u179, u180, u181, u182, u183, u184, u185, u186, u187, u188, u189, u190, u191, u192, u193, u194, u195, u196, u197, u198, u199, u200, u201, u202, u203, u204, u205, u206, u207, u208, u209, u210, u211, u212, u213, u214, u215, u216, u217, u218, u219, u220, u221, u222, u223, u224, u225, u226, u227, u228, u229, u230, u231, u232, u233, u234, u235, u236, u237, u238, u239, u240, u241, u242, u243, u244, u245, u246, u247, u248, u249, u250, u251, u252, u253, u254, c255, c256, c257, c258, c259, c260, c261, c262, c263, c264, c265, c266, c267], []⟩ w') :
  Code.wp Tryz.prog ((findBlock 2 (Tryz.f149.body.getD .skip)).getD .skip) (Exit.then K Q') ⟨#[c0, c1, c2, .slice (some ⟨w.heap.size, 0, none⟩) 8 8, .slice (some ⟨w.heap.size + 1, 0, none⟩) 64 64, .slice (some ⟨g, 0, none⟩) (64 * P) bc, .int .i64 0, c7, c8, c9, c10, c11, c12, c13, c14, c15, c16, c17, c18, c19, c20, c21, c22, c23, c24, c25, c26, c27, c28, c29, c30, c31, c32, c33, c34, c35, c36, c37, c38, c39, c40, c41, c42, c43, c44, c45, c46, c47, c48, c49, c50, c51, c52, c53, c54, c55, c56, c57, c58, c59, c60, c61, c62, c63, c64, c65, c66, c67, c68, c69, c70, c71, c72, c73, c74, c75, c76, c77, c78, c79, c80, c81, c82, c83, c84, c85, c86, c87, c88, c89, c90, c91, c92, c93, c94, c95, c96, c97, c98, c99, c100, c101, c102, c103, c104, c105, c106, c107, c108, c109, c110, c111, c112, c113, c114, c115, c116, c117, c118, c119, c120, c121, c122, c123, c124, c125, c126, c127, c128, c129, c130, c131, c132, c133, c134, c135, c136, c137, c138, c139, c140, c141, c142, c143, c144, c145, c146, c147, c148, c149, c150, c151, c152, c153, c154, c155, c156, c157, c158, c159, c160, c161, c162, c163, c164, c165, c166, c167, c168, c169, c170, c171, c172, c173, c174, c175, c176, c177, c178, c179, c180, c181, c182, c183, c184, c185, c186, c187, c188, c189, c190, c191, c192, c193, c194, c195, c196, c197, c198, c199, c200, c201, c202, c203, c204, c205, c206, c207, c208, c209, c210, c211, c212, c213, c214, c215, c216, c217, c218, c219, c220, c221, c222, c223, c224, c225, c226, c227, c228, c229, c230, c231, c232, c233, c234, c235, c236, c237, c238, c239, c240, c241, c242, c243, c244, c245, c246, c247, c248, c249, c250, c251, c252, c253, c254, c255, c256, c257, c258, c259, c260, c261, c262, c263, c264, c265, c266, c267], []⟩ w0 := by
 conv => arg 2; whnf
 have HK : Hid (∀ (u6 u7 u8 u9 u10 u11 u12 u13 u14 u15 u16 u17 u18 u40 u41 u42 u43 u44 u45 u46 u47 u48 u49 u50 u51 u52 u53 u54 u55 u56 u57 u58 u59 u60 u61 u62 u63 u64 u65 u66 u67 u68 u69 u70 u71 u72 u73 u74 u75 u76 u77 u78 u79 u80 u81 u82 u83 u84 u85 u86 u87 u88 u89 u90 u91 u92 u93 u94 u95 u96 u97 u98 u99 u100 u101 u102 u103 u104 u105 u106 u107 u108 u109 u110 u111 u112 u113 u114 u115 u116 u117 u118 u119 u120 u121 u122 u123 u124 u125 u126 u127 u128 u129 u130 u131 u132 u133 u134 u135 u136 u137 u138 u139 u140 u141 u142 u143 u144 u145 u146 u147 u148 u149 u150 u151 u152 u153 u154 u155 u156 u157 u158 u159 u160 u161 u162 u163 u164 u165 u166 u167 u168 u169 u170 u171 u172 u173 u174 u175 u176 u177 u178 u179 u180 u181 u182 u183 u184 u185 u186 u187 u188 u189 u190 u191 u192 u193 u194 u195 u196 u197 u198 u199 u200 u201 u202 u203 u204 u205 u206 u207 u208 u209 u210 u211 u212 u213 u214 u215 u216 u217 u218 u219 u220 u221 u222 u223 u224 u225 u226 u227 u228 u229 u230 u231 u232 u233 u234 u235 u236 u237 u238 u239 u240 u241 u242 u243 u244 u245 u246 u247 u248 u249 u250 u251 u252 u253 u254 : Value) (w' : World), Laid w w' 163 B (64 * P) (.slice (some ⟨g, 0, none⟩) (64 * P) bc) (state B P) -> K ⟨#[c0, c1, c2, .slice (some ⟨w.heap.size, 0, none⟩) 8 8, .slice (some ⟨w.heap.size + 1, 0, none⟩) 64 64, .slice (some ⟨g, 0, none⟩) (64 * P) bc, u6, u7, u8, u9, u10, u11, u12, u13, u14, u15, u16, u17, u18, c19, c20, c21, c22, c23, c24, c25, c26, c27, c28, c29, c30, c31, c32, c33, c34, c35, c36, c37, c38, c39, u40, u41, u42, u43, u44, u45, u46, u47, u48, u49, u50, u51, u52, u53, u54, u55, u56, u57, u58, u59, u60, u61, u62, u63, u64, u65, u66, u67, u68, u69, u70, u71, u72, u73, u74, u75, u76, u77, u78, u79, u80, u81, u82, u83, u84, u85, u86, u87, u88, u89, u90, u91, u92, u93, u94, u95, u96, u97, u98, u99, u100, u101, u102, u103, u104, u105, u106, u107, u108, u109, u110, u111, u112, u113, u114, u115, u116, u117, u118, u119, u120, u121, u122, u123, u124, u125, u126, u127, u128, u129, u130, u131, u132, u133, u134, u135, u136, u137, u138, u139, u140, u141, u142, u143, u144, u145, u146, u147, u148, u149, u150, u151, u152, u153, u154, u155, u156, u157, u158, u159, u160, u161, u162, u163, u164, u165, u166, u167, u168, u169, u170, u171, u172, u173, u174, u175, u176, u177, u178, u179, u180, u181, u182, u183, u184, u185, u186, u187, u188, u189, u190, u191, u192, u193, u194, u195, u196, u197, u198, u199, u200, u201, u202, u203, u204, u205, u206, u207, u208, u209, u210, u211, u212, u213, u214, u215, u216, u217, u218, u219, u220, u221, u222, u223, u224, u225, u226, u227, u228, u229, u230, u231, u232, u233, u234, u235, u236, u237, u238, u239, u240, u241, u242, u243, u244, u245, u246, u247, u248, u249, u250, u251, u252, u253, u254, c255, c256, c257, c258, c259, c260, c261, c262, c263, c264, c265, c266, c267], []⟩ w') := hK
 have HB : Hid (∀ i, 0 <= B i /\ B i <= 255) := hB
 have H0 : Hid (Laid w w0 163 B (64 * P) (.slice (some ⟨g, 0, none⟩) (64 * P) bc) (state B 0)) := hL
 clear hK hB hL
 have hmk : ∀ wx, (Instr.makeSlice 169 (.int .i64 64) (.int .i64 64)).run Tryz.prog wx = .ok (.slice (some ⟨wx.heap.size, 0, none⟩) 64 64) (wx.alloc (.cells (madeCells #[.int .u32 0] 64) 163)) := run_make_row' (P := Tryz.prog) 169 163 (.int .u32 0) 4 Tryz.underlying169 u32info rfl .i64 .i64 64 (by omega) (by omega)
 dsimp only
 go_wp2_with fail
 go_loopw [6] (fun av wx => ∃ c : Nat, av = .int .i64 (64 * (c : Int)) /\ c <= P /\ Hid (Laid w wx 163 B (64 * P) (.slice (some ⟨g, 0, none⟩) (64 * P) bc) (state B c))) (fun av _ => (64 * P - (intOf av).toNat))
 case atStart => exact ⟨0, rfl, Nat.zero_le _, H0⟩
 case round =>
  obtain ⟨c, rfl, hc, HD⟩ := hrel
  by_cases hlt : c < P
  · go_upto_block 4 with fail
   refine words_loop wr _ B g (64 * P) bc c _ _ _ _ _ _ _ _ _ _ _ _ _ _ _ _ _ _ _ _ _ _ _ _ _ _ _ _ _ _ _ _ _ _ _ _ _ _ _ _ _ _ _ _ _ _ _ _ _ _ _ _ _ _ _ _ _ _ _ _ _ _ _ _ _ _ _ _ _ _ _ _ _ _ _ _ _ _ _ _ _ _ _ _ _ _ _ _ _ _ _ _ _ _ _ _ _ _ _ _ _ _ _ _ _ _ _ _ _ _ _ _ _ _ _ _ _ _ _ _ _ _ _ _ _ _ _ _ _ _ _ _ _ _ _ _ _ _ _ _ _ _ _ _ _ _ _ _ _ _ _ _ _ _ _ _ _ _ _ _ _ _ _ _ _ _ _ _ _ _ _ _ _ _ _ _ _ _ _ _ _ _ _ _ _ _ _ _ _ _ _ _ _ _ _ _ _ _ _ _ _ _ _ _ _ _ _ _ _ _ _ _ _ _ _ _ _ _ _ _ _ _ _ _ _ _ _ _ _ _ _ _ _ _ _ _ _ _ _ _ _ _ _ _ _ _ _ _ _ _ _ _ _ _ _ _ _ _ _ _ _ _ _ _ (by omega) (by omega) ((Old.refl wr).alloc _) (laid_cells HD.out) HB.out (World.rowIs_made wr _ 64 _) ?_
   intro u8 u9 u10 u11 u47 u48 u49 u50 u51 u52 u53 u54 u55 u56 u57 u58 u59 u60 u61 u62 u63 u64 u65 u66 u67 u68 u69 u70 u71 u72 u73 u74 u75 u76 u77 u78 u79 u80 u81 u82 u83 u84 u85 u86 u87 u88 u89 u90 u91 u92 u93 u94 u95 u96 u97 u98 u99 u100 u101 u102 u103 u104 u105 u106 u107 u108 u109 u110 u111 u112 u113 u114 u115 u116 u117 u118 u119 u120 u121 u122 u123 u124 u125 u126 u127 u128 u129 u130 w1 hold1 hrow1
   have HW : Hid (Old wr w1 /\ w1.rowIs wr.heap.size 163 64 (fun j => .int .u32 (sched (fun j => B (64 * c + j)) 64 j))) := ⟨hold1, hrow1⟩
   have hh := hold1.row HD.out.hrow
   clear hold1 hrow1
   have h0 := hh.cell (i := 0) (by omega)
   have h1 := hh.cell (i := 1) (by omega)
   have h2 := hh.cell (i := 2) (by omega)
   have h3 := hh.cell (i := 3) (by omega)
   have h4 := hh.cell (i := 4) (by omega)
   have h5 := hh.cell (i := 5) (by omega)
   have h6 := hh.cell (i := 6) (by omega)
   have h7 := hh.cell (i := 7) (by omega)
   have hnew := World.new_ne w1 _ h0
   clear hh
   dsimp only
   go_wp2_with fail
   generalize hst : state B c = h at *
   have HS : Hid (state B c = h) := hst
   clear hst
   go_region_held3 (fun w' => w'.cell? ⟨w.heap.size, 0, none⟩ = some (.int .u32 (h 0)) /\ w'.cell? ⟨w.heap.size, 1, none⟩ = some (.int .u32 (h 1)) /\ w'.cell? ⟨w.heap.size, 2, none⟩ = some (.int .u32 (h 2)) /\ w'.cell? ⟨w.heap.size, 3, none⟩ = some (.int .u32 (h 3)) /\ w'.cell? ⟨w.heap.size, 4, none⟩ = some (.int .u32 (h 4)) /\ w'.cell? ⟨w.heap.size, 5, none⟩ = some (.int .u32 (h 5)) /\ w'.cell? ⟨w.heap.size, 6, none⟩ = some (.int .u32 (h 6)) /\ w'.cell? ⟨w.heap.size, 7, none⟩ = some (.int .u32 (h 7))) (go_keep) (fail)
   clear h0 h1 h2 h3 h4 h5 h6 h7 hnew
   go_upto_block 6 with fail
   refine rounds_loop w1 _ (sched (fun j => B (64 * c + j)) 64) h 164 (w.heap.size + 1) wr.heap.size _ _ _ _ _ _ _ _ _ _ _ _ _ _ _ _ _ _ _ _ _ _ _ _ _ _ _ _ _ _ _ _ _ _ _ _ _ _ _ _ _ _ _ _ _ _ _ _ _ _ _ _ _ _ _ _ _ _ _ _ _ _ _ _ _ _ _ _ _ _ _ _ _ _ _ _ _ _ _ _ _ _ _ _ _ _ _ _ _ _ _ _ _ _ _ _ _ _ _ _ _ _ _ _ _ _ _ _ _ _ _ _ _ _ _ _ _ _ _ _ _ _ _ _ _ _ _ _ _ _ _ _ _ _ _ _ _ _ _ _ _ _ _ _ _ _ _ _ _ _ _ _ _ _ _ _ _ _ _ _ _ _ _ _ _ _ _ _ _ _ _ _ _ _ _ _ _ _ _ _ _ _ _ _ _ _ _ _ _ _ _ _ _ _ _ _ _ _ _ _ _ _ _ _ _ _ _ _ _ _ _ _ _ _ _ _ _ _ _ _ _ _ _ _ _ _ _ _ _ _ _ _ _ _ _ _ _ _ _ _ _ _ _ _ _ _ _ _ _ _ _ _ _ _ _ _ _ _ _ _ _ _ _ _ ((Old.refl w1).alloc _).drew (HW.out.1.row HD.out.krow) HW.out.2 (eight_row w1 164 h) ?_
   intro u13 u14 u15 u16 u17 u156 u157 u158 u159 u160 u161 u162 u163 u164 u165 u166 u167 u168 u169 u170 u171 u172 u173 u174 u175 u176 u177 u178 u179 u180 u181 u182 u183 u184 u185 u186 u187 u188 u189 u190 u191 u192 u193 u194 u195 u196 u197 u198 u199 u200 u201 u202 u203 u204 u205 u206 u207 u208 u209 u210 u211 u212 u213 u214 u215 u216 u217 u218 u219 u220 u221 u222 u223 u224 u225 u226 u227 u228 u229 u230 u231 u232 u233 u234 u235 u236 u237 u238 u239 w2 hold2 hrow2
   have HX : Hid (Old w1 w2 /\ w2.rowIs w1.heap.size 164 8 (fun i => .int .u32 (rounds (sched (fun j => B (64 * c + j)) 64) 64 h i))) := ⟨hold2, hrow2⟩
   clear hold2 hrow2
   dsimp only
   go_upto_block 8 with fail
   refine adds_loop w2 h (rounds (sched (fun j => B (64 * c + j)) 64) 64 h) 164 w.heap.size w1.heap.size _ _ _ _ _ _ _ _ _ _ _ _ _ _ _ _ _ _ _ _ _ _ _ _ _ _ _ _ _ _ _ _ _ _ _ _ _ _ _ _ _ _ _ _ _ _ _ _ _ _ _ _ _ _ _ _ _ _ _ _ _ _ _ _ _ _ _ _ _ _ _ _ _ _ _ _ _ _ _ _ _ _ _ _ _ _ _ _ _ _ _ _ _ _ _ _ _ _ _ _ _ _ _ _ _ _ _ _ _ _ _ _ _ _ _ _ _ _ _ _ _ _ _ _ _ _ _ _ _ _ _ _ _ _ _ _ _ _ _ _ _ _ _ _ _ _ _ _ _ _ _ _ _ _ _ _ _ _ _ _ _ _ _ _ _ _ _ _ _ _ _ _ _ _ _ _ _ _ _ _ _ _ _ _ _ _ _ _ _ _ _ _ _ _ _ _ _ _ _ _ _ _ _ _ _ _ _ _ _ _ _ _ _ _ _ _ _ _ _ _ _ _ _ _ _ _ _ _ _ _ _ _ _ _ _ _ _ _ _ _ _ _ _ _ _ _ _ _ _ _ _ _ _ _ _ _ _ _ _ _ _ _ _ _ _ (Nat.ne_of_gt (HW.out.1.row HD.out.hrow).lt) (HX.out.1.row (HW.out.1.row HD.out.hrow)) HX.out.2 ?_
   intro u18 u240 u241 u242 u243 u244 u245 u246 u247 u248 u249 u250 u251 u252 u253 u254 w3 hbut hrow3
   have HY : Hid (Laid w w3 163 B (64 * P) (.slice (some ⟨g, 0, none⟩) (64 * P) bc) (state B (c + 1))) := laid_next HD.out (HW.out.1.trans HX.out.1) hbut (hrow3.congr fun i _ => by rw [<- HS.out]; rfl)
   clear hbut hrow3 HX HW HD HS
   dsimp only
   go_wp2_with fail
   go_roundw
   case rel => exact ⟨c + 1, by go_num, by omega, HY⟩
   case measure => simp [intOf]; omega
  · have he : c = P := by omega
   subst he
   go_wp2_with fail
   exact HK.out _ _ _ _ _ _ _ _ _ _ _ _ _ _ _ _ _ _ _ _ _ _ _ _ _ _ _ _ _ _ _ _ _ _ _ _ _ _ _ _ _ _ _ _ _ _ _ _ _ _ _ _ _ _ _ _ _ _ _ _ _ _ _ _ _ _ _ _ _ _ _ _ _ _ _ _ _ _ _ _ _ _ _ _ _ _ _ _ _ _ _ _ _ _ _ _ _ _ _ _ _ _ _ _ _ _ _ _ _ _ _ _ _ _ _ _ _ _ _ _ _ _ _ _ _ _ _ _ _ _ _ _ _ _ _ _ _ _ _ _ _ _ _ _ _ _ _ _ _ _ _ _ _ _ _ _ _ _ _ _ _ _ _ _ _ _ _ _ _ _ _ _ _ _ _ _ _ _ _ _ _ _ _ _ _ _ _ _ _ _ _ _ _ _ _ _ _ _ _ _ _ _ _ _ _ _ _ _ _ _ _ _ _ _ _ _ _ _ _ _ _ _ _ _ _ _ _ _ _ HD.out
end
end Go.Proofs.YtlnmjbbpenhdbaaGreat
