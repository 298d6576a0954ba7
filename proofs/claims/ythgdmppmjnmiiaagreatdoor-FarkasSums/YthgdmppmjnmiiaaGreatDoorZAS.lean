/- The document's Sum: rows and multipliers as they lie. -/
import Derived.Test.YthgdmppmjnmiiaaGreatDoorZAR
set_option linter.unusedVariables false
set_option linter.unusedSimpArgs false

/- The document's Sum: a round over the multipliers. -/
namespace Go.Proofs.YthgdmppmjnmiiaaGreatDoor
open Go Go.RowKit Go.Maps
open _root_.Go.Proofs.YthgdmppmjnmiiaaGreatDoor.Nm (IsI IsN Ns pw)

/-- Where a round over the multipliers begins. -/
structure SM (a : Act) (b off n cL bB oB nB cB nb no nn nc S sc Kb i R : Nat) : Prop where
  dfr : a.defers = []
  sz : a.tmps.size = 166
  s0 : a.tmps[0]? = some (.slice (some ⟨b, off, none⟩) n cL)
  s1 : a.tmps[1]? = some (.slice (some ⟨bB, oB, none⟩) nB cB)
  s4 : a.tmps[4]? = some (.pointer (some ⟨R, 0, none⟩))
  s8 : a.tmps[8]? = some (.slice (aOf nb no nn) nn nc)
  s9 : a.tmps[9]? = some (.slice (some ⟨S, 0, none⟩) nn sc)
  s10 : a.tmps[10]? = some (.pointer (some ⟨Kb, 0, none⟩))
  s11 : a.tmps[11]? = some (.int .i64 i)
set_option maxRecDepth 100000 in
theorem SM.lit {a : Act} {b off n cL bB oB nB cB nb no nn nc S sc Kb i R : Nat} (h : SM a b off n cL bB oB nB cB nb no nn nc S sc Kb i R) : ∃ u : Nat → Value, a = ⟨#[.slice (some ⟨b, off, none⟩) n cL, .slice (some ⟨bB, oB, none⟩) nB cB, u 2, u 3, .pointer (some ⟨R, 0, none⟩), u 5, u 6, u 7, .slice (aOf nb no nn) nn nc, .slice (some ⟨S, 0, none⟩) nn sc, .pointer (some ⟨Kb, 0, none⟩), .int .i64 i, u 12, u 13, u 14, u 15, u 16, u 17, u 18, u 19, u 20, u 21, u 22, u 23, u 24, u 25, u 26, u 27, u 28, u 29, u 30, u 31, u 32, u 33, u 34, u 35, u 36, u 37, u 38, u 39, u 40, u 41, u 42, u 43, u 44, u 45, u 46, u 47, u 48, u 49, u 50, u 51, u 52, u 53, u 54, u 55, u 56, u 57, u 58, u 59, u 60, u 61, u 62, u 63, u 64, u 65, u 66, u 67, u 68, u 69, u 70, u 71, u 72, u 73, u 74, u 75, u 76, u 77, u 78, u 79, u 80, u 81, u 82, u 83, u 84, u 85, u 86, u 87, u 88, u 89, u 90, u 91, u 92, u 93, u 94, u 95, u 96, u 97, u 98, u 99, u 100, u 101, u 102, u 103, u 104, u 105, u 106, u 107, u 108, u 109, u 110, u 111, u 112, u 113, u 114, u 115, u 116, u 117, u 118, u 119, u 120, u 121, u 122, u 123, u 124, u 125, u 126, u 127, u 128, u 129, u 130, u 131, u 132, u 133, u 134, u 135, u 136, u 137, u 138, u 139, u 140, u 141, u 142, u 143, u 144, u 145, u 146, u 147, u 148, u 149, u 150, u 151, u 152, u 153, u 154, u 155, u 156, u 157, u 158, u 159, u 160, u 161, u 162, u 163, u 164, u 165], []⟩ := by
  obtain ⟨tmps, dfr⟩ := a
  refine ⟨fun i => tmps.getD i undef, ?_⟩
  have hd : dfr = [] := h.dfr
  have hl := arr_lit (show tmps.size = 166 from h.sz)
  have g0 : tmps.getD 0 undef = .slice (some ⟨b, off, none⟩) n cL := getD_some h.s0
  have g1 : tmps.getD 1 undef = .slice (some ⟨bB, oB, none⟩) nB cB := getD_some h.s1
  have g4 : tmps.getD 4 undef = .pointer (some ⟨R, 0, none⟩) := getD_some h.s4
  have g8 : tmps.getD 8 undef = .slice (aOf nb no nn) nn nc := getD_some h.s8
  have g9 : tmps.getD 9 undef = .slice (some ⟨S, 0, none⟩) nn sc := getD_some h.s9
  have g10 : tmps.getD 10 undef = .pointer (some ⟨Kb, 0, none⟩) := getD_some h.s10
  have g11 : tmps.getD 11 undef = .int .i64 i := getD_some h.s11
  subst hd
  congr 1
  have e : ((List.range 166).map fun i => tmps.getD i undef).toArray = #[tmps.getD 0 undef, tmps.getD 1 undef, tmps.getD 2 undef, tmps.getD 3 undef, tmps.getD 4 undef, tmps.getD 5 undef, tmps.getD 6 undef, tmps.getD 7 undef, tmps.getD 8 undef, tmps.getD 9 undef, tmps.getD 10 undef, tmps.getD 11 undef, tmps.getD 12 undef, tmps.getD 13 undef, tmps.getD 14 undef, tmps.getD 15 undef, tmps.getD 16 undef, tmps.getD 17 undef, tmps.getD 18 undef, tmps.getD 19 undef, tmps.getD 20 undef, tmps.getD 21 undef, tmps.getD 22 undef, tmps.getD 23 undef, tmps.getD 24 undef, tmps.getD 25 undef, tmps.getD 26 undef, tmps.getD 27 undef, tmps.getD 28 undef, tmps.getD 29 undef, tmps.getD 30 undef, tmps.getD 31 undef, tmps.getD 32 undef, tmps.getD 33 undef, tmps.getD 34 undef, tmps.getD 35 undef, tmps.getD 36 undef, tmps.getD 37 undef, tmps.getD 38 undef, tmps.getD 39 undef, tmps.getD 40 undef, tmps.getD 41 undef, tmps.getD 42 undef, tmps.getD 43 undef, tmps.getD 44 undef, tmps.getD 45 undef, tmps.getD 46 undef, tmps.getD 47 undef, tmps.getD 48 undef, tmps.getD 49 undef, tmps.getD 50 undef, tmps.getD 51 undef, tmps.getD 52 undef, tmps.getD 53 undef, tmps.getD 54 undef, tmps.getD 55 undef, tmps.getD 56 undef, tmps.getD 57 undef, tmps.getD 58 undef, tmps.getD 59 undef, tmps.getD 60 undef, tmps.getD 61 undef, tmps.getD 62 undef, tmps.getD 63 undef, tmps.getD 64 undef, tmps.getD 65 undef, tmps.getD 66 undef, tmps.getD 67 undef, tmps.getD 68 undef, tmps.getD 69 undef, tmps.getD 70 undef, tmps.getD 71 undef, tmps.getD 72 undef, tmps.getD 73 undef, tmps.getD 74 undef, tmps.getD 75 undef, tmps.getD 76 undef, tmps.getD 77 undef, tmps.getD 78 undef, tmps.getD 79 undef, tmps.getD 80 undef, tmps.getD 81 undef, tmps.getD 82 undef, tmps.getD 83 undef, tmps.getD 84 undef, tmps.getD 85 undef, tmps.getD 86 undef, tmps.getD 87 undef, tmps.getD 88 undef, tmps.getD 89 undef, tmps.getD 90 undef, tmps.getD 91 undef, tmps.getD 92 undef, tmps.getD 93 undef, tmps.getD 94 undef, tmps.getD 95 undef, tmps.getD 96 undef, tmps.getD 97 undef, tmps.getD 98 undef, tmps.getD 99 undef, tmps.getD 100 undef, tmps.getD 101 undef, tmps.getD 102 undef, tmps.getD 103 undef, tmps.getD 104 undef, tmps.getD 105 undef, tmps.getD 106 undef, tmps.getD 107 undef, tmps.getD 108 undef, tmps.getD 109 undef, tmps.getD 110 undef, tmps.getD 111 undef, tmps.getD 112 undef, tmps.getD 113 undef, tmps.getD 114 undef, tmps.getD 115 undef, tmps.getD 116 undef, tmps.getD 117 undef, tmps.getD 118 undef, tmps.getD 119 undef, tmps.getD 120 undef, tmps.getD 121 undef, tmps.getD 122 undef, tmps.getD 123 undef, tmps.getD 124 undef, tmps.getD 125 undef, tmps.getD 126 undef, tmps.getD 127 undef, tmps.getD 128 undef, tmps.getD 129 undef, tmps.getD 130 undef, tmps.getD 131 undef, tmps.getD 132 undef, tmps.getD 133 undef, tmps.getD 134 undef, tmps.getD 135 undef, tmps.getD 136 undef, tmps.getD 137 undef, tmps.getD 138 undef, tmps.getD 139 undef, tmps.getD 140 undef, tmps.getD 141 undef, tmps.getD 142 undef, tmps.getD 143 undef, tmps.getD 144 undef, tmps.getD 145 undef, tmps.getD 146 undef, tmps.getD 147 undef, tmps.getD 148 undef, tmps.getD 149 undef, tmps.getD 150 undef, tmps.getD 151 undef, tmps.getD 152 undef, tmps.getD 153 undef, tmps.getD 154 undef, tmps.getD 155 undef, tmps.getD 156 undef, tmps.getD 157 undef, tmps.getD 158 undef, tmps.getD 159 undef, tmps.getD 160 undef, tmps.getD 161 undef, tmps.getD 162 undef, tmps.getD 163 undef, tmps.getD 164 undef, tmps.getD 165 undef] := rfl
  rw [e, g0, g1, g4, g8, g9, g10, g11] at hl
  exact hl
/-- Behind the first lines of a round over the multipliers. -/
structure SP (a : Act) (b off n cL nb no nn nc S sc Kb i Mb R : Nat) (vB : Value) : Prop where
  dfr : a.defers = []
  sz : a.tmps.size = 166
  s0 : a.tmps[0]? = some (.slice (some ⟨b, off, none⟩) n cL)
  s1 : a.tmps[1]? = some (vB)
  s4 : a.tmps[4]? = some (.pointer (some ⟨R, 0, none⟩))
  s8 : a.tmps[8]? = some (.slice (aOf nb no nn) nn nc)
  s9 : a.tmps[9]? = some (.slice (some ⟨S, 0, none⟩) nn sc)
  s10 : a.tmps[10]? = some (.pointer (some ⟨Kb, 0, none⟩))
  s11 : a.tmps[11]? = some (.int .i64 i)
  s12 : a.tmps[12]? = some (.pointer (some ⟨Mb, 0, none⟩))
set_option maxRecDepth 100000 in
theorem SP.lit {a : Act} {b off n cL nb no nn nc S sc Kb i Mb R : Nat} {vB : Value} (h : SP a b off n cL nb no nn nc S sc Kb i Mb R vB) : ∃ u : Nat → Value, a = ⟨#[.slice (some ⟨b, off, none⟩) n cL, vB, u 2, u 3, .pointer (some ⟨R, 0, none⟩), u 5, u 6, u 7, .slice (aOf nb no nn) nn nc, .slice (some ⟨S, 0, none⟩) nn sc, .pointer (some ⟨Kb, 0, none⟩), .int .i64 i, .pointer (some ⟨Mb, 0, none⟩), u 13, u 14, u 15, u 16, u 17, u 18, u 19, u 20, u 21, u 22, u 23, u 24, u 25, u 26, u 27, u 28, u 29, u 30, u 31, u 32, u 33, u 34, u 35, u 36, u 37, u 38, u 39, u 40, u 41, u 42, u 43, u 44, u 45, u 46, u 47, u 48, u 49, u 50, u 51, u 52, u 53, u 54, u 55, u 56, u 57, u 58, u 59, u 60, u 61, u 62, u 63, u 64, u 65, u 66, u 67, u 68, u 69, u 70, u 71, u 72, u 73, u 74, u 75, u 76, u 77, u 78, u 79, u 80, u 81, u 82, u 83, u 84, u 85, u 86, u 87, u 88, u 89, u 90, u 91, u 92, u 93, u 94, u 95, u 96, u 97, u 98, u 99, u 100, u 101, u 102, u 103, u 104, u 105, u 106, u 107, u 108, u 109, u 110, u 111, u 112, u 113, u 114, u 115, u 116, u 117, u 118, u 119, u 120, u 121, u 122, u 123, u 124, u 125, u 126, u 127, u 128, u 129, u 130, u 131, u 132, u 133, u 134, u 135, u 136, u 137, u 138, u 139, u 140, u 141, u 142, u 143, u 144, u 145, u 146, u 147, u 148, u 149, u 150, u 151, u 152, u 153, u 154, u 155, u 156, u 157, u 158, u 159, u 160, u 161, u 162, u 163, u 164, u 165], []⟩ := by
  obtain ⟨tmps, dfr⟩ := a
  refine ⟨fun i => tmps.getD i undef, ?_⟩
  have hd : dfr = [] := h.dfr
  have hl := arr_lit (show tmps.size = 166 from h.sz)
  have g0 : tmps.getD 0 undef = .slice (some ⟨b, off, none⟩) n cL := getD_some h.s0
  have g1 : tmps.getD 1 undef = vB := getD_some h.s1
  have g4 : tmps.getD 4 undef = .pointer (some ⟨R, 0, none⟩) := getD_some h.s4
  have g8 : tmps.getD 8 undef = .slice (aOf nb no nn) nn nc := getD_some h.s8
  have g9 : tmps.getD 9 undef = .slice (some ⟨S, 0, none⟩) nn sc := getD_some h.s9
  have g10 : tmps.getD 10 undef = .pointer (some ⟨Kb, 0, none⟩) := getD_some h.s10
  have g11 : tmps.getD 11 undef = .int .i64 i := getD_some h.s11
  have g12 : tmps.getD 12 undef = .pointer (some ⟨Mb, 0, none⟩) := getD_some h.s12
  subst hd
  congr 1
  have e : ((List.range 166).map fun i => tmps.getD i undef).toArray = #[tmps.getD 0 undef, tmps.getD 1 undef, tmps.getD 2 undef, tmps.getD 3 undef, tmps.getD 4 undef, tmps.getD 5 undef, tmps.getD 6 undef, tmps.getD 7 undef, tmps.getD 8 undef, tmps.getD 9 undef, tmps.getD 10 undef, tmps.getD 11 undef, tmps.getD 12 undef, tmps.getD 13 undef, tmps.getD 14 undef, tmps.getD 15 undef, tmps.getD 16 undef, tmps.getD 17 undef, tmps.getD 18 undef, tmps.getD 19 undef, tmps.getD 20 undef, tmps.getD 21 undef, tmps.getD 22 undef, tmps.getD 23 undef, tmps.getD 24 undef, tmps.getD 25 undef, tmps.getD 26 undef, tmps.getD 27 undef, tmps.getD 28 undef, tmps.getD 29 undef, tmps.getD 30 undef, tmps.getD 31 undef, tmps.getD 32 undef, tmps.getD 33 undef, tmps.getD 34 undef, tmps.getD 35 undef, tmps.getD 36 undef, tmps.getD 37 undef, tmps.getD 38 undef, tmps.getD 39 undef, tmps.getD 40 undef, tmps.getD 41 undef, tmps.getD 42 undef, tmps.getD 43 undef, tmps.getD 44 undef, tmps.getD 45 undef, tmps.getD 46 undef, tmps.getD 47 undef, tmps.getD 48 undef, tmps.getD 49 undef, tmps.getD 50 undef, tmps.getD 51 undef, tmps.getD 52 undef, tmps.getD 53 undef, tmps.getD 54 undef, tmps.getD 55 undef, tmps.getD 56 undef, tmps.getD 57 undef, tmps.getD 58 undef, tmps.getD 59 undef, tmps.getD 60 undef, tmps.getD 61 undef, tmps.getD 62 undef, tmps.getD 63 undef, tmps.getD 64 undef, tmps.getD 65 undef, tmps.getD 66 undef, tmps.getD 67 undef, tmps.getD 68 undef, tmps.getD 69 undef, tmps.getD 70 undef, tmps.getD 71 undef, tmps.getD 72 undef, tmps.getD 73 undef, tmps.getD 74 undef, tmps.getD 75 undef, tmps.getD 76 undef, tmps.getD 77 undef, tmps.getD 78 undef, tmps.getD 79 undef, tmps.getD 80 undef, tmps.getD 81 undef, tmps.getD 82 undef, tmps.getD 83 undef, tmps.getD 84 undef, tmps.getD 85 undef, tmps.getD 86 undef, tmps.getD 87 undef, tmps.getD 88 undef, tmps.getD 89 undef, tmps.getD 90 undef, tmps.getD 91 undef, tmps.getD 92 undef, tmps.getD 93 undef, tmps.getD 94 undef, tmps.getD 95 undef, tmps.getD 96 undef, tmps.getD 97 undef, tmps.getD 98 undef, tmps.getD 99 undef, tmps.getD 100 undef, tmps.getD 101 undef, tmps.getD 102 undef, tmps.getD 103 undef, tmps.getD 104 undef, tmps.getD 105 undef, tmps.getD 106 undef, tmps.getD 107 undef, tmps.getD 108 undef, tmps.getD 109 undef, tmps.getD 110 undef, tmps.getD 111 undef, tmps.getD 112 undef, tmps.getD 113 undef, tmps.getD 114 undef, tmps.getD 115 undef, tmps.getD 116 undef, tmps.getD 117 undef, tmps.getD 118 undef, tmps.getD 119 undef, tmps.getD 120 undef, tmps.getD 121 undef, tmps.getD 122 undef, tmps.getD 123 undef, tmps.getD 124 undef, tmps.getD 125 undef, tmps.getD 126 undef, tmps.getD 127 undef, tmps.getD 128 undef, tmps.getD 129 undef, tmps.getD 130 undef, tmps.getD 131 undef, tmps.getD 132 undef, tmps.getD 133 undef, tmps.getD 134 undef, tmps.getD 135 undef, tmps.getD 136 undef, tmps.getD 137 undef, tmps.getD 138 undef, tmps.getD 139 undef, tmps.getD 140 undef, tmps.getD 141 undef, tmps.getD 142 undef, tmps.getD 143 undef, tmps.getD 144 undef, tmps.getD 145 undef, tmps.getD 146 undef, tmps.getD 147 undef, tmps.getD 148 undef, tmps.getD 149 undef, tmps.getD 150 undef, tmps.getD 151 undef, tmps.getD 152 undef, tmps.getD 153 undef, tmps.getD 154 undef, tmps.getD 155 undef, tmps.getD 156 undef, tmps.getD 157 undef, tmps.getD 158 undef, tmps.getD 159 undef, tmps.getD 160 undef, tmps.getD 161 undef, tmps.getD 162 undef, tmps.getD 163 undef, tmps.getD 164 undef, tmps.getD 165 undef] := rfl
  rw [e, g0, g1, g4, g8, g9, g10, g11, g12] at hl
  exact hl

/-- The memory between two rounds: as NS, without a multiplier. -/
structure NK (w0 : World) (B : Nat) (nl : List ByteArray) (nb no S Kb : Nat) (k : Int) (F : Nat → Int) (W : World) : Prop where
  lo : Below B w0 W
  nm : ∀ (q : Nat) x, nl[q]? = some x → W.cell? ⟨nb, no + q, none⟩ = some (.string x)
  nlt : nb < W.heap.size
  sn : ∃ cs, SNs W S nl.length F cs
  kb : ∃ k1 k2, W.heap[Kb]? = some (.cells #[k1, k2] 58) ∧ IsN W (.agg #[k1, k2]) k
theorem NS.nk {w0 : World} {B : Nat} {nl : List ByteArray} {nb no S Kb Mb : Nat} {m k : Int} {F : Nat → Int} {W : World} (h : NS w0 B nl nb no S Kb Mb m k F W) : NK w0 B nl nb no S Kb k F W := ⟨h.lo, h.nm, h.nlt, h.sn, h.kb⟩
theorem NK.more {w0 : World} {B : Nat} {nl : List ByteArray} {nb no S Kb : Nat} {k : Int} {F : Nat → Int} {W V : World} (h : NK w0 B nl nb no S Kb k F W) (hB : B ≤ W.heap.size) (hb : Below W.heap.size W V) : NK w0 B nl nb no S Kb k F V := by
  obtain ⟨cs, hs⟩ := h.sn
  obtain ⟨k1, k2, hk, ik⟩ := h.kb
  exact ⟨h.lo.trans (hb.mono hB), fun q x hx => by rw [hb.cell (p := ⟨nb, no + q, none⟩) h.nlt]; exact h.nm q x hx, Nat.lt_of_lt_of_le h.nlt hb.size, ⟨cs, hs.more hb⟩, ⟨k1, k2, (hb.block Kb (Array.getElem?_eq_some_iff.1 hk).1).trans hk, ik.below hb⟩⟩
theorem NK.box {w0 : World} {B : Nat} {nl : List ByteArray} {nb no S Kb : Nat} {k m : Int} {F : Nat → Int} {W : World} {m1 m2 : Value} (h : NK w0 B nl nb no S Kb k F W) (hB : B ≤ W.heap.size) (hm : IsN W (.agg #[m1, m2]) m) : NS w0 B nl nb no S Kb W.heap.size m k F (W.alloc (.cells #[m1, m2] 58)) := by
  have hb : Below W.heap.size W (W.alloc (.cells #[m1, m2] 58)) := (Below.refl _ W).alloc (Nat.le_refl _) _
  have h2 := h.more hB hb
  refine ⟨h2.lo, h2.nm, h2.nlt, h2.sn, ⟨m1, m2, ?_, hm.below hb⟩, h2.kb⟩
  show (W.heap.push _)[W.heap.size]? = _
  simp
theorem NS.kput {w0 : World} {B : Nat} {nl : List ByteArray} {nb no S Kb Mb : Nat} {m k z : Int} {F : Nat → Int} {W W' : World} (h : NS w0 B nl nb no S Kb Mb m k F W) (hB : B ≤ W.heap.size) (hKB : B ≤ Kb) (hn : nb ≠ Kb) (hM : Mb ≠ Kb) (hS : S ≠ Kb) (ha : AddedN W W' Kb 0 z) : NS w0 B nl nb no S Kb Mb m z F W' ∧ W.heap.size ≤ W'.heap.size := by
  obtain ⟨V, b1, na, nl1, nc1, hb, hI, rfl⟩ := ha
  have hV := h.more hB hb
  obtain ⟨cs, hs⟩ := hV.sn
  obtain ⟨m1, m2, hm, im⟩ := hV.mb
  obtain ⟨k1, k2, hk, ik⟩ := hV.kb
  have hp : PutAt Kb V ((V.setCell ⟨Kb, 0, none⟩ (.bool b1)).setCell ⟨Kb, 0 + 1, none⟩ (.slice na nl1 nc1)) := ((PutAt.refl Kb V).set _ _).set _ _
  have hno : NoI V Kb := by
    obtain ⟨bb, a, l, c, e⟩ := ik.form
    have e2 : k1 = .bool bb ∧ k2 = .slice a l c := by simpa using e
    obtain ⟨rfl, rfl⟩ := e2
    refine NoI.of hk fun o v hv y e => ?_
    subst e
    match o, hv with
    | 0, hv => simp at hv
    | 1, hv => simp at hv
    | o + 2, hv => simp at hv
  have hsz := hp.size
  have hb2 := hb.size
  exact ⟨⟨hp.below hV.lo hKB, fun j x hx => (World.cell?_of_block (w := V) (a := ⟨nb, no + j, none⟩) (hp.block nb hn)).trans (hV.nm j x hx), by rw [hp.size]; exact hV.nlt, ⟨cs, hs.other hp hno hS⟩, ⟨m1, m2, (hp.block Mb hM).trans hm, IsN.stay im hp hno⟩, ⟨.bool b1, .slice na nl1 nc1, fill2 hk, IsN.stay hI hp hno⟩⟩, by omega⟩
set_option maxRecDepth 100000 in
set_option maxHeartbeats 16000000 in
theorem i_round {Q : Exit → Act → World → Prop} {a : Act} {w0 W : World} {B b off n cL bB oB nB cB nb no nc S sc Kb i R cC : Nat} {aC : Option Addr} {nl : List ByteArray} {ps : List (ByteArray × Int)} {m k zK X : Int} {F : Nat → Int} {tb TK : ByteArray}
    (sf : SM a b off n cL bB oB nB cB nb no nl.length nc S sc Kb i R) (ns : NK w0 B nl nb no S Kb k F W) (hB : B ≤ W.heap.size) (hSB : B ≤ S) (hKB : B ≤ Kb) (hn1 : nb ≠ S) (hn2 : nb ≠ Kb) (hK1 : Kb ≠ S)
    (htb : w0.cell? ⟨bB, oB + i, none⟩ = some (.string tb)) (hm : numT 1600 tb = some m) (hbB : bB < B) (hiB : i < nB) (hnB : nB ≤ 1000000)
    (hC : w0.cell? ⟨b, off + i * 2, none⟩ = some (.slice aC ps.length cC)) (hTK : w0.cell? ⟨b, off + i * 2 + 1, none⟩ = some (.string TK)) (hzK : numT 400 TK = some zK) (hps : PartsAt w0 B ps aC) (hb : b < B) (hi : i < n) (hn : n ≤ 1000000) (hnC : ps.length ≤ 1000000) (hl : nl.length ≤ 1000000) (hsc : nl.length ≤ sc)
    (hX : ∀ c j, ((gF nl ps m F c j).natAbs : Int) ≤ X) (hXm : ∀ (c : Nat) P z, ps[c]? = some (P, z) → ((m * z).natAbs : Int) ≤ X) (hXX : 2 * X < Nm.T4.pw 9000) (bm : (m.natAbs : Int) < Nm.T4.pw 4000) (bz : ∀ (c : Nat) P z, ps[c]? = some (P, z) → (z.natAbs : Int) < Nm.T4.pw 4000)
    (bk : (k.natAbs : Int) < Nm.T4.pw 9000) (bzK : (zK.natAbs : Int) < Nm.T4.pw 4000) (bmK : ((m * zK).natAbs : Int) < Nm.T4.pw 9000)
    (hend : ∀ a' W', SM a' b off n cL bB oB nB cB nb no nl.length nc S sc Kb (i + 1) R → NK w0 B nl nb no S Kb (k + m * zK) (gF nl ps m F ps.length) W' → W.heap.size ≤ W'.heap.size → Q .normal a' W') :
    Code.wp Tryz.prog (iBody Tryz.f7) Q a W := by
  obtain ⟨u, rfl⟩ := sf.lit
  have c1 : W.cell? ⟨bB, oB + i, none⟩ = some (.string tb) := (ns.lo.cell (p := ⟨bB, oB + i, none⟩) hbB).trans htb
  have hid : decide ((i : Int) < (nB : Int)) = true := by simp; omega
  have hnbl : nb < W.heap.size := ns.nlt
  have hSl : S < W.heap.size := by obtain ⟨cs, hs⟩ := ns.sn; exact (Array.getElem?_eq_some_iff.1 hs.blk).1
  have hKl : Kb < W.heap.size := by obtain ⟨k1, k2, hk, _⟩ := ns.kb; exact (Array.getElem?_eq_some_iff.1 hk).1
  have HM := hide (mustT (by omega) hm W)
  have HQ := hide hend
  have HNS := hide ns
  have HC : Hid (∀ (W2 : World) (Mb : Nat) (k2 : Int) (Q' : Exit → Act → World → Prop) (a' : Act), SC a' b off n cL nb no nl.length nc S sc Kb i Mb 0 R (.slice (some ⟨bB, oB, none⟩) nB cB) → NS w0 B nl nb no S Kb Mb m k2 F W2 → B ≤ W2.heap.size → Mb ≠ S → (∀ a2 W3, SC a2 b off n cL nb no nl.length nc S sc Kb i Mb ps.length R (.slice (some ⟨bB, oB, none⟩) nB cB) → NS w0 B nl nb no S Kb Mb m k2 (gF nl ps m F ps.length) W3 → W2.heap.size ≤ W3.heap.size → Q' (.exit 6) a2 W3) → Code.wp Tryz.prog (.loop (cBody Tryz.f7)) Q' a' W2) := fun W2 Mb k2 Q' a' sf' ns' hB' hM' he => c_loop sf' ns' hB' hSB hn1 hM' hK1 hC hps hb hi hn hnC hl hsc hX hXm hXX bm bz he
  obtain ⟨L, hL⟩ : ∃ L, nl.length = L := ⟨_, rfl⟩
  rw [hL] at HC HQ hl hsc ⊢
  replace hL := hide hL
  clear hend ns sf hX hXm hXX bz
  conv => arg 2; whnf
  go_wp2_with fail
  refine (unhide HM).mono ?_
  rintro e V ⟨r, rfl, hbV, hIm⟩
  obtain ⟨bb, ra, rl, rc, rfl⟩ := hIm.form
  go_wp2_with fail
  have hVs := hbV.size
  have ns1 := (unhide HNS).more hB hbV
  have ns2 := ns1.box (by omega) hIm
  obtain ⟨W2, hW2⟩ : ∃ W2, V.alloc (.cells #[.bool bb, .slice ra rl rc] 58) = W2 := ⟨_, rfl⟩
  have hsz2 : V.heap.size < W2.heap.size := by rw [← hW2]; simp
  rw [hW2] at ns2 ⊢
  replace hW2 := hide hW2
  obtain ⟨k1, k2, hk, ik⟩ := ns2.kb
  obtain ⟨m1, m2, hmb, im⟩ := ns2.mb
  refine sum_r20 (w0 := W2) (A := Kb) (M := V.heap.size) (b := b) (off := off) (n := n) (cL := cL) (i := i) (T := TK) rfl rfl rfl rfl rfl hk hmb ((ns2.lo.cell (p := ⟨b, off + i * 2 + 1, none⟩) hb).trans hTK) (by omega) hi hn ik im hzK bk bm bzK bmK ?_
  intro a' W' hdf hsz hkp hA
  obtain ⟨ns3, hs3⟩ := ns2.kput (by omega) hKB hn2 (by omega) hK1.symm hA
  have sf' : SP a' b off n cL nb no L nc S sc Kb i V.heap.size R (.slice (some ⟨bB, oB, none⟩) nB cB) := ⟨hdf, hsz, (hkp 0 (List.mem_range.2 (by omega))).trans rfl, (hkp 1 (List.mem_range.2 (by omega))).trans rfl, (hkp 4 (List.mem_range.2 (by omega))).trans rfl, (hkp 8 (List.mem_range.2 (by omega))).trans rfl, (hkp 9 (List.mem_range.2 (by omega))).trans rfl, (hkp 10 (List.mem_range.2 (by omega))).trans rfl, (hkp 11 (List.mem_range.2 (by omega))).trans rfl, (hkp 12 (List.mem_range.2 (by omega))).trans rfl⟩
  obtain ⟨u', rfl⟩ := sf'.lit
  have HN3 := hide ns3
  clear hdf hsz hkp hA sf' ns1 ns2 ns3 hk ik hmb im c1
  go_wp2_with fail
  change Code.wp Tryz.prog (.loop (cBody Tryz.f7)) _ _ _
  refine unhide HC _ _ _ _ _ ⟨rfl, rfl, rfl, rfl, rfl, rfl, rfl, rfl, rfl, rfl, rfl⟩ (unhide HN3) (by omega) (by omega) fun a2 W3 sf2 ns4 hs4 => ?_
  obtain ⟨u2, rfl⟩ := sf2.lit
  have HN4 := hide ns4
  clear sf2 ns4
  go_wp2
  exact unhide HQ _ _ ⟨rfl, rfl, rfl, rfl, rfl, rfl, rfl, rfl, rfl⟩ (unhide HN4).nk (by omega)
end Go.Proofs.YthgdmppmjnmiiaaGreatDoor

/- The document's Sum: the loop over the multipliers, whole. -/
namespace Go.Proofs.YthgdmppmjnmiiaaGreatDoor
open Go Go.RowKit Go.Maps
open _root_.Go.Proofs.YthgdmppmjnmiiaaGreatDoor.Nm (IsI IsN Ns pw)

/-- The sums of the first i rows, by the names' places. -/
def fI (nl : List ByteArray) (rs : List (List (ByteArray × Int) × Int)) (ns : List Int) (i : Nat) : Nat → Int := fun j => match nl[j]? with
  | some s => sumC (rs.take i) (ns.take i) s
  | none => 0
theorem fI_zero (nl : List ByteArray) (rs : List (List (ByteArray × Int) × Int)) (ns : List Int) : fI nl rs ns 0 = fun _ => 0 := by
  funext j
  unfold fI
  cases nl[j]? with
  | none => rfl
  | some s => simp [sumC]
theorem fI_step {nl : List ByteArray} {rs : List (List (ByteArray × Int) × Int)} {ns : List Int} {i : Nat} {r : List (ByteArray × Int) × Int} {m : Int} (hr : rs[i]? = some r) (hm : ns[i]? = some m) : gF nl r.1 m (fI nl rs ns i) r.1.length = fI nl rs ns (i + 1) := by
  funext j
  unfold gF fI
  cases nl[j]? with
  | none => rfl
  | some s =>
    simp only
    rw [sumC_take hr hm, List.take_length]
set_option maxRecDepth 100000 in
set_option maxHeartbeats 16000000 in
theorem i_end {Q : Exit → Act → World → Prop} {a : Act} {W : World} {b off n cL bB oB nB cB nb no nn nc S sc Kb R : Nat} (sf : SM a b off n cL bB oB nB cB nb no nn nc S sc Kb nB R)
    (hend : ∀ a', SM a' b off n cL bB oB nB cB nb no nn nc S sc Kb nB R → Q (.exit 4) a' W) : Code.wp Tryz.prog (iBody Tryz.f7) Q a W := by
  obtain ⟨u, rfl⟩ := sf.lit
  have hd : decide ((nB : Int) < (nB : Int)) = false := by simp
  have HQ := hide hend
  clear hend sf
  conv => arg 2; whnf
  go_wp2
  exact unhide HQ _ ⟨rfl, rfl, rfl, rfl, rfl, rfl, rfl, rfl, rfl⟩
/-- The rows, as they lie. -/
def RowsAt (w0 : World) (B b off : Nat) (rs : List (List (ByteArray × Int) × Int)) : Prop :=
  ∀ (i : Nat) r, rs[i]? = some r → ∃ aC cC TK, w0.cell? ⟨b, off + i * 2, none⟩ = some (.slice aC r.1.length cC) ∧ w0.cell? ⟨b, off + i * 2 + 1, none⟩ = some (.string TK) ∧ numT 400 TK = some r.2 ∧ PartsAt w0 B r.1 aC
/-- How great all numbers on the way are. -/
structure Bnd (nl : List ByteArray) (rs : List (List (ByteArray × Int) × Int)) (ns : List Int) (X : Int) : Prop where
  xx : 2 * X < Nm.T4.pw 9000
  len : ∀ (i : Nat) r, rs[i]? = some r → r.1.length ≤ 1000000
  g : ∀ (i : Nat) r m, rs[i]? = some r → ns[i]? = some m → ∀ c j, ((gF nl r.1 m (fI nl rs ns i) c j).natAbs : Int) ≤ X
  mz : ∀ (i : Nat) r m, rs[i]? = some r → ns[i]? = some m → ∀ (c : Nat) P z, r.1[c]? = some (P, z) → ((m * z).natAbs : Int) ≤ X
  m : ∀ (i : Nat) m, ns[i]? = some m → (m.natAbs : Int) < Nm.T4.pw 4000
  z : ∀ (i : Nat) r, rs[i]? = some r → ∀ (c : Nat) P z, r.1[c]? = some (P, z) → (z.natAbs : Int) < Nm.T4.pw 4000
  k : ∀ (i : Nat), ((sumK (rs.take i) (ns.take i)).natAbs : Int) < Nm.T4.pw 9000
  zk : ∀ (i : Nat) r, rs[i]? = some r → (r.2.natAbs : Int) < Nm.T4.pw 4000
  mzk : ∀ (i : Nat) r m, rs[i]? = some r → ns[i]? = some m → ((m * r.2).natAbs : Int) < Nm.T4.pw 9000
theorem i_loop {Q : Exit → Act → World → Prop} {a : Act} {w0 W : World} {B b off cL bB oB cB nb no nc S sc Kb R n : Nat} {nl : List ByteArray} {rs : List (List (ByteArray × Int) × Int)} {ns : List Int} {X : Int}
    (sf : SM a b off n cL bB oB ns.length cB nb no nl.length nc S sc Kb 0 R) (nk : NK w0 B nl nb no S Kb 0 (fun _ => 0) W) (hB : B ≤ W.heap.size) (hSB : B ≤ S) (hKB : B ≤ Kb) (hn1 : nb ≠ S) (hn2 : nb ≠ Kb) (hK1 : Kb ≠ S)
    (hby : ∀ (i : Nat) m, ns[i]? = some m → ∃ tb, w0.cell? ⟨bB, oB + i, none⟩ = some (.string tb) ∧ numT 1600 tb = some m) (hbB : bB < B) (hnB : ns.length ≤ 1000000) (hrows : RowsAt w0 B b off rs) (hb : b < B) (hn : n ≤ 1000000) (hrn : rs.length = n) (hle : ns.length ≤ n) (hl : nl.length ≤ 1000000) (hsc : nl.length ≤ sc) (bd : Bnd nl rs ns X)
    (hend : ∀ a' W', SM a' b off n cL bB oB ns.length cB nb no nl.length nc S sc Kb ns.length R → NK w0 B nl nb no S Kb (sumK (rs.take ns.length) (ns.take ns.length)) (fI nl rs ns ns.length) W' → W.heap.size ≤ W'.heap.size → Q (.exit 4) a' W') :
    Code.wp Tryz.prog (.loop (iBody Tryz.f7)) Q a W := by
  refine wp_loop (fun a' W' => ∃ i, i ≤ ns.length ∧ SM a' b off n cL bB oB ns.length cB nb no nl.length nc S sc Kb i R ∧ NK w0 B nl nb no S Kb (sumK (rs.take i) (ns.take i)) (fI nl rs ns i) W' ∧ W.heap.size ≤ W'.heap.size) (fun a' _ => ns.length - (intOf (a'.tmps.getD 11 undef)).toNat) ⟨0, Nat.zero_le _, sf, ?_, Nat.le_refl _⟩ ?_
  · rw [fI_zero]
    exact nk
  rintro a' W' ⟨i, hi, sf', ns', hsz⟩
  have g11 : a'.tmps.getD 11 undef = .int .i64 i := getD_some sf'.s11
  by_cases hlt : i < ns.length
  · obtain ⟨m, hm⟩ : ∃ m, ns[i]? = some m := ⟨_, List.getElem?_eq_getElem hlt⟩
    obtain ⟨r, hr⟩ : ∃ r, rs[i]? = some r := ⟨_, List.getElem?_eq_getElem (by omega)⟩
    obtain ⟨tb, h1, h2⟩ := hby i m hm
    obtain ⟨aC, cC, TK, h3, h4, h5, h6⟩ := hrows i r hr
    refine i_round sf' ns' (by omega) hSB hKB hn1 hn2 hK1 h1 h2 hbB hlt hnB h3 h4 h5 h6 hb (by omega) hn (bd.len i r hr) hl hsc (bd.g i r m hr hm) (bd.mz i r m hr hm) bd.xx (bd.m i m hm) (bd.z i r hr) (bd.k i) (bd.zk i r hr) (bd.mzk i r m hr hm) ?_
    intro a2 W2 sf2 ns2 hs2
    have g11' : a2.tmps.getD 11 undef = .int .i64 (i + 1 : Nat) := getD_some sf2.s11
    rw [fI_step hr hm] at ns2
    have ek : sumK (rs.take i) (ns.take i) + m * r.2 = sumK (rs.take (i + 1)) (ns.take (i + 1)) := by rw [sumK_take hr hm, Int.mul_comm]
    rw [ek] at ns2
    refine ⟨⟨i + 1, hlt, sf2, ns2, by omega⟩, ?_⟩
    show ns.length - (intOf (a2.tmps.getD 11 undef)).toNat < ns.length - (intOf (a'.tmps.getD 11 undef)).toNat
    rw [g11, g11']
    simp [intOf]
    omega
  · obtain rfl : i = ns.length := by omega
    exact i_end sf' fun a2 sf2 => hend a2 W' sf2 ns' hsz
end Go.Proofs.YthgdmppmjnmiiaaGreatDoor

/- The document's Sum: what it tells of its sums. -/
namespace Go.Proofs.YthgdmppmjnmiiaaGreatDoor
open Go Go.RowKit Go.Maps
open _root_.Go.Proofs.YthgdmppmjnmiiaaGreatDoor.Nm (IsI IsN Ns pw)

/-- Where a round over the names, for what is told, begins. -/
structure SO (a : Act) (R nb no nn nc S sc ob q : Nat) : Prop where
  dfr : a.defers = []
  sz : a.tmps.size = 166
  s4 : a.tmps[4]? = some (.pointer (some ⟨R, 0, none⟩))
  s8 : a.tmps[8]? = some (.slice (aOf nb no nn) nn nc)
  s9 : a.tmps[9]? = some (.slice (some ⟨S, 0, none⟩) nn sc)
  s15 : a.tmps[15]? = some (.pointer (some ⟨ob, 0, none⟩))
  s16 : a.tmps[16]? = some (.int .i64 q)
set_option maxRecDepth 100000 in
theorem SO.lit {a : Act} {R nb no nn nc S sc ob q : Nat} (h : SO a R nb no nn nc S sc ob q) : ∃ u : Nat → Value, a = ⟨#[u 0, u 1, u 2, u 3, .pointer (some ⟨R, 0, none⟩), u 5, u 6, u 7, .slice (aOf nb no nn) nn nc, .slice (some ⟨S, 0, none⟩) nn sc, u 10, u 11, u 12, u 13, u 14, .pointer (some ⟨ob, 0, none⟩), .int .i64 q, u 17, u 18, u 19, u 20, u 21, u 22, u 23, u 24, u 25, u 26, u 27, u 28, u 29, u 30, u 31, u 32, u 33, u 34, u 35, u 36, u 37, u 38, u 39, u 40, u 41, u 42, u 43, u 44, u 45, u 46, u 47, u 48, u 49, u 50, u 51, u 52, u 53, u 54, u 55, u 56, u 57, u 58, u 59, u 60, u 61, u 62, u 63, u 64, u 65, u 66, u 67, u 68, u 69, u 70, u 71, u 72, u 73, u 74, u 75, u 76, u 77, u 78, u 79, u 80, u 81, u 82, u 83, u 84, u 85, u 86, u 87, u 88, u 89, u 90, u 91, u 92, u 93, u 94, u 95, u 96, u 97, u 98, u 99, u 100, u 101, u 102, u 103, u 104, u 105, u 106, u 107, u 108, u 109, u 110, u 111, u 112, u 113, u 114, u 115, u 116, u 117, u 118, u 119, u 120, u 121, u 122, u 123, u 124, u 125, u 126, u 127, u 128, u 129, u 130, u 131, u 132, u 133, u 134, u 135, u 136, u 137, u 138, u 139, u 140, u 141, u 142, u 143, u 144, u 145, u 146, u 147, u 148, u 149, u 150, u 151, u 152, u 153, u 154, u 155, u 156, u 157, u 158, u 159, u 160, u 161, u 162, u 163, u 164, u 165], []⟩ := by
  obtain ⟨tmps, dfr⟩ := a
  refine ⟨fun i => tmps.getD i undef, ?_⟩
  have hd : dfr = [] := h.dfr
  have hl := arr_lit (show tmps.size = 166 from h.sz)
  have g4 : tmps.getD 4 undef = .pointer (some ⟨R, 0, none⟩) := getD_some h.s4
  have g8 : tmps.getD 8 undef = .slice (aOf nb no nn) nn nc := getD_some h.s8
  have g9 : tmps.getD 9 undef = .slice (some ⟨S, 0, none⟩) nn sc := getD_some h.s9
  have g15 : tmps.getD 15 undef = .pointer (some ⟨ob, 0, none⟩) := getD_some h.s15
  have g16 : tmps.getD 16 undef = .int .i64 q := getD_some h.s16
  subst hd
  congr 1
  have e : ((List.range 166).map fun i => tmps.getD i undef).toArray = #[tmps.getD 0 undef, tmps.getD 1 undef, tmps.getD 2 undef, tmps.getD 3 undef, tmps.getD 4 undef, tmps.getD 5 undef, tmps.getD 6 undef, tmps.getD 7 undef, tmps.getD 8 undef, tmps.getD 9 undef, tmps.getD 10 undef, tmps.getD 11 undef, tmps.getD 12 undef, tmps.getD 13 undef, tmps.getD 14 undef, tmps.getD 15 undef, tmps.getD 16 undef, tmps.getD 17 undef, tmps.getD 18 undef, tmps.getD 19 undef, tmps.getD 20 undef, tmps.getD 21 undef, tmps.getD 22 undef, tmps.getD 23 undef, tmps.getD 24 undef, tmps.getD 25 undef, tmps.getD 26 undef, tmps.getD 27 undef, tmps.getD 28 undef, tmps.getD 29 undef, tmps.getD 30 undef, tmps.getD 31 undef, tmps.getD 32 undef, tmps.getD 33 undef, tmps.getD 34 undef, tmps.getD 35 undef, tmps.getD 36 undef, tmps.getD 37 undef, tmps.getD 38 undef, tmps.getD 39 undef, tmps.getD 40 undef, tmps.getD 41 undef, tmps.getD 42 undef, tmps.getD 43 undef, tmps.getD 44 undef, tmps.getD 45 undef, tmps.getD 46 undef, tmps.getD 47 undef, tmps.getD 48 undef, tmps.getD 49 undef, tmps.getD 50 undef, tmps.getD 51 undef, tmps.getD 52 undef, tmps.getD 53 undef, tmps.getD 54 undef, tmps.getD 55 undef, tmps.getD 56 undef, tmps.getD 57 undef, tmps.getD 58 undef, tmps.getD 59 undef, tmps.getD 60 undef, tmps.getD 61 undef, tmps.getD 62 undef, tmps.getD 63 undef, tmps.getD 64 undef, tmps.getD 65 undef, tmps.getD 66 undef, tmps.getD 67 undef, tmps.getD 68 undef, tmps.getD 69 undef, tmps.getD 70 undef, tmps.getD 71 undef, tmps.getD 72 undef, tmps.getD 73 undef, tmps.getD 74 undef, tmps.getD 75 undef, tmps.getD 76 undef, tmps.getD 77 undef, tmps.getD 78 undef, tmps.getD 79 undef, tmps.getD 80 undef, tmps.getD 81 undef, tmps.getD 82 undef, tmps.getD 83 undef, tmps.getD 84 undef, tmps.getD 85 undef, tmps.getD 86 undef, tmps.getD 87 undef, tmps.getD 88 undef, tmps.getD 89 undef, tmps.getD 90 undef, tmps.getD 91 undef, tmps.getD 92 undef, tmps.getD 93 undef, tmps.getD 94 undef, tmps.getD 95 undef, tmps.getD 96 undef, tmps.getD 97 undef, tmps.getD 98 undef, tmps.getD 99 undef, tmps.getD 100 undef, tmps.getD 101 undef, tmps.getD 102 undef, tmps.getD 103 undef, tmps.getD 104 undef, tmps.getD 105 undef, tmps.getD 106 undef, tmps.getD 107 undef, tmps.getD 108 undef, tmps.getD 109 undef, tmps.getD 110 undef, tmps.getD 111 undef, tmps.getD 112 undef, tmps.getD 113 undef, tmps.getD 114 undef, tmps.getD 115 undef, tmps.getD 116 undef, tmps.getD 117 undef, tmps.getD 118 undef, tmps.getD 119 undef, tmps.getD 120 undef, tmps.getD 121 undef, tmps.getD 122 undef, tmps.getD 123 undef, tmps.getD 124 undef, tmps.getD 125 undef, tmps.getD 126 undef, tmps.getD 127 undef, tmps.getD 128 undef, tmps.getD 129 undef, tmps.getD 130 undef, tmps.getD 131 undef, tmps.getD 132 undef, tmps.getD 133 undef, tmps.getD 134 undef, tmps.getD 135 undef, tmps.getD 136 undef, tmps.getD 137 undef, tmps.getD 138 undef, tmps.getD 139 undef, tmps.getD 140 undef, tmps.getD 141 undef, tmps.getD 142 undef, tmps.getD 143 undef, tmps.getD 144 undef, tmps.getD 145 undef, tmps.getD 146 undef, tmps.getD 147 undef, tmps.getD 148 undef, tmps.getD 149 undef, tmps.getD 150 undef, tmps.getD 151 undef, tmps.getD 152 undef, tmps.getD 153 undef, tmps.getD 154 undef, tmps.getD 155 undef, tmps.getD 156 undef, tmps.getD 157 undef, tmps.getD 158 undef, tmps.getD 159 undef, tmps.getD 160 undef, tmps.getD 161 undef, tmps.getD 162 undef, tmps.getD 163 undef, tmps.getD 164 undef, tmps.getD 165 undef] := rfl
  rw [e, g4, g8, g9, g15, g16] at hl
  exact hl
/-- The body of the last loop. -/
def oBody (f : Func) : Code := cO (cB (cR (cL_ (cR (cR (cR (cR (cR (dTail f)))))))))
def coefC (l : List (ByteArray × ByteArray)) : List Value := l.flatMap fun x => [.string x.1, .string x.2]
/-- While it is told: all that was there ahead of the answer's box stands. -/
structure OS (V W : World) (K : ByteArray) (l : List (ByteArray × ByteArray)) (v : Value) : Prop where
  lo : Below V.heap.size V W
  box : W.heap[V.heap.size]? = some (.cells #[v, .string K] 28)
  own : W.ownsRow V.heap.size 39 2 v l.length (coefC l)
  apart : v.ownBlock ≠ some V.heap.size
set_option maxRecDepth 100000 in
set_option maxHeartbeats 16000000 in
theorem o_round {Q : Exit → Act → World → Prop} {a : Act} {V W : World} {R nb no nc S sc q : Nat} {nl : List ByteArray} {F : Nat → Int} {cs : Array Value} {K x : ByteArray} {l : List (ByteArray × ByteArray)} {v : Value}
    (sf : SO a R nb no nl.length nc S sc V.heap.size q) (hnm : ∀ (q : Nat) x, nl[q]? = some x → V.cell? ⟨nb, no + q, none⟩ = some (.string x)) (hnb : nb < V.heap.size) (hs : SNs V S nl.length F cs) (os : OS V W K l v) (hx : nl[q]? = some x) (hl : nl.length ≤ 100000) (hll : l.length ≤ 100000) (hsc : nl.length ≤ sc) (bF : ((F q).natAbs : Int) < Nm.T4.pw 4000)
    (hend : ∀ a' W' v', SO a' R nb no nl.length nc S sc V.heap.size (q + 1) → OS V W' K (if F q = 0 then l else l ++ [(x, bytesOf (Lib.itoa (F q)))]) v' → Q .normal a' W') :
    Code.wp Tryz.prog (oBody Tryz.f7) Q a W := by
  obtain ⟨u, rfl⟩ := sf.lit
  have hq : q < nl.length := (List.getElem?_eq_some_iff.1 hx).1
  have hSl : S < V.heap.size := (Array.getElem?_eq_some_iff.1 hs.blk).1
  have hsW := hs.more os.lo
  obtain ⟨k1, k2, hra, ik⟩ := hsW.range hq
  have r0 : W.cell? ⟨S, q * 2, none⟩ = some k1 := by have := hra 0 _ rfl; rw [Nat.zero_add, Nat.add_zero] at this; exact this
  have r1 : W.cell? ⟨S, q * 2 + 1, none⟩ = some k2 := by have := hra 1 _ rfl; rw [Nat.zero_add] at this; exact this
  obtain ⟨bb, ra, rl, rc, e⟩ := ik.form
  have e2 : k1 = .bool bb ∧ k2 = .slice ra rl rc := by simpa using e
  obtain ⟨rfl, rfl⟩ := e2
  clear e
  have HS := hide (Nm.signN_any _ _ W ik)
  obtain ⟨L, hL⟩ : ∃ L, nl.length = L := ⟨_, rfl⟩
  rw [hL] at hend hl hsc hq ⊢
  have e8 : aOf nb no L = some ⟨nb, no, none⟩ := aOf_some (by omega)
  rw [e8]
  have hqd : decide ((q : Int) < (L : Int)) = true := by simp; omega
  have HQ := hide hend
  have HO := hide os
  have HI := hide (And.intro ik hra)
  replace hL := hide hL
  replace hnm := hide hnm
  clear hend os sf ik hra
  by_cases h0 : F q = 0
  · have hsg : Nm.sgn (F q) = 0 := by rw [h0]; rfl
    rw [hsg] at HS
    conv => arg 2; whnf
    go_wp2_with fail
    refine (unhide HS).mono ?_
    rintro e W2 ⟨rfl, hb2⟩
    go_wp2
    have os := unhide HO
    refine unhide HQ _ _ v ⟨rfl, rfl, rfl, by rw [e8]; rfl, rfl, rfl, rfl⟩ ?_
    rw [if_pos h0]
    exact ⟨os.lo.trans (hb2.mono os.lo.size), (hb2.block _ (Array.getElem?_eq_some_iff.1 os.box).1).trans os.box, own_sameK os.own fun g hg => hb2.block g (os.own.lt g hg).2, os.apart⟩
  · have hsg : (Nm.sgn (F q) != 0) = true := by
      unfold Nm.sgn
      by_cases h1 : F q < 0
      · simp [h1]
      · have : 0 < F q := by omega
        simp [h1, this]
    conv => arg 2; whnf
    go_wp2_with fail
    refine (unhide HS).mono ?_
    rintro e W2 ⟨rfl, hb2⟩
    go_wp2_with fail
    have os := unhide HO
    obtain ⟨ik, hra⟩ := unhide HI
    have os2 : OS V W2 K l v := ⟨os.lo.trans (hb2.mono os.lo.size), (hb2.block _ (Array.getElem?_eq_some_iff.1 os.box).1).trans os.box, own_sameK os.own fun g hg => hb2.block g (os.own.lt g hg).2, os.apart⟩
    have hsz2 := os2.lo.size
    have ik2 := ik.below hb2
    have hno : ∀ g, g < V.heap.size → v.ownBlock ≠ some g := fun g hg e => by have := (os2.own.lt g e).1; omega
    refine sum_r34 (w0 := W2) (E0 := V.heap.size) (n := l.length) (ob := V.heap.size) (nb := nb) (no := no) (nn := L) (nc := nc) (q := q) (S := S) (so := 0) (sn := L) (sc := sc) (v0 := v) (kv := .string K) (k1 := .bool bb) (k2 := .slice ra rl rc) (xs := coefC l) (nm := x) (st := bytesOf (Lib.itoa (F q))) rfl rfl rfl rfl rfl os2.box os2.apart ((os2.lo.cell (p := ⟨nb, no + q, none⟩) hnb).trans (unhide hnm q x hx)) (by omega) (hno nb hnb) hq (by omega) ?_ (by omega) (hno S hSl) hq (by omega) os2.own hsz2 (Nat.le_refl _) (by omega) ?_ ?_
    · intro j vv hv
      rw [hb2.cell (p := ⟨S, 0 + q * 2 + j, none⟩) (Nat.lt_of_lt_of_le hSl os.lo.size)]
      exact hra j vv hv
    · intro U hU
      refine (Nm.textN_any _ _ U (ik2.below hU) bF).mono ?_
      rintro e U2 ⟨rfl, hbU⟩
      exact ⟨rfl, hbU⟩
    · intro a' W3 v' hdf hsz hkp hbE hkeep hob hov hown hg hsz3
      have sf' : SO a' R nb no L nc S sc V.heap.size q := ⟨hdf, hsz, (hkp 4 (by decide)).trans rfl, (hkp 8 (by decide)).trans (by rw [e8]; rfl), (hkp 9 (by decide)).trans rfl, (hkp 15 (by decide)).trans rfl, (hkp 16 (by decide)).trans rfl⟩
      obtain ⟨u', rfl⟩ := sf'.lit
      have os3 : OS V W3 K (l ++ [(x, bytesOf (Lib.itoa (F q)))]) v' := ⟨os2.lo.trans hbE, hob, by
        rw [List.length_append]
        unfold coefC at hown ⊢
        rw [List.flatMap_append]
        exact hown, hov⟩
      have HO3 := hide os3
      clear hdf hsz hkp hbE hkeep hob hov hown hg hsz3 sf' os3 os os2 ik ik2 hra hno r0 r1
      go_wp2
      refine unhide HQ _ _ v' ⟨rfl, rfl, rfl, rfl, rfl, rfl, rfl⟩ ?_
      rw [if_neg h0]
      exact unhide HO3
end Go.Proofs.YthgdmppmjnmiiaaGreatDoor

/- The document's Sum: what it tells of its sums, whole. -/
namespace Go.Proofs.YthgdmppmjnmiiaaGreatDoor
open Go Go.RowKit Go.Maps
open _root_.Go.Proofs.YthgdmppmjnmiiaaGreatDoor.Nm (IsI IsN Ns pw)

set_option maxRecDepth 100000 in
set_option maxHeartbeats 16000000 in
theorem o_end {Q : Exit → Act → World → Prop} {a : Act} {W : World} {R nb no nn nc S sc ob : Nat} (sf : SO a R nb no nn nc S sc ob nn)
    (hend : ∀ a', SO a' R nb no nn nc S sc ob nn → Q (.exit 10) a' W) : Code.wp Tryz.prog (oBody Tryz.f7) Q a W := by
  obtain ⟨u, rfl⟩ := sf.lit
  have hd : decide ((nn : Int) < (nn : Int)) = false := by simp
  have HQ := hide hend
  clear hend sf
  conv => arg 2; whnf
  go_wp2
  exact unhide HQ _ ⟨rfl, rfl, rfl, rfl, rfl, rfl, rfl⟩
theorem tellN_le (G : ByteArray → Int) (nl : List ByteArray) : (tellN G nl).length ≤ nl.length := by
  unfold tellN
  rw [List.length_map]
  exact List.length_filter_le _ _
theorem o_loop {Q : Exit → Act → World → Prop} {a : Act} {V W : World} {R nb no nc S sc : Nat} {nl : List ByteArray} {F : Nat → Int} {G : ByteArray → Int} {cs : Array Value} {K : ByteArray} {v : Value}
    (sf : SO a R nb no nl.length nc S sc V.heap.size 0) (hnm : ∀ (q : Nat) x, nl[q]? = some x → V.cell? ⟨nb, no + q, none⟩ = some (.string x)) (hnb : nb < V.heap.size) (hs : SNs V S nl.length F cs) (os : OS V W K [] v) (hFG : ∀ (q : Nat) x, nl[q]? = some x → F q = G x) (hl : nl.length ≤ 100000) (hsc : nl.length ≤ sc) (bF : ∀ q, ((F q).natAbs : Int) < Nm.T4.pw 4000)
    (hend : ∀ a' W' v', SO a' R nb no nl.length nc S sc V.heap.size nl.length → OS V W' K (tellN G nl) v' → Q (.exit 10) a' W') :
    Code.wp Tryz.prog (.loop (oBody Tryz.f7)) Q a W := by
  refine wp_loop (fun a' W' => ∃ q v', q ≤ nl.length ∧ SO a' R nb no nl.length nc S sc V.heap.size q ∧ OS V W' K (tellN G (nl.take q)) v') (fun a' _ => nl.length - (intOf (a'.tmps.getD 16 undef)).toNat) ⟨0, v, Nat.zero_le _, sf, os⟩ ?_
  rintro a' W' ⟨q, v', hq, sf', os'⟩
  have g16 : a'.tmps.getD 16 undef = .int .i64 q := getD_some sf'.s16
  by_cases hlt : q < nl.length
  · obtain ⟨x, hx⟩ : ∃ x, nl[q]? = some x := ⟨_, List.getElem?_eq_getElem hlt⟩
    have hle := tellN_le G (nl.take q)
    rw [List.length_take] at hle
    refine o_round sf' hnm hnb hs os' hx hl (by omega) hsc (bF q) ?_
    intro a2 W2 v2 sf2 os2
    have g16' : a2.tmps.getD 16 undef = .int .i64 (q + 1 : Nat) := getD_some sf2.s16
    rw [hFG q x hx, ← tellN_take hx] at os2
    refine ⟨⟨q + 1, v2, hlt, sf2, os2⟩, ?_⟩
    show nl.length - (intOf (a2.tmps.getD 16 undef)).toNat < nl.length - (intOf (a'.tmps.getD 16 undef)).toNat
    rw [g16, g16']
    simp [intOf]
    omega
  · obtain rfl : q = nl.length := by omega
    rw [List.take_length] at os'
    exact o_end sf' fun a2 sf2 => hend a2 W' v' sf2 os'
end Go.Proofs.YthgdmppmjnmiiaaGreatDoor

/- The document's Sum: how great its numbers are. -/
namespace Go.Proofs.YthgdmppmjnmiiaaGreatDoor
open Go Go.RowKit Go.Maps
open _root_.Go.Proofs.YthgdmppmjnmiiaaGreatDoor.Nm (IsI IsN Ns pw)

theorem cf_le {A : Nat} (s : ByteArray) : ∀ {ps : List (ByteArray × Int)}, (∀ p ∈ ps, p.2.natAbs ≤ A) → (cf ps s).natAbs ≤ ps.length * A
  | [], _ => by simp [cf]
  | p :: ps, h => by
    rw [cf_cons, List.length_cons, Nat.succ_mul]
    have h1 := cf_le s (ps := ps) fun q hq => h q (List.mem_cons_of_mem _ hq)
    have h2 := h p (List.mem_cons_self ..)
    by_cases e : p.1 = s
    · rw [if_pos e]
      omega
    · rw [if_neg e]
      omega
theorem sumC_le {A L M : Nat} (s : ByteArray) : ∀ {rs : List (List (ByteArray × Int) × Int)} {ns : List Int}, (∀ r ∈ rs, r.1.length ≤ L ∧ ∀ p ∈ r.1, p.2.natAbs ≤ A) → (∀ m ∈ ns, m.natAbs ≤ M) → (sumC rs ns s).natAbs ≤ rs.length * (L * A * M)
  | [], _, _, _ => by simp [sumC]
  | r :: rs, [], _, _ => by simp [sumC]
  | r :: rs, m :: ns, h, hm => by
    have h1 := sumC_le s (rs := rs) (ns := ns) (fun q hq => h q (List.mem_cons_of_mem _ hq)) fun q hq => hm q (List.mem_cons_of_mem _ hq)
    have e : sumC (r :: rs) (m :: ns) s = cf r.1 s * m + sumC rs ns s := by simp [sumC]
    have h2 := cf_le s (h r (List.mem_cons_self ..)).2
    have h3 : (cf r.1 s * m).natAbs ≤ L * A * M := by
      rw [Int.natAbs_mul]
      exact Nat.mul_le_mul (Nat.le_trans h2 (Nat.mul_le_mul (h r (List.mem_cons_self ..)).1 (Nat.le_refl _))) (hm m (List.mem_cons_self ..))
    rw [e, List.length_cons, Nat.succ_mul]
    omega
theorem sumK_le {A M : Nat} : ∀ {rs : List (List (ByteArray × Int) × Int)} {ns : List Int}, (∀ r ∈ rs, r.2.natAbs ≤ A) → (∀ m ∈ ns, m.natAbs ≤ M) → (sumK rs ns).natAbs ≤ rs.length * (A * M)
  | [], _, _, _ => by simp [sumK]
  | r :: rs, [], _, _ => by simp [sumK]
  | r :: rs, m :: ns, h, hm => by
    have h1 := sumK_le (rs := rs) (ns := ns) (fun q hq => h q (List.mem_cons_of_mem _ hq)) fun q hq => hm q (List.mem_cons_of_mem _ hq)
    have e : sumK (r :: rs) (m :: ns) = r.2 * m + sumK rs ns := by simp [sumK]
    have h3 : (r.2 * m).natAbs ≤ A * M := by
      rw [Int.natAbs_mul]
      exact Nat.mul_le_mul (h r (List.mem_cons_self ..)) (hm m (List.mem_cons_self ..))
    rw [e, List.length_cons, Nat.succ_mul]
    omega
theorem ten_T4 (k : Nat) : ((tenTo (4 * k) : Nat) : Int) = Nm.T4.pw k := by
  rw [Nm.T4.pw_eq10]
  unfold tenTo
  push_cast
  rfl
theorem mul100 {n A M z : Nat} (hn : n ≤ 100) (h : z ≤ n * (100 * A * M)) : z ≤ 10000 * (A * M) := by
  have h3 := Nat.mul_le_mul hn (Nat.le_refl (100 * A * M))
  have e : 100 * (100 * A * M) = 10000 * (A * M) := by
    rw [Nat.mul_assoc 100 A M, ← Nat.mul_assoc 100 100]
  omega
theorem tenTo_lt {a b : Nat} (h : a < b) : tenTo a < tenTo b := Nat.pow_lt_pow_right (by decide) h
theorem ten_lt {d k z : Nat} (hz : z ≤ tenTo d) (h : d < 4 * k) : (z : Int) < Nm.T4.pw k := by
  have h1 := tenTo_lt h
  have h2 := ten_T4 k
  omega
/-- All that is met on the way is below this. -/
def XS : Nat := tenTo 2006
theorem prod_S {n : Nat} (h : n ≤ 1000000) : n * (tenTo 400 * tenTo 1600) ≤ XS := by
  rw [tenTo_add]
  have := Nat.mul_le_mul (show n ≤ tenTo 6 from h) (Nat.le_refl (tenTo 2000))
  rw [tenTo_add] at this
  exact this
theorem timesT_bound {s : ByteArray} {z : Int} (h : timesT s = some z) : z.natAbs ≤ tenTo 1600 := by
  unfold timesT at h
  cases hz : numT 1600 s with
  | none => rw [hz] at h; cases h
  | some y =>
    rw [hz] at h
    have := numT_bound (by omega) hz
    simp at h
    obtain ⟨_, rfl⟩ := h
    omega
theorem bnd_of {nl : List ByteArray} {ls : List (List (ByteArray × ByteArray) × ByteArray)} {bs : List ByteArray} {rs : List (List (ByteArray × Int) × Int)} {ns : List Int} (hr : readL ls = some rs) (hn : allO timesT bs = some ns) (hw : lwt ls ≤ 100) : Bnd nl rs ns XS ∧ (∀ q, ((fI nl rs ns ns.length q).natAbs : Int) < Nm.T4.pw 4000) ∧ ((sumK (rs.take ns.length) (ns.take ns.length)).natAbs : Int) < Nm.T4.pw 4000 := by
  have hlen : rs.length ≤ 100 := by
    rw [allO_len hr]
    exact Nat.le_trans (lwt_len ls).1 hw
  have hrow : ∀ r ∈ rs, r.1.length ≤ 100 ∧ r.2.natAbs ≤ tenTo 400 ∧ ∀ p ∈ r.1, p.2.natAbs ≤ tenTo 400 := fun r h => by
    obtain ⟨l, hl, e⟩ := allO_mem hr r h
    obtain ⟨k1, k2, k3⟩ := readR_mem e
    have := (lwt_len ls).2 l hl
    exact ⟨by omega, by omega, fun p hp => by have := (k3 p hp).1; omega⟩
  have hby : ∀ m ∈ ns, m.natAbs ≤ tenTo 1600 := fun m h => by
    obtain ⟨s, _, e⟩ := allO_mem hn m h
    exact timesT_bound e
  have hC : ∀ (i : Nat) s, (sumC (rs.take i) (ns.take i) s).natAbs ≤ 10000 * (tenTo 400 * tenTo 1600) := fun i s => by
    have h := sumC_le (A := tenTo 400) (L := 100) (M := tenTo 1600) s (rs := rs.take i) (ns := ns.take i) (fun r h => ⟨(hrow r (List.mem_of_mem_take h)).1, (hrow r (List.mem_of_mem_take h)).2.2⟩) fun m h => hby m (List.mem_of_mem_take h)
    have h2 : (rs.take i).length ≤ 100 := by rw [List.length_take]; omega
    exact mul100 h2 h
  have hK : ∀ (i : Nat), (sumK (rs.take i) (ns.take i)).natAbs ≤ 100 * (tenTo 400 * tenTo 1600) := fun i => by
    have h := sumK_le (A := tenTo 400) (M := tenTo 1600) (rs := rs.take i) (ns := ns.take i) (fun r h => (hrow r (List.mem_of_mem_take h)).2.1) fun m h => hby m (List.mem_of_mem_take h)
    have h2 : (rs.take i).length ≤ 100 := by rw [List.length_take]; omega
    exact Nat.le_trans h (Nat.mul_le_mul h2 (Nat.le_refl _))
  have hI : ∀ (i j : Nat), (fI nl rs ns i j).natAbs ≤ 10000 * (tenTo 400 * tenTo 1600) := fun i j => by
    unfold fI
    cases nl[j]? with
    | none => simp
    | some s => exact hC i s
  have x1 : 10000 * (tenTo 400 * tenTo 1600) ≤ XS := prod_S (by omega)
  have x2 : 100 * (tenTo 400 * tenTo 1600) ≤ XS := prod_S (by omega)
  have x3 : 10100 * (tenTo 400 * tenTo 1600) ≤ XS := prod_S (by omega)
  have x4 : 1 * (tenTo 400 * tenTo 1600) ≤ XS := prod_S (by omega)
  have y9 : ∀ {z : Nat}, z ≤ XS → (z : Int) < Nm.T4.pw 9000 := fun h => ten_lt h (by omega)
  have y4 : ∀ {z : Nat}, z ≤ XS → (z : Int) < Nm.T4.pw 4000 := fun h => ten_lt h (by omega)
  have hmz : ∀ {m z : Int}, m.natAbs ≤ tenTo 1600 → z.natAbs ≤ tenTo 400 → (m * z).natAbs ≤ XS := fun {m z} h1 h2 => by
    rw [Int.natAbs_mul, Nat.mul_comm]
    have := Nat.mul_le_mul h2 h1
    omega
  refine ⟨⟨?_, ?_, ?_, ?_, ?_, ?_, ?_, ?_, ?_⟩, fun q => y4 (Nat.le_trans (hI _ q) x1), y4 (Nat.le_trans (hK _) x2)⟩
  · have h1 : 2 * XS ≤ tenTo 2007 := by
      have : tenTo 1 * tenTo 2006 = tenTo 2007 := tenTo_add 1 2006
      have h : tenTo 1 = 10 := rfl
      rw [h] at this
      unfold XS
      omega
    have := ten_lt (k := 9000) h1 (by omega)
    push_cast at this
    exact this
  · intro i r h
    have := (hrow r (List.mem_of_getElem? h)).1
    omega
  · intro i r m h h2 c j
    unfold gF
    cases hj : nl[j]? with
    | none =>
      have := hI i j
      simp only
      omega
    | some s =>
      simp only
      have k1 := hI i j
      have k2 := cf_le (A := tenTo 400) s (ps := r.1.take c) fun p hp => (hrow r (List.mem_of_getElem? h)).2.2 p (List.mem_of_mem_take hp)
      have k3 : (r.1.take c).length ≤ 100 := by
        have := (hrow r (List.mem_of_getElem? h)).1
        rw [List.length_take]
        omega
      have k4 : (cf (r.1.take c) s * m).natAbs ≤ 100 * (tenTo 400 * tenTo 1600) := by
        rw [Int.natAbs_mul, ← Nat.mul_assoc]
        exact Nat.mul_le_mul (Nat.le_trans k2 (Nat.mul_le_mul k3 (Nat.le_refl _))) (hby m (List.mem_of_getElem? h2))
      omega
  · intro i r m h h2 c P z h3
    have := hmz (hby m (List.mem_of_getElem? h2)) ((hrow r (List.mem_of_getElem? h)).2.2 _ (List.mem_of_getElem? h3))
    exact Int.ofNat_le.2 this
  · intro i m h
    exact ten_lt (hby m (List.mem_of_getElem? h)) (by omega)
  · intro i r h c P z h3
    exact ten_lt ((hrow r (List.mem_of_getElem? h)).2.2 _ (List.mem_of_getElem? h3)) (by omega)
  · intro i
    exact y9 (Nat.le_trans (hK i) x2)
  · intro i r h
    exact ten_lt (hrow r (List.mem_of_getElem? h)).2.1 (by omega)
  · intro i r m h h2
    exact y9 (hmz (hby m (List.mem_of_getElem? h2)) (hrow r (List.mem_of_getElem? h)).2.1)
end Go.Proofs.YthgdmppmjnmiiaaGreatDoor

namespace Go.Proofs.YthgdmppmjnmiiaaGreatDoor
open Go Go.RowKit Go.Maps
open _root_.Go.Proofs.YthgdmppmjnmiiaaGreatDoor.Nm (IsI IsN Ns pw)

theorem allO_at {α β : Type} {g : α → Option β} : ∀ {l : List α} {rs : List β}, allO g l = some rs → ∀ (i : Nat) r, rs[i]? = some r → ∃ x, l[i]? = some x ∧ g x = some r
  | [], rs, h, i, r, hr => by simp [allO] at h; subst h; simp at hr
  | a :: l, rs, h, i, r, hr => by
    simp only [allO] at h
    cases ha : g a with
    | none => rw [ha] at h; cases h
    | some p =>
      cases hl : allO g l with
      | none => rw [ha, hl] at h; cases h
      | some ps =>
        rw [ha, hl] at h
        simp at h
        subst h
        cases i with
        | zero =>
          have : p = r := by simpa using hr
          exact ⟨a, rfl, this ▸ ha⟩
        | succ i => exact allO_at hl i r (by simpa using hr)
theorem readC_at : ∀ {C : List (ByteArray × ByteArray)} {ps : List (ByteArray × Int)}, readC C = some ps → ∀ (i : Nat) p, ps[i]? = some p → ∃ c, C[i]? = some c ∧ readP c = some p
  | [], ps, h, i, r, hr => by simp [readC] at h; subst h; simp at hr
  | a :: l, ps, h, i, r, hr => by
    simp only [readC] at h
    cases ha : readP a with
    | none => rw [ha] at h; cases h
    | some p =>
      cases hl : readC l with
      | none => rw [ha, hl] at h; cases h
      | some qs =>
        rw [ha, hl] at h
        simp at h
        subst h
        cases i with
        | zero =>
          have : p = r := by simpa using hr
          exact ⟨a, rfl, this ▸ ha⟩
        | succ i => exact readC_at hl i r (by simpa using hr)
theorem readR_at {C : List (ByteArray × ByteArray)} {K : ByteArray} {r : List (ByteArray × Int) × Int} (h : readR C K = some r) : numT 400 K = some r.2 ∧ readC C = some r.1 := by
  unfold readR at h
  cases hk : numT 400 K with
  | none => rw [hk] at h; cases h
  | some k =>
    cases hc : readC C with
    | none => rw [hk, hc] at h; cases h
    | some ps =>
      rw [hk, hc] at h
      simp at h
      subst h
      exact ⟨rfl, rfl⟩
theorem readP_at {c : ByteArray × ByteArray} {P : ByteArray} {z : Int} (h : readP c = some (P, z)) : c.1 = P ∧ numT 400 c.2 = some z := by
  unfold readP at h
  split at h
  · cases h
  · cases hz : numT 400 c.2 with
    | none => rw [hz] at h; cases h
    | some y =>
      rw [hz] at h
      simp at h
      exact ⟨h.1, by rw [h.2]⟩
theorem rows_at {W : World} {B b off n cL : Nat} {ls : List (List (ByteArray × ByteArray) × ByteArray)} {rs : List (List (ByteArray × Int) × Int)} (hL : ∀ j, j < n → LAt W B ls b (off + j * 2) j) (hn : n = ls.length) (hr : readL ls = some rs) : RowsAt W B b off rs := fun i r h => by
  obtain ⟨l, hl, e⟩ := allO_at hr i r h
  have hi : i < n := by
    rw [hn]
    exact (List.getElem?_eq_some_iff.1 hl).1
  obtain ⟨x, y, q1, a, m, c, e2, e3, e4⟩ := hL i hi l hl
  have e5 : x = .slice a m c ∧ y = .string l.2 := by simpa using e2
  obtain ⟨rfl, rfl⟩ := e5
  obtain ⟨k1, k2⟩ := readR_at e
  have k3 := (readC_mem k2).1
  refine ⟨a, c, l.2, ?_, ?_, k1, ?_⟩
  · rw [k3, ← e3]
    have := q1 0 _ rfl
    exact this
  · exact q1 1 _ rfl
  · intro hne
    have hm : m ≠ 0 := by
      rw [e3, ← k3]
      intro h0
      exact hne (List.length_eq_zero_iff.1 h0)
    obtain ⟨bc, oc, ea, hb, hC⟩ := e4.2.2 hm
    refine ⟨bc, oc, ea, hb, fun j P z hj => ?_⟩
    obtain ⟨c9, h9, hp⟩ := readC_at k2 j _ hj
    obtain ⟨rfl, h8⟩ := readP_at hp
    have hjm : j < m := by
      rw [e3]
      exact (List.getElem?_eq_some_iff.1 h9).1
    have hq := hC j hjm c9 h9
    exact ⟨hq 0 _ rfl, c9.2, hq 1 _ rfl, h8⟩
theorem by_at {W : World} {bB oB nB : Nat} {bs : List ByteArray} {ns : List Int} (hS : ∀ j, j < nB → BA W bs bB (oB + j * 1) j) (hn : nB = bs.length) (h : allO timesT bs = some ns) : ∀ (i : Nat) m, ns[i]? = some m → ∃ tb, W.cell? ⟨bB, oB + i, none⟩ = some (.string tb) ∧ numT 1600 tb = some m := fun i m hi => by
  obtain ⟨s, hs, e⟩ := allO_at h i m hi
  have hj : i < nB := by
    rw [hn]
    exact (List.getElem?_eq_some_iff.1 hs).1
  refine ⟨s, ?_, ?_⟩
  · have := hS i hj s hs
    rw [Nat.mul_one] at this
    exact this
  · unfold timesT at e
    cases hz : numT 1600 s with
    | none => rw [hz] at e; cases e
    | some y =>
      rw [hz] at e
      simp at e
      obtain ⟨_, rfl⟩ := e
      rfl
end Go.Proofs.YthgdmppmjnmiiaaGreatDoor
