/- The document's Sum: what is told of it at its end. -/
import Derived.Test.YthgdmppmjnmiiaaGreatDoorZAS
import Derived.Test.YthgdmppmjnmiiaaGreatDoorZAO
import Derived.Test.YthgdmppmjnmiiaaGreatDoorZAI
set_option linter.unusedVariables false
set_option linter.unusedSimpArgs false

/- The document's Sum: the loop over the multipliers, be there any or none. -/
namespace Go.Proofs.YthgdmppmjnmiiaaGreatDoor
open Go Go.RowKit Go.Maps
open _root_.Go.Proofs.YthgdmppmjnmiiaaGreatDoor.Nm (IsI IsN Ns pw)

/-- Where the loop over the multipliers begins, be there any or none. -/
structure SG (a : Act) (aL aB : Option Addr) (n cL nB cB nb no nn nc S sc Kb i R : Nat) : Prop where
  dfr : a.defers = []
  sz : a.tmps.size = 166
  s0 : a.tmps[0]? = some (.slice aL n cL)
  s1 : a.tmps[1]? = some (.slice aB nB cB)
  s4 : a.tmps[4]? = some (.pointer (some ⟨R, 0, none⟩))
  s8 : a.tmps[8]? = some (.slice (aOf nb no nn) nn nc)
  s9 : a.tmps[9]? = some (.slice (some ⟨S, 0, none⟩) nn sc)
  s10 : a.tmps[10]? = some (.pointer (some ⟨Kb, 0, none⟩))
  s11 : a.tmps[11]? = some (.int .i64 i)
set_option maxRecDepth 100000 in
theorem SG.lit {a : Act} {aL aB : Option Addr} {n cL nB cB nb no nn nc S sc Kb i R : Nat} (h : SG a aL aB n cL nB cB nb no nn nc S sc Kb i R) : ∃ u : Nat → Value, a = ⟨#[.slice aL n cL, .slice aB nB cB, u 2, u 3, .pointer (some ⟨R, 0, none⟩), u 5, u 6, u 7, .slice (aOf nb no nn) nn nc, .slice (some ⟨S, 0, none⟩) nn sc, .pointer (some ⟨Kb, 0, none⟩), .int .i64 i, u 12, u 13, u 14, u 15, u 16, u 17, u 18, u 19, u 20, u 21, u 22, u 23, u 24, u 25, u 26, u 27, u 28, u 29, u 30, u 31, u 32, u 33, u 34, u 35, u 36, u 37, u 38, u 39, u 40, u 41, u 42, u 43, u 44, u 45, u 46, u 47, u 48, u 49, u 50, u 51, u 52, u 53, u 54, u 55, u 56, u 57, u 58, u 59, u 60, u 61, u 62, u 63, u 64, u 65, u 66, u 67, u 68, u 69, u 70, u 71, u 72, u 73, u 74, u 75, u 76, u 77, u 78, u 79, u 80, u 81, u 82, u 83, u 84, u 85, u 86, u 87, u 88, u 89, u 90, u 91, u 92, u 93, u 94, u 95, u 96, u 97, u 98, u 99, u 100, u 101, u 102, u 103, u 104, u 105, u 106, u 107, u 108, u 109, u 110, u 111, u 112, u 113, u 114, u 115, u 116, u 117, u 118, u 119, u 120, u 121, u 122, u 123, u 124, u 125, u 126, u 127, u 128, u 129, u 130, u 131, u 132, u 133, u 134, u 135, u 136, u 137, u 138, u 139, u 140, u 141, u 142, u 143, u 144, u 145, u 146, u 147, u 148, u 149, u 150, u 151, u 152, u 153, u 154, u 155, u 156, u 157, u 158, u 159, u 160, u 161, u 162, u 163, u 164, u 165], []⟩ := by
  obtain ⟨tmps, dfr⟩ := a
  refine ⟨fun i => tmps.getD i undef, ?_⟩
  have hd : dfr = [] := h.dfr
  have hl := arr_lit (show tmps.size = 166 from h.sz)
  have g0 : tmps.getD 0 undef = .slice aL n cL := getD_some h.s0
  have g1 : tmps.getD 1 undef = .slice aB nB cB := getD_some h.s1
  have g4 : tmps.getD 4 undef = .pointer (some ⟨R, 0, none⟩) := getD_some h.s4
  have g8 : tmps.getD 8 undef = .slice (aOf nb no nn) nn nc := getD_some h.s8
  have g9 : tmps.getD 9 undef = .slice (some ⟨S, 0, none⟩) nn sc := getD_some h.s9
  have g10 : tmps.getD 10 undef = .pointer (some ⟨Kb, 0, none⟩) := getD_some h.s10
  have g11 : tmps.getD 11 undef = .int .i64 i := getD_some h.s11
  subst hd
  congr 1
  have e : ((List.range 166).map fun i => tmps.getD i undef).toArray = #[tmps.getD 0 undef, tmps.getD 1 undef, tmps.getD 2 undef, tmps.getD 3 undef, tmps.getD 4 undef, tmps.getD 5 undef, tmps.getD 6 undef, tmps.getD 7 undef, tmps.getD 8 undef, tmps.getD 9 undef, tmps.getD 10 undef, tmps.getD 11 undef, tmps.getD 12 undef, tmps.getD 13 undef, tmps.getD 14 undef, tmps.getD 15 undef, tmps.getD 16 undef, tmps.getD 17 undef, tmps.getD 18 undef, tmps.getD 19 undef, tmps.getD 20 undef, tmps.getD 21 undef, tmps.getD 22 undef, tmps.getD 23 undef, tmps.getD 24 undef, tmps.getD 25 undef, tmps.getD 26 undef, tmps.getD 27 undef, tmps.getD 28 undef, tmps.getD 29 undef, tmps.getD 30 undef, tmps.getD 31 undef, tmps.getD 32 undef, tmps.getD 33 undef, tmps.getD 34 undef, tmps.getD 35 undef, tmps.getD 36 undef, tmps.getD 37 undef, tmps.getD 38 undef, tmps.getD 39 undef, tmps.getD 40 undef, tmps.getD 41 undef, tmps.getD 42 undef, tmps.getD 43 undef, tmps.getD 44 undef, tmps.getD 45 undef, tmps.getD 46 undef, tmps.getD 47 undef, tmps.getD 48 undef, tmps.getD 49 undef, tmps.getD 50 undef, tmps.getD 51 undef, tmps.getD 52 undef, tmps.getD 53 undef, tmps.getD 54 undef, tmps.getD 55 undef, tmps.getD 56 undef, tmps.getD 57 undef, tmps.getD 58 undef, tmps.getD 59 undef, tmps.getD 60 undef, tmps.getD 61 undef, tmps.getD 62 undef, tmps.getD 63 undef, tmps.getD 64 undef, tmps.getD 65 undef, tmps.getD 66 undef, tmps.getD 67 undef, tmps.getD 68 undef, tmps.getD 69 undef, tmps.getD 70 undef, tmps.getD 71 undef, tmps.getD 72 undef, tmps.getD 73 undef, tmps.getD 74 undef, tmps.getD 75 undef, tmps.getD 76 undef, tmps.getD 77 undef, tmps.getD 78 undef, tmps.getD 79 undef, tmps.getD 80 undef, tmps.getD 81 undef, tmps.getD 82 undef, tmps.getD 83 undef, tmps.getD 84 undef, tmps.getD 85 undef, tmps.getD 86 undef, tmps.getD 87 undef, tmps.getD 88 undef, tmps.getD 89 undef, tmps.getD 90 undef, tmps.getD 91 undef, tmps.getD 92 undef, tmps.getD 93 undef, tmps.getD 94 undef, tmps.getD 95 undef, tmps.getD 96 undef, tmps.getD 97 undef, tmps.getD 98 undef, tmps.getD 99 undef, tmps.getD 100 undef, tmps.getD 101 undef, tmps.getD 102 undef, tmps.getD 103 undef, tmps.getD 104 undef, tmps.getD 105 undef, tmps.getD 106 undef, tmps.getD 107 undef, tmps.getD 108 undef, tmps.getD 109 undef, tmps.getD 110 undef, tmps.getD 111 undef, tmps.getD 112 undef, tmps.getD 113 undef, tmps.getD 114 undef, tmps.getD 115 undef, tmps.getD 116 undef, tmps.getD 117 undef, tmps.getD 118 undef, tmps.getD 119 undef, tmps.getD 120 undef, tmps.getD 121 undef, tmps.getD 122 undef, tmps.getD 123 undef, tmps.getD 124 undef, tmps.getD 125 undef, tmps.getD 126 undef, tmps.getD 127 undef, tmps.getD 128 undef, tmps.getD 129 undef, tmps.getD 130 undef, tmps.getD 131 undef, tmps.getD 132 undef, tmps.getD 133 undef, tmps.getD 134 undef, tmps.getD 135 undef, tmps.getD 136 undef, tmps.getD 137 undef, tmps.getD 138 undef, tmps.getD 139 undef, tmps.getD 140 undef, tmps.getD 141 undef, tmps.getD 142 undef, tmps.getD 143 undef, tmps.getD 144 undef, tmps.getD 145 undef, tmps.getD 146 undef, tmps.getD 147 undef, tmps.getD 148 undef, tmps.getD 149 undef, tmps.getD 150 undef, tmps.getD 151 undef, tmps.getD 152 undef, tmps.getD 153 undef, tmps.getD 154 undef, tmps.getD 155 undef, tmps.getD 156 undef, tmps.getD 157 undef, tmps.getD 158 undef, tmps.getD 159 undef, tmps.getD 160 undef, tmps.getD 161 undef, tmps.getD 162 undef, tmps.getD 163 undef, tmps.getD 164 undef, tmps.getD 165 undef] := rfl
  rw [e, g0, g1, g4, g8, g9, g10, g11] at hl
  exact hl
/-- What is kept behind it. -/
structure SE (a : Act) (nb no nn nc S sc Kb R : Nat) : Prop where
  dfr : a.defers = []
  sz : a.tmps.size = 166
  s4 : a.tmps[4]? = some (.pointer (some ⟨R, 0, none⟩))
  s8 : a.tmps[8]? = some (.slice (aOf nb no nn) nn nc)
  s9 : a.tmps[9]? = some (.slice (some ⟨S, 0, none⟩) nn sc)
  s10 : a.tmps[10]? = some (.pointer (some ⟨Kb, 0, none⟩))
set_option maxRecDepth 100000 in
theorem SE.lit {a : Act} {nb no nn nc S sc Kb R : Nat} (h : SE a nb no nn nc S sc Kb R) : ∃ u : Nat → Value, a = ⟨#[u 0, u 1, u 2, u 3, .pointer (some ⟨R, 0, none⟩), u 5, u 6, u 7, .slice (aOf nb no nn) nn nc, .slice (some ⟨S, 0, none⟩) nn sc, .pointer (some ⟨Kb, 0, none⟩), u 11, u 12, u 13, u 14, u 15, u 16, u 17, u 18, u 19, u 20, u 21, u 22, u 23, u 24, u 25, u 26, u 27, u 28, u 29, u 30, u 31, u 32, u 33, u 34, u 35, u 36, u 37, u 38, u 39, u 40, u 41, u 42, u 43, u 44, u 45, u 46, u 47, u 48, u 49, u 50, u 51, u 52, u 53, u 54, u 55, u 56, u 57, u 58, u 59, u 60, u 61, u 62, u 63, u 64, u 65, u 66, u 67, u 68, u 69, u 70, u 71, u 72, u 73, u 74, u 75, u 76, u 77, u 78, u 79, u 80, u 81, u 82, u 83, u 84, u 85, u 86, u 87, u 88, u 89, u 90, u 91, u 92, u 93, u 94, u 95, u 96, u 97, u 98, u 99, u 100, u 101, u 102, u 103, u 104, u 105, u 106, u 107, u 108, u 109, u 110, u 111, u 112, u 113, u 114, u 115, u 116, u 117, u 118, u 119, u 120, u 121, u 122, u 123, u 124, u 125, u 126, u 127, u 128, u 129, u 130, u 131, u 132, u 133, u 134, u 135, u 136, u 137, u 138, u 139, u 140, u 141, u 142, u 143, u 144, u 145, u 146, u 147, u 148, u 149, u 150, u 151, u 152, u 153, u 154, u 155, u 156, u 157, u 158, u 159, u 160, u 161, u 162, u 163, u 164, u 165], []⟩ := by
  obtain ⟨tmps, dfr⟩ := a
  refine ⟨fun i => tmps.getD i undef, ?_⟩
  have hd : dfr = [] := h.dfr
  have hl := arr_lit (show tmps.size = 166 from h.sz)
  have g4 : tmps.getD 4 undef = .pointer (some ⟨R, 0, none⟩) := getD_some h.s4
  have g8 : tmps.getD 8 undef = .slice (aOf nb no nn) nn nc := getD_some h.s8
  have g9 : tmps.getD 9 undef = .slice (some ⟨S, 0, none⟩) nn sc := getD_some h.s9
  have g10 : tmps.getD 10 undef = .pointer (some ⟨Kb, 0, none⟩) := getD_some h.s10
  subst hd
  congr 1
  have e : ((List.range 166).map fun i => tmps.getD i undef).toArray = #[tmps.getD 0 undef, tmps.getD 1 undef, tmps.getD 2 undef, tmps.getD 3 undef, tmps.getD 4 undef, tmps.getD 5 undef, tmps.getD 6 undef, tmps.getD 7 undef, tmps.getD 8 undef, tmps.getD 9 undef, tmps.getD 10 undef, tmps.getD 11 undef, tmps.getD 12 undef, tmps.getD 13 undef, tmps.getD 14 undef, tmps.getD 15 undef, tmps.getD 16 undef, tmps.getD 17 undef, tmps.getD 18 undef, tmps.getD 19 undef, tmps.getD 20 undef, tmps.getD 21 undef, tmps.getD 22 undef, tmps.getD 23 undef, tmps.getD 24 undef, tmps.getD 25 undef, tmps.getD 26 undef, tmps.getD 27 undef, tmps.getD 28 undef, tmps.getD 29 undef, tmps.getD 30 undef, tmps.getD 31 undef, tmps.getD 32 undef, tmps.getD 33 undef, tmps.getD 34 undef, tmps.getD 35 undef, tmps.getD 36 undef, tmps.getD 37 undef, tmps.getD 38 undef, tmps.getD 39 undef, tmps.getD 40 undef, tmps.getD 41 undef, tmps.getD 42 undef, tmps.getD 43 undef, tmps.getD 44 undef, tmps.getD 45 undef, tmps.getD 46 undef, tmps.getD 47 undef, tmps.getD 48 undef, tmps.getD 49 undef, tmps.getD 50 undef, tmps.getD 51 undef, tmps.getD 52 undef, tmps.getD 53 undef, tmps.getD 54 undef, tmps.getD 55 undef, tmps.getD 56 undef, tmps.getD 57 undef, tmps.getD 58 undef, tmps.getD 59 undef, tmps.getD 60 undef, tmps.getD 61 undef, tmps.getD 62 undef, tmps.getD 63 undef, tmps.getD 64 undef, tmps.getD 65 undef, tmps.getD 66 undef, tmps.getD 67 undef, tmps.getD 68 undef, tmps.getD 69 undef, tmps.getD 70 undef, tmps.getD 71 undef, tmps.getD 72 undef, tmps.getD 73 undef, tmps.getD 74 undef, tmps.getD 75 undef, tmps.getD 76 undef, tmps.getD 77 undef, tmps.getD 78 undef, tmps.getD 79 undef, tmps.getD 80 undef, tmps.getD 81 undef, tmps.getD 82 undef, tmps.getD 83 undef, tmps.getD 84 undef, tmps.getD 85 undef, tmps.getD 86 undef, tmps.getD 87 undef, tmps.getD 88 undef, tmps.getD 89 undef, tmps.getD 90 undef, tmps.getD 91 undef, tmps.getD 92 undef, tmps.getD 93 undef, tmps.getD 94 undef, tmps.getD 95 undef, tmps.getD 96 undef, tmps.getD 97 undef, tmps.getD 98 undef, tmps.getD 99 undef, tmps.getD 100 undef, tmps.getD 101 undef, tmps.getD 102 undef, tmps.getD 103 undef, tmps.getD 104 undef, tmps.getD 105 undef, tmps.getD 106 undef, tmps.getD 107 undef, tmps.getD 108 undef, tmps.getD 109 undef, tmps.getD 110 undef, tmps.getD 111 undef, tmps.getD 112 undef, tmps.getD 113 undef, tmps.getD 114 undef, tmps.getD 115 undef, tmps.getD 116 undef, tmps.getD 117 undef, tmps.getD 118 undef, tmps.getD 119 undef, tmps.getD 120 undef, tmps.getD 121 undef, tmps.getD 122 undef, tmps.getD 123 undef, tmps.getD 124 undef, tmps.getD 125 undef, tmps.getD 126 undef, tmps.getD 127 undef, tmps.getD 128 undef, tmps.getD 129 undef, tmps.getD 130 undef, tmps.getD 131 undef, tmps.getD 132 undef, tmps.getD 133 undef, tmps.getD 134 undef, tmps.getD 135 undef, tmps.getD 136 undef, tmps.getD 137 undef, tmps.getD 138 undef, tmps.getD 139 undef, tmps.getD 140 undef, tmps.getD 141 undef, tmps.getD 142 undef, tmps.getD 143 undef, tmps.getD 144 undef, tmps.getD 145 undef, tmps.getD 146 undef, tmps.getD 147 undef, tmps.getD 148 undef, tmps.getD 149 undef, tmps.getD 150 undef, tmps.getD 151 undef, tmps.getD 152 undef, tmps.getD 153 undef, tmps.getD 154 undef, tmps.getD 155 undef, tmps.getD 156 undef, tmps.getD 157 undef, tmps.getD 158 undef, tmps.getD 159 undef, tmps.getD 160 undef, tmps.getD 161 undef, tmps.getD 162 undef, tmps.getD 163 undef, tmps.getD 164 undef, tmps.getD 165 undef] := rfl
  rw [e, g4, g8, g9, g10] at hl
  exact hl
set_option maxRecDepth 100000 in
set_option maxHeartbeats 16000000 in
theorem i_none {Q : Exit → Act → World → Prop} {a : Act} {W : World} {aL aB : Option Addr} {n cL cB nb no nn nc S sc Kb R : Nat} (sf : SG a aL aB n cL 0 cB nb no nn nc S sc Kb 0 R)
    (hend : ∀ a', SE a' nb no nn nc S sc Kb R → Q (.exit 4) a' W) : Code.wp Tryz.prog (iBody Tryz.f7) Q a W := by
  obtain ⟨u, rfl⟩ := sf.lit
  have HQ := hide hend
  clear hend sf
  conv => arg 2; whnf
  go_wp2
  exact unhide HQ _ ⟨rfl, rfl, rfl, rfl, rfl, rfl⟩
theorem i_any {Q : Exit → Act → World → Prop} {a : Act} {w0 W : World} {aL aB : Option Addr} {B cL cB nb no nc S sc Kb R n nB : Nat} {nl : List ByteArray} {ls : List (List (ByteArray × ByteArray) × ByteArray)} {bs : List ByteArray} {rs : List (List (ByteArray × Int) × Int)} {ns : List Int}
    (sf : SG a aL aB n cL nB cB nb no nl.length nc S sc Kb 0 R) (nk : NK w0 B nl nb no S Kb 0 (fun _ => 0) W) (hB : B ≤ W.heap.size) (hSB : B ≤ S) (hKB : B ≤ Kb) (hn1 : nb ≠ S) (hn2 : nb ≠ Kb) (hK1 : Kb ≠ S)
    (hL : Row B aL n cL 2 (LAt w0 B ls)) (hnl : n = ls.length) (hS : Row B aB nB cB 1 (BA w0 bs)) (hnB : nB = bs.length) (hle : nB ≤ n) (hr : readL ls = some rs) (hn : allO timesT bs = some ns) (hw : lwt ls ≤ 100) (hl : nl.length ≤ 1000000) (hsc : nl.length ≤ sc)
    (hend : ∀ a' W', SE a' nb no nl.length nc S sc Kb R → NK w0 B nl nb no S Kb (sumK (rs.take ns.length) (ns.take ns.length)) (fI nl rs ns ns.length) W' → W.heap.size ≤ W'.heap.size → Q (.exit 4) a' W') :
    Code.wp Tryz.prog (.loop (iBody Tryz.f7)) Q a W := by
  have e1 : ns.length = nB := by rw [allO_len hn, hnB]
  have e2 : rs.length = n := by rw [allO_len hr, hnl]
  have hn100 : n ≤ 100 := by
    rw [hnl]
    exact Nat.le_trans (lwt_len ls).1 hw
  by_cases h0 : nB = 0
  · subst h0
    have e3 : ns = [] := List.length_eq_zero_iff.1 e1
    subst e3
    refine wp_loop (fun a' W' => a' = a ∧ W' = W) (fun _ _ => 0) ⟨rfl, rfl⟩ ?_
    rintro a' W' ⟨rfl, rfl⟩
    refine i_none sf fun a2 se => hend a2 _ se ?_ (Nat.le_refl _)
    have e4 : fI nl rs [] ([] : List Int).length = fun _ => 0 := fI_zero nl rs []
    rw [e4]
    exact nk
  · obtain ⟨bB, oB, rfl, hbB, hBA⟩ := hS.2.2 h0
    obtain ⟨b, off, rfl, hb, hLA⟩ := hL.2.2 (by omega)
    subst e1
    refine i_loop (b := b) (off := off) (cL := cL) (bB := bB) (oB := oB) (cB := cB) ⟨sf.dfr, sf.sz, sf.s0, sf.s1, sf.s4, sf.s8, sf.s9, sf.s10, sf.s11⟩ nk hB hSB hKB hn1 hn2 hK1 (by_at hBA hnB hn) hbB (by omega) (rows_at (cL := cL) hLA hnl hr) hb (by omega) e2 hle hl hsc (bnd_of hr hn hw).1 ?_
    intro a' W' sm nk' hs
    exact hend a' W' ⟨sm.dfr, sm.sz, sm.s4, sm.s8, sm.s9, sm.s10⟩ nk' hs
end Go.Proofs.YthgdmppmjnmiiaaGreatDoor

/- The document's Sum: where the names lie. -/
namespace Go.Proofs.YthgdmppmjnmiiaaGreatDoor
open Go Go.RowKit Go.Maps
open _root_.Go.Proofs.YthgdmppmjnmiiaaGreatDoor.Nm (IsI IsN Ns pw)

theorem own_place {w : World} {B n : Nat} {v : Value} {t : TypeId} {xs : List Value} (h : w.ownsRow B t 1 v n xs) (h0 : 0 < w.heap.size) : ∃ nb no c, v = .slice (aOf nb no n) n c ∧ n ≤ c ∧ nb < w.heap.size ∧ ∀ (j : Nat) u, xs[j]? = some u → w.cell? ⟨nb, no + j, none⟩ = some u := by
  obtain ⟨a, c, e, hc, hcell⟩ := own_cells h
  by_cases hn : n = 0
  · subst hn
    obtain ⟨hlen, ⟨rfl, h1⟩ | ⟨g, cap, cur, rfl, hg, hgb, hc1, -⟩⟩ := h
    · have hx : xs = [] := List.length_eq_zero_iff.1 (by simpa using hlen)
      subst hx
      exact ⟨0, 1, 0, rfl, Nat.le_refl _, h0, fun j u hu => by simp at hu⟩
    · have hx : xs = [] := List.length_eq_zero_iff.1 (by simpa using hlen)
      subst hx
      exact ⟨g, 0, cap, by rw [aOf_0], hc1, (Array.getElem?_eq_some_iff.1 hgb).1, fun j u hu => by simp at hu⟩
  · obtain ⟨g, rfl, hg, hgl, hcells⟩ := hcell hn
    refine ⟨g, 0, c, by rw [aOf_0]; exact e, hc, hgl, fun j u hu => ?_⟩
    have := hcells j u hu
    rw [Nat.zero_add]
    exact this
/-- What there is as the loop over the multipliers begins. -/
theorem nk_start {W w4 w5 : World} {nl : List ByteArray} {nb no : Nat} {bb : Bool} {ra : Option Addr} {rl rc : Nat} (h4 : Below W.heap.size W w4) (hnm : ∀ (q : Nat) x, nl[q]? = some x → w4.cell? ⟨nb, no + q, none⟩ = some (.string x)) (hnb : nb < w4.heap.size)
    (h5 : Below (w4.alloc (.cells (zeroPairs nl.length).toArray 58)).heap.size (w4.alloc (.cells (zeroPairs nl.length).toArray 58)) w5) (hI : IsN w5 (.agg #[.bool bb, .slice ra rl rc]) 0) :
    NK W W.heap.size nl nb no w4.heap.size w5.heap.size 0 (fun _ => 0) (w5.alloc (.cells #[.bool bb, .slice ra rl rc] 58)) := by
  have b1 : Below w4.heap.size w4 (w4.alloc (.cells (zeroPairs nl.length).toArray 58)) := (Below.refl _ _).alloc (Nat.le_refl _) _
  have b2 : Below w5.heap.size w5 (w5.alloc (.cells #[.bool bb, .slice ra rl rc] 58)) := (Below.refl _ _).alloc (Nat.le_refl _) _
  have b3 := b1.trans (h5.mono b1.size)
  have b4 := b3.trans (b2.mono b3.size)
  refine ⟨h4.trans (b4.mono h4.size), fun q x hx => (b4.cell (p := ⟨nb, no + q, none⟩) hnb).trans (hnm q x hx), Nat.lt_of_lt_of_le hnb b4.size, ⟨_, ((SNs.new (n := nl.length) (MapKept.heap_alloc w4 _).1).more h5).more b2⟩, ⟨_, _, (MapKept.heap_alloc w5 _).1, hI.below b2⟩⟩
end Go.Proofs.YthgdmppmjnmiiaaGreatDoor

/- The document's Sum: its tail. -/
namespace Go.Proofs.YthgdmppmjnmiiaaGreatDoor
open Go Go.RowKit Go.Maps
open _root_.Go.Proofs.YthgdmppmjnmiiaaGreatDoor.Nm (IsI IsN Ns pw)

/-- Where the tail begins. -/
structure ST (a : Act) (aL aB : Option Addr) (n cL nB cB R : Nat) : Prop where
  dfr : a.defers = []
  sz : a.tmps.size = 166
  s0 : a.tmps[0]? = some (.slice aL n cL)
  s1 : a.tmps[1]? = some (.slice aB nB cB)
  s4 : a.tmps[4]? = some (.pointer (some ⟨R, 0, none⟩))
set_option maxRecDepth 100000 in
theorem ST.lit {a : Act} {aL aB : Option Addr} {n cL nB cB R : Nat} (h : ST a aL aB n cL nB cB R) : ∃ u : Nat → Value, a = ⟨#[.slice aL n cL, .slice aB nB cB, u 2, u 3, .pointer (some ⟨R, 0, none⟩), u 5, u 6, u 7, u 8, u 9, u 10, u 11, u 12, u 13, u 14, u 15, u 16, u 17, u 18, u 19, u 20, u 21, u 22, u 23, u 24, u 25, u 26, u 27, u 28, u 29, u 30, u 31, u 32, u 33, u 34, u 35, u 36, u 37, u 38, u 39, u 40, u 41, u 42, u 43, u 44, u 45, u 46, u 47, u 48, u 49, u 50, u 51, u 52, u 53, u 54, u 55, u 56, u 57, u 58, u 59, u 60, u 61, u 62, u 63, u 64, u 65, u 66, u 67, u 68, u 69, u 70, u 71, u 72, u 73, u 74, u 75, u 76, u 77, u 78, u 79, u 80, u 81, u 82, u 83, u 84, u 85, u 86, u 87, u 88, u 89, u 90, u 91, u 92, u 93, u 94, u 95, u 96, u 97, u 98, u 99, u 100, u 101, u 102, u 103, u 104, u 105, u 106, u 107, u 108, u 109, u 110, u 111, u 112, u 113, u 114, u 115, u 116, u 117, u 118, u 119, u 120, u 121, u 122, u 123, u 124, u 125, u 126, u 127, u 128, u 129, u 130, u 131, u 132, u 133, u 134, u 135, u 136, u 137, u 138, u 139, u 140, u 141, u 142, u 143, u 144, u 145, u 146, u 147, u 148, u 149, u 150, u 151, u 152, u 153, u 154, u 155, u 156, u 157, u 158, u 159, u 160, u 161, u 162, u 163, u 164, u 165], []⟩ := by
  obtain ⟨tmps, dfr⟩ := a
  refine ⟨fun i => tmps.getD i undef, ?_⟩
  have hd : dfr = [] := h.dfr
  have hl := arr_lit (show tmps.size = 166 from h.sz)
  have g0 : tmps.getD 0 undef = .slice aL n cL := getD_some h.s0
  have g1 : tmps.getD 1 undef = .slice aB nB cB := getD_some h.s1
  have g4 : tmps.getD 4 undef = .pointer (some ⟨R, 0, none⟩) := getD_some h.s4
  subst hd
  congr 1
  have e : ((List.range 166).map fun i => tmps.getD i undef).toArray = #[tmps.getD 0 undef, tmps.getD 1 undef, tmps.getD 2 undef, tmps.getD 3 undef, tmps.getD 4 undef, tmps.getD 5 undef, tmps.getD 6 undef, tmps.getD 7 undef, tmps.getD 8 undef, tmps.getD 9 undef, tmps.getD 10 undef, tmps.getD 11 undef, tmps.getD 12 undef, tmps.getD 13 undef, tmps.getD 14 undef, tmps.getD 15 undef, tmps.getD 16 undef, tmps.getD 17 undef, tmps.getD 18 undef, tmps.getD 19 undef, tmps.getD 20 undef, tmps.getD 21 undef, tmps.getD 22 undef, tmps.getD 23 undef, tmps.getD 24 undef, tmps.getD 25 undef, tmps.getD 26 undef, tmps.getD 27 undef, tmps.getD 28 undef, tmps.getD 29 undef, tmps.getD 30 undef, tmps.getD 31 undef, tmps.getD 32 undef, tmps.getD 33 undef, tmps.getD 34 undef, tmps.getD 35 undef, tmps.getD 36 undef, tmps.getD 37 undef, tmps.getD 38 undef, tmps.getD 39 undef, tmps.getD 40 undef, tmps.getD 41 undef, tmps.getD 42 undef, tmps.getD 43 undef, tmps.getD 44 undef, tmps.getD 45 undef, tmps.getD 46 undef, tmps.getD 47 undef, tmps.getD 48 undef, tmps.getD 49 undef, tmps.getD 50 undef, tmps.getD 51 undef, tmps.getD 52 undef, tmps.getD 53 undef, tmps.getD 54 undef, tmps.getD 55 undef, tmps.getD 56 undef, tmps.getD 57 undef, tmps.getD 58 undef, tmps.getD 59 undef, tmps.getD 60 undef, tmps.getD 61 undef, tmps.getD 62 undef, tmps.getD 63 undef, tmps.getD 64 undef, tmps.getD 65 undef, tmps.getD 66 undef, tmps.getD 67 undef, tmps.getD 68 undef, tmps.getD 69 undef, tmps.getD 70 undef, tmps.getD 71 undef, tmps.getD 72 undef, tmps.getD 73 undef, tmps.getD 74 undef, tmps.getD 75 undef, tmps.getD 76 undef, tmps.getD 77 undef, tmps.getD 78 undef, tmps.getD 79 undef, tmps.getD 80 undef, tmps.getD 81 undef, tmps.getD 82 undef, tmps.getD 83 undef, tmps.getD 84 undef, tmps.getD 85 undef, tmps.getD 86 undef, tmps.getD 87 undef, tmps.getD 88 undef, tmps.getD 89 undef, tmps.getD 90 undef, tmps.getD 91 undef, tmps.getD 92 undef, tmps.getD 93 undef, tmps.getD 94 undef, tmps.getD 95 undef, tmps.getD 96 undef, tmps.getD 97 undef, tmps.getD 98 undef, tmps.getD 99 undef, tmps.getD 100 undef, tmps.getD 101 undef, tmps.getD 102 undef, tmps.getD 103 undef, tmps.getD 104 undef, tmps.getD 105 undef, tmps.getD 106 undef, tmps.getD 107 undef, tmps.getD 108 undef, tmps.getD 109 undef, tmps.getD 110 undef, tmps.getD 111 undef, tmps.getD 112 undef, tmps.getD 113 undef, tmps.getD 114 undef, tmps.getD 115 undef, tmps.getD 116 undef, tmps.getD 117 undef, tmps.getD 118 undef, tmps.getD 119 undef, tmps.getD 120 undef, tmps.getD 121 undef, tmps.getD 122 undef, tmps.getD 123 undef, tmps.getD 124 undef, tmps.getD 125 undef, tmps.getD 126 undef, tmps.getD 127 undef, tmps.getD 128 undef, tmps.getD 129 undef, tmps.getD 130 undef, tmps.getD 131 undef, tmps.getD 132 undef, tmps.getD 133 undef, tmps.getD 134 undef, tmps.getD 135 undef, tmps.getD 136 undef, tmps.getD 137 undef, tmps.getD 138 undef, tmps.getD 139 undef, tmps.getD 140 undef, tmps.getD 141 undef, tmps.getD 142 undef, tmps.getD 143 undef, tmps.getD 144 undef, tmps.getD 145 undef, tmps.getD 146 undef, tmps.getD 147 undef, tmps.getD 148 undef, tmps.getD 149 undef, tmps.getD 150 undef, tmps.getD 151 undef, tmps.getD 152 undef, tmps.getD 153 undef, tmps.getD 154 undef, tmps.getD 155 undef, tmps.getD 156 undef, tmps.getD 157 undef, tmps.getD 158 undef, tmps.getD 159 undef, tmps.getD 160 undef, tmps.getD 161 undef, tmps.getD 162 undef, tmps.getD 163 undef, tmps.getD 164 undef, tmps.getD 165 undef] := rfl
  rw [e, g0, g1, g4] at hl
  exact hl
set_option maxRecDepth 100000 in
set_option maxHeartbeats 16000000 in
theorem d_tail {Q : Exit → Act → World → Prop} {a : Act} {W : World} {aL aB : Option Addr} {n cL nB cB R : Nat} {ls : List (List (ByteArray × ByteArray) × ByteArray)} {bs : List ByteArray} {rs : List (List (ByteArray × Int) × Int)} {ns : List Int}
    (sf : ST a aL aB n cL nB cB R) (hL : Row W.heap.size aL n cL 2 (LAt W W.heap.size ls)) (hnl : n = ls.length) (hS : Row W.heap.size aB nB cB 1 (BA W bs)) (hnB : nB = bs.length) (hle : nB ≤ n) (hr : readL ls = some rs) (hn : allO timesT bs = some ns) (hw : lwt ls ≤ 100) (hR : W.heap[R]? = some (.cells #[.slice none 0 0, .string ⟨#[]⟩] 28))
    (hend : ∀ (a' : Act) (w6 W7 : World) (nl : List ByteArray) (v : Value) (KT : ByteArray), a'.defers = [] → a'.tmps.size = 166 → a'.tmps[4]? = some (.pointer (some ⟨R, 0, none⟩)) → a'.tmps[5]? = some (.bool true) → SrtN nl → (∀ z, z ∈ nl ↔ z ∈ nmsL ls) → Below W.heap.size W w6 → OS w6 W7 KT (tellN (sumC (rs.take ns.length) ns) nl) v → KT = bytesOf (Lib.itoa (sumK (rs.take ns.length) ns)) → W7.heap[R]? = some (.cells #[.slice none 0 0, .string ⟨#[]⟩] 28) → Q .ret a' ((W7.setCell ⟨R, 0, none⟩ v).setCell ⟨R, 1, none⟩ (.string KT))) :
    Code.wp Tryz.prog (dTail Tryz.f7) Q a W := by
  obtain ⟨u, rfl⟩ := sf.lit
  have HNm := hide (names_any hL hnl hw)
  have HX := hide (And.intro hL (And.intro hnl (And.intro hS (And.intro hnB (And.intro hle (And.intro hr (And.intro hn (And.intro hw hR))))))))
  have HQ := hide hend
  clear sf hL hnl hS hnB hle hr hn hw hR hend
  conv => arg 2; whnf
  go_wp2_with fail
  refine (unhide HNm).mono ?_
  rintro e w4 ⟨v8, nl, rfl, hNI⟩
  obtain ⟨hL, hnl, hS, hnB, hle, hr, hn, hw, hR⟩ := unhide HX
  have hRl := (Array.getElem?_eq_some_iff.1 hR).1
  have hs4 := hNI.bel.size
  obtain ⟨nb, no, c8, rfl, hc8, hnb, hcells⟩ := own_place hNI.own (by omega)
  have hml : nl.length ≤ 100 := Nat.le_trans (srt_len hNI.srt fun z hz => (hNI.mem z).1 hz) (Nat.le_trans (nms_len ls) hw)
  have hnm : ∀ (q : Nat) x, nl[q]? = some x → w4.cell? ⟨nb, no + q, none⟩ = some (.string x) := fun q x hx => hcells q _ (by simp [hx])
  have HS4 := hide (And.intro hs4 hRl)
  have HI := hide (And.intro hNI (And.intro hnm (And.intro hnb hc8)))
  have hml' : nl.length ≤ 1000000 := by omega
  have hm5 := hide (show nl.length ≤ 100000 by omega)
  have HA := hide (fun (Q' : Exit → Act → World → Prop) (a' : Act) (W' : World) (S Kb : Nat) sf nk hB hSB hKB hn1 hn2 hK1 he => i_any (Q := Q') (a := a') (W := W') (w0 := W) (B := W.heap.size) (nl := nl) (nb := nb) (no := no) (nc := c8) (S := S) (sc := nl.length) (Kb := Kb) (R := R) sf nk hB hSB hKB hn1 hn2 hK1 hL hnl hS hnB hle hr hn hw hml' (Nat.le_refl _) he)
  have HBd := hide (bnd_of (nl := nl) hr hn hw).2
  have HK := hide (fun w5 bb ra rl rc h5 hI => nk_start (w5 := w5) (bb := bb) (ra := ra) (rl := rl) (rc := rc) hNI.bel hnm hnb h5 hI)
  obtain ⟨L, hLe⟩ : ∃ L, nl.length = L := ⟨_, rfl⟩
  rw [hLe] at HA HK hml' ⊢
  replace hLe := hide hLe
  clear hNI hnm hnb hc8 hcells hml hL hnl hS hnB hle hr hn hw hR hRl hs4
  go_wp2_with fail
  rw [mkN L w4 hml']
  go_wp2_with fail
  refine (Nm.ofN_any 0 _ (by omega) (by omega)).mono ?_
  rintro e w5 ⟨r, rfl, hb5, hI5⟩
  obtain ⟨bb, ra, rl, rc, rfl⟩ := hI5.form
  have NK0 := hide (unhide HK w5 bb ra rl rc hb5 hI5)
  have hs5 : Hid (w4.heap.size < w5.heap.size) := by
    have := hb5.size
    simp at this
    show w4.heap.size < w5.heap.size
    omega
  clear hb5 hI5
  go_wp2_with fail
  change Code.wp Tryz.prog (.loop (iBody Tryz.f7)) _ _ _
  have hq5 := unhide hs5
  obtain ⟨hq4, hqR⟩ := unhide HS4
  have hqb := (unhide HI).2.2.1
  refine unhide HA _ _ _ _ _ ⟨rfl, rfl, rfl, rfl, rfl, rfl, rfl, rfl, rfl⟩ (unhide NK0) (by simp; omega) (by omega) (by omega) (by omega) (by omega) (by omega) fun a2 W3 se nk3 hs3 => ?_
  obtain ⟨u2, rfl⟩ := se.lit
  have HN3 := hide nk3
  obtain ⟨k1, k2, hk, ik⟩ := nk3.kb
  obtain ⟨b7, r7, l7, c7, e7⟩ := ik.form
  have e9 : k1 = .bool b7 ∧ k2 = .slice r7 l7 c7 := by simpa using e7
  obtain ⟨rfl, rfl⟩ := e9
  have x0 : W3.cell? ⟨w5.heap.size, 0, none⟩ = some (.bool b7) := (blk hk).2.1 0 _ rfl
  have x1 : W3.cell? ⟨w5.heap.size, 1, none⟩ = some (.slice r7 l7 c7) := (blk hk).2.1 1 _ rfl
  have HT0 := Nm.textN_any _ _ W3 ik (unhide HBd).2
  obtain ⟨KT, hKT⟩ : ∃ K : ByteArray, (⟨(Lib.itoa (sumK (rs.take ns.length) (ns.take ns.length))).toArray⟩ : ByteArray) = K := ⟨_, rfl⟩
  rw [hKT] at HT0
  replace hKT := hide hKT
  have HT := hide HT0
  clear HT0
  have hq3 := hide hs3
  have hq5' := hide (And.intro hq5 (And.intro hq4 (And.intro hqR hqb)))
  clear se nk3 hk ik e7 hs3 hq5 hq4 hqR hqb
  go_wp2_with fail
  refine (unhide HT).mono ?_
  rintro e w6 ⟨rfl, hb6⟩
  have H6 := hide hb6
  clear hb6 x0 x1
  go_wp2_with fail
  change Code.wp Tryz.prog (.loop (oBody Tryz.f7)) _ _ _
  have nk6 := (unhide HN3).more (by have := unhide hq3; have := unhide hq5'; simp at *; omega) (unhide H6)
  obtain ⟨cs6, hs6⟩ := nk6.sn
  have HS6 := hide hs6
  have os6 : OS w6 (w6.alloc (.cells #[.slice none 0 0, .string KT] 28)) KT [] (.slice none 0 0) := ⟨(Below.refl _ _).alloc (Nat.le_refl _) _, (MapKept.heap_alloc w6 _).1, ⟨rfl, .inl ⟨rfl, rfl⟩⟩, by simp [Value.ownBlock]⟩
  obtain rfl := unhide hLe
  refine o_loop (G := sumC (rs.take ns.length) (ns.take ns.length)) ⟨rfl, rfl, rfl, rfl, rfl, rfl, rfl⟩ nk6.nm nk6.nlt hs6 os6 (fun q x hx => by unfold fI; rw [hx]) (unhide hm5) (Nat.le_refl _) (unhide HBd).1 fun a7 W7 v7 so7 os7 => ?_
  obtain ⟨u7, rfl⟩ := so7.lit
  obtain ⟨a9, c9, rfl, hc9, h9⟩ := own_cells os7.own
  have y0 : W7.cell? ⟨w6.heap.size, 0, none⟩ = some (.slice a9 (tellN (sumC (rs.take ns.length) (ns.take ns.length)) nl).length c9) := (blk os7.box).2.1 0 _ rfl
  have y1 := (blk os7.box).2.1 1 _ rfl
  have HO7 := hide os7
  have hR := (unhide HX).2.2.2.2.2.2.2.2
  have hRl := (Array.getElem?_eq_some_iff.1 hR).1
  have hR6 := (nk6.lo.block R hRl).trans hR
  have hR7 := (os7.lo.block R (Array.getElem?_eq_some_iff.1 hR6).1).trans hR6
  have z0 : W7.cell? ⟨R, 0, none⟩ = some (.slice none 0 0) := (blk hR7).2.1 0 _ rfl
  have z1 : W7.cell? ⟨R, 1, none⟩ = some (.string ⟨#[]⟩) := (blk hR7).2.1 1 _ rfl
  have f0 := (blk hR7).2.2 0
  have f1 := (blk hR7).2.2 1
  have HR7 := hide hR7
  have HN6 := hide nk6.lo
  clear hR hRl hR6 hR7
  clear so7 os7 hc9 h9 os6 nk6 hs6
  go_wp2
  have eT : ns.take ns.length = ns := List.take_length
  have os8 := unhide HO7
  rw [eT] at os8
  have eK := unhide hKT
  rw [eT] at eK
  exact unhide HQ _ w6 W7 nl _ KT rfl rfl rfl rfl (unhide HI).1.srt (unhide HI).1.mem (unhide HN6) os8 eK.symm (unhide HR7)
end Go.Proofs.YthgdmppmjnmiiaaGreatDoor

/- The document's rows: which texts are numbers, which rows are rows. -/
namespace Go.Proofs.YthgdmppmjnmiiaaGreatDoor
open Go Go.RowKit Go.Maps
open _root_.Go.Proofs.YthgdmppmjnmiiaaGreatDoor.Nm (IsI pw)
theorem trim_size {s : ByteArray} : (Lib.trimPrefix s.data.toList [45]).length = if Lib.hasPrefix s.data.toList [45] then s.size - 1 else s.size := by
  unfold Lib.trimPrefix
  split
  · simp
  · simp
theorem pre_first {s : ByteArray} (h : 0 < s.size) : Lib.hasPrefix s.data.toList [45] = ((s[0]'h) == 45) := by
  have hl : 0 < s.data.toList.length := by simpa using h
  have e := Nm.get_list (T := s) (L := s.data.toList) rfl 0 h hl
  cases hD : s.data.toList with
  | nil => rw [hD] at hl; simp at hl
  | cons b t =>
    rw [e]
    simp only [hD, List.getElem_cons_zero]
    simp [Lib.hasPrefix, List.isPrefixOf, BEq.comm]
set_option maxRecDepth 100000 in
theorem digits_any (s : ByteArray) (w : World) (hs : s.size ≤ 3000) : Calls Tryz.prog 34 #[.string s] w (VPost (.int .i64 ((Lib.trimPrefix s.data.toList [45]).length : Nat)) w) := by
  rw [trim_size]
  by_cases h0 : 0 < s.size
  · rw [pre_first h0]
    have hp : (0 : Int) < (s.size : Int) := by omega
    by_cases hb : (s[0]'h0) = 45
    · have h45 : (((s[0]'h0).toNat : Int) == 45) = true := by rw [hb]; rfl
      have e : ((s.size - 1 : Nat) : Int) = (s.size : Int) - 1 := by omega
      rw [if_pos (by simp [hb]), e]
      clear hb e
      go_enter Tryz.func34, Tryz.ntmps34
      go_wp2
      go_ret
      exact ⟨rfl, Below.refl _ _⟩
    · have h45 : (((s[0]'h0).toNat : Int) == 45) = false := by
        simp
        intro e
        apply hb
        have h9 : (s[0]'h0).toNat = 45 := by omega
        exact UInt8.toNat_inj.1 h9
      rw [if_neg (by simpa using hb)]
      clear hb
      go_enter Tryz.func34, Tryz.ntmps34
      go_wp2
      go_ret
      exact ⟨rfl, Below.refl _ _⟩
  · have hz : s.size = 0 := by omega
    have e : s = ⟨#[]⟩ := empty_of hz
    subst e
    go_enter Tryz.func34, Tryz.ntmps34
    go_wp2
    go_ret
    exact ⟨rfl, Below.refl _ _⟩
theorem numT_some (d : Nat) (s : ByteArray) : (numT d s).isSome = rightB (Lib.hasPrefix s.data.toList [45]) (Lib.trimPrefix s.data.toList [45]) d := by
  unfold numT
  split
  · rename_i h; rw [h]; rfl
  · rename_i h; simp at h; rw [h]; rfl
set_option maxRecDepth 100000 in
theorem right_any (s : ByteArray) (d : Nat) (w : World) (hd : d ≤ 1900) : Calls Tryz.prog 17 #[.string s, .int .i64 d] w (VPost (.bool (numT d s).isSome) w) := by
  have hw := trim_size (s := s)
  have hle : (Lib.trimPrefix s.data.toList [45]).length + 1 ≥ s.size := by rw [hw]; split <;> omega
  have hwr : IntKind.i64.wrap ((d : Int) + 1) = (d : Int) + 1 := by rw [IntKind.wrap_i64]; omega
  by_cases hs : s.size ≤ d + 1
  · have g1 : (s.size : Int) ≤ (d : Int) + 1 := by omega
    have hll : s.data.toList.length ≤ 2000 := by simp; omega
    by_cases hR : Nm.RT (Lib.hasPrefix s.data.toList [45]) (Lib.trimPrefix s.data.toList [45])
    · have hb : (numT d s).isSome = decide ((Lib.trimPrefix s.data.toList [45]).length ≤ d) := by
        rw [numT_some, Bool.eq_iff_iff, rightB_iff (by omega), decide_eq_true_eq]
        exact ⟨fun h => h.2, fun h => ⟨hR, h⟩⟩
      rw [hb]
      have HY := hide (fun V => Nm.right_yes _ _ s V (txt_of s.data.toList).symm hR)
      have HD := hide (fun V => digits_any s V (by omega))
      obtain ⟨L, hL⟩ : ∃ L, (Lib.trimPrefix s.data.toList [45]).length = L := ⟨_, rfl⟩
      rw [hL] at HD ⊢
      have hcm : decide ((L : Int) ≤ (d : Int)) = decide (L ≤ d) := by simp
      clear hw hle hll hR hb hL
      go_enter Tryz.func17, Tryz.ntmps17
      go_wp2_with fail
      refine (unhide HY _).mono ?_
      rintro e w1 ⟨rfl, hb1⟩
      go_wp2_with fail
      refine (unhide HD _).mono ?_
      rintro e w2 ⟨rfl, hb2⟩
      have HB := hide (hb1.trans (hb2.mono hb1.size))
      clear hb1 hb2 HY HD
      go_wp2
      go_ret
      refine ⟨?_, unhide HB⟩
      first | rfl | (simp; done) | (simp [hcm])
    · have hb : (numT d s).isSome = false := by
        rw [numT_some, ← Bool.not_eq_true, rightB_iff (by omega)]
        exact fun h => hR h.1
      rw [hb]
      have HN := hide (fun V => Nm.right_no s _ V rfl hll hR)
      clear hw hle hll hR hb
      go_enter Tryz.func17, Tryz.ntmps17
      go_wp2_with fail
      refine (unhide HN _).mono ?_
      rintro e w1 ⟨rfl, hb1⟩
      have HB := hide hb1
      clear hb1 HN
      go_wp2
      go_ret
      exact ⟨rfl, unhide HB⟩
  · have hb : numT d s = none := numT_long hd (by omega)
    rw [hb]
    have g1 : ¬ (s.size : Int) ≤ (d : Int) + 1 := by omega
    have g2 : decide ((s.size : Int) ≤ (d : Int) + 1) = false := by simp; omega
    clear hw hle hb
    go_enter Tryz.func17, Tryz.ntmps17
    go_wp2
    go_ret
    exact ⟨rfl, Below.refl _ _⟩
end Go.Proofs.YthgdmppmjnmiiaaGreatDoor

/- The document's Row. -/
namespace Go.Proofs.YthgdmppmjnmiiaaGreatDoor
open Go Go.RowKit Go.Maps
open _root_.Go.Proofs.YthgdmppmjnmiiaaGreatDoor.Nm (IsI pw)
theorem readP_some {n v : ByteArray} : (readP (n, v)).isSome = (!(decide (n.size = 0)) && (!(decide (200 < n.size)) && (numT 400 v).isSome)) := by
  unfold readP
  by_cases h0 : n.size = 0
  · simp [h0]
  · by_cases h1 : 200 < n.size
    · simp [h0, h1]
    · simp [h0, h1]
def RI (C : List (ByteArray × ByteArray)) (i : Nat) : Prop := ∃ ps, readC (C.take i) = some ps
set_option maxRecDepth 100000 in
set_option maxHeartbeats 4000000 in
theorem rowD_any {w : World} {v : Value} {C : List (ByteArray × ByteArray)} {K : ByteArray} (hL : IsL w w.heap.size v C K) (hn : C.length ≤ 1000000) : Calls Tryz.prog 9 #[v] w (VPost (.bool (readR C K).isSome) w) := by
  obtain ⟨aC, n, cC, rfl, hnC, hC⟩ := hL
  obtain ⟨A, eA, hbA, hsA, hcA, hhA⟩ := box_new w #[.slice aC n cC, .string K] 28
  have x0 : A.cell? ⟨w.heap.size, 0, none⟩ = some (.slice aC n cC) := (blk hhA).2.1 0 _ rfl
  have HE := hide eA
  have HA := hide (And.intro hbA (And.intro hhA hsA))
  have HC := hide (And.intro hC (And.intro hnC hn))
  clear hC hnC hn eA hbA hsA hcA hhA x0
  go_enter Tryz.func9, Tryz.ntmps9
  go_wp2_with fail
  rw [unhide HE]
  go_loopw [3] (fun iv wr => ∃ i : Nat, i ≤ n ∧ iv = .int .i64 i ∧ Hid (RI C i) ∧ Hid (Below A.heap.size A wr)) (fun iv _ => n - (intOf iv).toNat)
  case atStart => exact ⟨0, Nat.zero_le _, rfl, ⟨[], rfl⟩, Below.refl _ _⟩
  case round =>
    obtain ⟨i, hi0, rfl, hR, hwr⟩ := hrel
    obtain ⟨hbA, hhA, hsA⟩ := unhide HA
    obtain ⟨hC, hnC, hn⟩ := unhide HC
    have hhr := ((unhide hwr).block w.heap.size (by omega)).trans hhA
    have x0 : wr.cell? ⟨w.heap.size, 0, none⟩ = some (.slice aC n cC) := (blk hhr).2.1 0 _ rfl
    have x1 : wr.cell? ⟨w.heap.size, 1, none⟩ = some (.string K) := (blk hhr).2.1 1 _ rfl
    have hbw : Below w.heap.size w wr := hbA.trans ((unhide hwr).mono hbA.size)
    by_cases hi : i < n
    · obtain ⟨b, off, rfl, hbB, hCj⟩ := hC.2.2 (by omega)
      obtain ⟨c, hc⟩ : ∃ c, C[i]? = some c := ⟨_, List.getElem?_eq_getElem (by omega)⟩
      obtain ⟨nm, N⟩ := c
      have hcc := hCj i hi _ hc
      have q0 : wr.cell? ⟨b, off + i * 2, none⟩ = some (.string nm) := (hbw.cell (p := ⟨b, off + i * 2, none⟩) hbB).trans (hcc 0 _ rfl)
      have q1 : wr.cell? ⟨b, off + i * 2 + 1, none⟩ = some (.string N) := (hbw.cell (p := ⟨b, off + i * 2 + 1, none⟩) hbB).trans (hcc 1 _ rfl)
      have g1 : (i : Int) < (n : Int) := by omega
      have g0 : (0 : Int) ≤ (i : Int) := by omega
      have g2 : (n : Int) ≤ 1000000 := by omega
      have HN := hide (fun V => right_any N 400 V (by omega))
      obtain ⟨bb, hbb⟩ : ∃ bb, (numT 400 N).isSome = bb := ⟨_, rfl⟩
      rw [hbb] at HN
      have hbad : (readP (nm, N)).isSome = false → (readR C K).isSome = false := fun h => by
        have h2 : readC C = none := readC_bad hc (by simpa using h)
        unfold readR
        rw [h2]
        cases numT 400 K <;> rfl
      have hgood : (readP (nm, N)).isSome = true → RI C (i + 1) := fun h => by
        obtain ⟨ps, hps⟩ := unhide hR
        obtain ⟨p, hp⟩ := Option.isSome_iff_exists.1 h
        exact ⟨ps ++ [p], by rw [readC_take hc, hps, hp]⟩
      rw [readP_some, hbb] at hbad hgood
      have HX := hide (And.intro hbad (And.intro hgood (And.intro hwr hbw)))
      clear hbA hhA hsA hC hnC hn hhr hbw hbB hCj hc hcc hbb hbad hgood hR hwr x1
      by_cases h0 : nm.size = 0
      · have e := empty_of h0
        subst e
        go_wp2
        go_ret
        obtain ⟨hbad, -, -, hbw⟩ := unhide HX
        rw [hbad (by have h9 : (⟨#[]⟩ : ByteArray).size = 0 := rfl
                     simp only [h9, decide_true, Bool.not_true, Bool.false_and])]
        exact ⟨rfl, hbw⟩
      · have hne := toList_ne h0
        have hne2 := isEmpty_ne h0
        by_cases h200 : 200 < nm.size
        · have g3 : (200 : Int) < (nm.size : Int) := by omega
          go_wp2
          go_ret
          obtain ⟨hbad, -, -, hbw⟩ := unhide HX
          rw [hbad (by simp [h200])]
          exact ⟨rfl, hbw⟩
        · have g3 : ¬ (200 : Int) < (nm.size : Int) := by omega
          have g4 : decide ((200 : Int) < (nm.size : Int)) = false := by simp; omega
          go_wp2_with fail
          refine (unhide HN _).mono ?_
          rintro e w4 ⟨rfl, hb4⟩
          have H4 := hide hb4
          clear hb4 HN q0 q1 x0
          cases bb with
          | false =>
            go_wp2
            go_ret
            obtain ⟨hbad, -, -, hbw⟩ := unhide HX
            rw [hbad (by simp)]
            exact ⟨rfl, hbw.trans ((unhide H4).mono hbw.size)⟩
          | true =>
            go_wp2
            obtain ⟨-, hgood, hwr, -⟩ := unhide HX
            refine ⟨⟨i + 1, by omega, by simp, hgood (by simp [h0, h200]), (unhide hwr).trans ((unhide H4).mono (unhide hwr).size)⟩, ?_⟩
            simp [intOf]
            omega
    · have gi : decide ((i : Int) < (n : Int)) = false := by simp; omega
      have g1 : ¬ ((i : Int) < (n : Int)) := by omega
      obtain rfl : i = n := by omega
      obtain ⟨ps, hps⟩ := unhide hR
      rw [hnC, List.take_length] at hps
      have hres : (readR C K).isSome = (numT 400 K).isSome := by
        unfold readR
        rw [hps]
        cases numT 400 K <;> rfl
      have HN := hide (fun V => right_any K 400 V (by omega))
      obtain ⟨bb, hbb⟩ : ∃ bb, (numT 400 K).isSome = bb := ⟨_, rfl⟩
      rw [hbb] at HN
      have HRes := hide (hres.trans hbb)
      have HB := hide hbw
      clear hbA hhA hsA hC hnC hn hhr hbw hps hres hR hwr hi hi0 hbb
      go_wp2_with fail
      refine (unhide HN _).mono ?_
      rintro e w4 ⟨rfl, hb4⟩
      have H4 := hide ((unhide HB).trans (hb4.mono (unhide HB).size))
      clear hb4 HN x0 x1
      go_wp2
      go_ret
      rw [unhide HRes]
      exact ⟨rfl, unhide H4⟩
end Go.Proofs.YthgdmppmjnmiiaaGreatDoor

namespace Go.Proofs.YthgdmppmjnmiiaaGreatDoor
open Go Go.RowKit Go.Maps
open _root_.Go.Proofs.YthgdmppmjnmiiaaGreatDoor.Nm (IsI IsN Ns pw)
def RsI (ls : List (List (ByteArray × ByteArray) × ByteArray)) (i : Nat) : Prop := ∃ rs, readL (ls.take i) = some rs
def BsI (bs : List ByteArray) (i : Nat) : Prop := ∃ ns, allO timesT (bs.take i) = some ns
def SDPost (ls : List (List (ByteArray × ByteArray) × ByteArray)) (bs : List ByteArray) (w : World) (e : Ending) (w' : World) : Prop := ∃ r, e = .returned (.tuple #[r, .bool (sumAll ls bs).isSome]) ∧ Below w.heap.size w w' ∧ (∃ a n c s, r = .agg #[.slice a n c, .string s]) ∧ (∀ q, sumAll ls bs = some q → ∃ nl : List ByteArray, SrtN nl ∧ (∀ z, z ∈ nl ↔ z ∈ nmsL ls) ∧ IsL w' w'.heap.size r (tellN q.1 nl) (bytesOf (Lib.itoa q.2))) ∧ (sumAll ls bs = none → r = .agg #[.slice none 0 0, .string ⟨#[]⟩])
theorem sd_no {ls : List (List (ByteArray × ByteArray) × ByteArray)} {bs : List ByteArray} {w W : World} (hn : sumAll ls bs = none) (hb : Below w.heap.size w W) (x y : Value) : SDPost ls bs w (.returned (.tuple #[.agg #[.slice none 0 0, .string ⟨#[]⟩], .bool false])) ((W.setCell ⟨w.heap.size, 0, none⟩ x).setCell ⟨w.heap.size, 1, none⟩ y) :=
  ⟨_, by rw [hn]; rfl, (put2 W w.heap.size x y).below hb (Nat.le_refl _), ⟨_, _, _, _, rfl⟩, (fun q hq => by rw [hn] at hq; cases hq), fun _ => rfl⟩
theorem sd_no0 {ls : List (List (ByteArray × ByteArray) × ByteArray)} {bs : List ByteArray} {w W : World} (hn : sumAll ls bs = none) (hb : Below w.heap.size w W) : SDPost ls bs w (.returned (.tuple #[.agg #[.slice none 0 0, .string ⟨#[]⟩], .bool false])) W :=
  ⟨_, by rw [hn]; rfl, hb, ⟨_, _, _, _, rfl⟩, (fun q hq => by rw [hn] at hq; cases hq), fun _ => rfl⟩
theorem allO_step {α β : Type} {f : α → Option β} {ls : List α} {rs : List β} {i : Nat} {l : α} {r : β} (h : ls[i]? = some l) (h1 : allO f (ls.take i) = some rs) (hf : f l = some r) : allO f (ls.take (i + 1)) = some (rs ++ [r]) := by
  rw [allO_take h, h1, hf]
theorem sumAll_long {ls : List (List (ByteArray × ByteArray) × ByteArray)} {bs : List ByteArray} (h : ls.length < bs.length) : sumAll ls bs = none := by
  unfold sumAll
  cases hr : readL ls with
  | none => rfl
  | some rs =>
    have hl : rs.length = ls.length := allO_len hr
    simp only [sumO]
    rw [if_pos (by omega)]
theorem sumAll_by {ls : List (List (ByteArray × ByteArray) × ByteArray)} {bs : List ByteArray} (h : allO timesT bs = none) : sumAll ls bs = none := by
  unfold sumAll
  cases readL ls with
  | none => rfl
  | some rs =>
    simp only [sumO]
    split
    · rfl
    · rw [h]
      rfl
theorem sumAll_row {ls : List (List (ByteArray × ByteArray) × ByteArray)} {bs : List ByteArray} (h : readL ls = none) : sumAll ls bs = none := by
  unfold sumAll
  rw [h]

theorem coefC_at : ∀ (l : List (ByteArray × ByteArray)) (j : Nat) (x : ByteArray × ByteArray), l[j]? = some x → (coefC l)[j * 2]? = some (.string x.1) ∧ (coefC l)[j * 2 + 1]? = some (.string x.2)
  | [], j, x, h => by simp at h
  | y :: l, 0, x, h => by
    have e : y = x := by simpa using h
    subst e
    exact ⟨rfl, rfl⟩
  | y :: l, j + 1, x, h => by
    have h2 := coefC_at l j x (by simpa using h)
    have e : coefC (y :: l) = .string y.1 :: .string y.2 :: coefC l := rfl
    have e1 : (j + 1) * 2 = j * 2 + 1 + 1 := by omega
    rw [e, e1]
    simpa using h2
theorem os_isP {V W W' : World} {R : Nat} {K : ByteArray} {l : List (ByteArray × ByteArray)} {v : Value} (hp : PutAt R W W') (os : OS V W K l v) (hR : R < V.heap.size) (hl : l.length ≤ 281474976710656) : IsL W' W'.heap.size (.agg #[v, .string K]) l K := by
  obtain ⟨a, c, rfl, hc, hcell⟩ := own_cells os.own
  refine ⟨a, l.length, c, rfl, rfl, hc, hl, fun h0 => ?_⟩
  obtain ⟨g, rfl, hg, hgs, hx⟩ := hcell h0
  refine ⟨g, 0, rfl, by rw [hp.size]; exact hgs, fun j hj x hxj => ?_⟩
  obtain ⟨c1, c2⟩ := coefC_at l j x hxj
  have e1 := hx _ _ c1
  have e2 := hx _ _ c2
  have hb := hp.block g (by omega)
  have hc : ∀ (o : Nat) y, W.cell? ⟨g, o, none⟩ = some y → W'.cell? ⟨g, o, none⟩ = some y := fun o y hy => by
    rw [← hy]
    simp only [World.cell?, hb]
  intro k u hu
  match k, hu with
  | 0, hu =>
    have e : .string x.1 = u := by simpa using hu
    subst e
    rw [Nat.zero_add]
    exact hc _ _ e1
  | 1, hu =>
    have e : .string x.2 = u := by simpa using hu
    subst e
    rw [Nat.zero_add]
    exact hc _ _ e2
  | k + 2, hu => simp at hu
theorem os_isL {V W : World} {R : Nat} {K : ByteArray} {l : List (ByteArray × ByteArray)} {v : Value} (os : OS V W K l v) (hR : R < V.heap.size) (hl : l.length ≤ 281474976710656) : IsL ((W.setCell ⟨R, 0, none⟩ v).setCell ⟨R, 1, none⟩ (.string K)) ((W.setCell ⟨R, 0, none⟩ v).setCell ⟨R, 1, none⟩ (.string K)).heap.size (.agg #[v, .string K]) l K := os_isP (put2 W R v (.string K)) os hR hl
theorem zip_take {α β : Type} : ∀ (rs : List α) (ns : List β), (rs.take ns.length).zip ns = rs.zip ns
  | [], ns => by simp
  | r :: rs, [] => by simp
  | r :: rs, n :: ns => by simp [zip_take rs ns]
theorem sumAll_yes {ls : List (List (ByteArray × ByteArray) × ByteArray)} {bs : List ByteArray} {rs : List (List (ByteArray × Int) × Int)} {ns : List Int} (hle : bs.length ≤ ls.length) (hr : readL ls = some rs) (hn : allO timesT bs = some ns) : sumAll ls bs = some (sumN rs ns) := by
  have hl : rs.length = ls.length := allO_len hr
  unfold sumAll
  rw [hr]
  simp only [sumO]
  rw [if_neg (by omega), hn]
  rfl
theorem sd_yes {ls : List (List (ByteArray × ByteArray) × ByteArray)} {bs nl : List ByteArray} {rs : List (List (ByteArray × Int) × Int)} {ns : List Int} {w wr w6 W7 : World} {v : Value} {KT : ByteArray} (hle : bs.length ≤ ls.length) (hr : readL ls = some rs) (hn : allO timesT bs = some ns) (hw : lwt ls ≤ 100) (hbq : Below w.heap.size w wr) (hR : w.heap.size < wr.heap.size) (hs : SrtN nl) (hm : ∀ z, z ∈ nl ↔ z ∈ nmsL ls) (hb6 : Below wr.heap.size wr w6) (os : OS w6 W7 KT (tellN (sumC (rs.take ns.length) ns) nl) v) (hK : KT = bytesOf (Lib.itoa (sumK (rs.take ns.length) ns))) : SDPost ls bs w (.returned (.tuple #[.agg #[v, .string KT], .bool true])) ((W7.setCell ⟨w.heap.size, 0, none⟩ v).setCell ⟨w.heap.size, 1, none⟩ (.string KT)) := by
  have hq := sumAll_yes hle hr hn
  have s6 := hb6.size
  have hb7 : Below w.heap.size w W7 := hbq.trans ((hb6.mono (by omega)).trans (os.lo.mono (by omega)))
  have eC : sumC (rs.take ns.length) ns = (sumN rs ns).1 := by
    funext s
    rw [sumN_C]
    unfold sumC
    rw [zip_take]
  have eK : sumK (rs.take ns.length) ns = (sumN rs ns).2 := by
    rw [sumN_K]
    unfold sumK
    rw [zip_take]
  rw [eC] at os
  rw [eK] at hK
  have hml : nl.length ≤ 100 := Nat.le_trans (srt_len hs fun z hz => (hm z).1 hz) (Nat.le_trans (nms_len ls) hw)
  have htl : (tellN (sumN rs ns).1 nl).length ≤ nl.length := by
    unfold tellN
    rw [List.length_map]
    exact List.length_filter_le _ _
  have hI := os_isL (R := w.heap.size) os (by omega) (by omega)
  obtain ⟨a, n, c, e, -⟩ := hI
  have hI := os_isL (R := w.heap.size) os (by omega) (by omega)
  refine ⟨_, by rw [hq]; rfl, (put2 W7 w.heap.size _ _).below hb7 (Nat.le_refl _), ⟨a, n, c, KT, e⟩, fun q hqq => ?_, fun h => by rw [hq] at h; cases h⟩
  rw [hq] at hqq
  obtain rfl := Option.some.inj hqq
  refine ⟨nl, hs, hm, ?_⟩
  rw [← hK]
  exact hI
end Go.Proofs.YthgdmppmjnmiiaaGreatDoor
