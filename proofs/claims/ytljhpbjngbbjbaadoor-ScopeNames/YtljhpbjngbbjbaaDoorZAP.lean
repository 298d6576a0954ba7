/- The document's parser: its parameters. -/
import Derived.Test.YtljhpbjngbbjbaaDoorZAO
set_option linter.unusedVariables false
set_option linter.unusedSimpArgs false

/- The document's parser: its effect, its type. -/
namespace Go.Proofs.YtljhpbjngbbjbaaDoor
open Go Go.RowKit
def effM (ts : List (Int × ByteArray × Int)) (d : De) (st : PS) : De × PS := if d.eff = 0 then typM ts d (st.fail (tD ts st).2.2 150) else typM ts d st
/-- The rest of the rule from its effect on. -/
def deff_ofS (ts : List (Int × ByteArray × Int)) (M : De → PS → De × PS) (k : Nat) (r dd : Nat) : Prop := ∀ (w W : World) (S : PS) (d : De) (x : DeV) (x4 x5 x6 x7 x8 x9 x10 x11 x12 x13 x14 x15 x16 x17 x18 x19 x20 x21 x22 x23 x24 x25 x26 x27 x28 x29 x30 x31 x32 x33 x34 x35 x36 x37 x38 x39 x40 x41 x42 x43 x44 x45 x46 x47 x48 x49 x50 x51 x52 x53 x54 x55 x56 x57 x58 x59 x60 x61 x62 x63 x64 x65 x66 x67 x68 x69 x70 x71 x72 x73 x74 x75 x76 x77 x78 x79 x80 x81 x82 x83 x84 x85 x86 x87 x88 x89 x90 x91 x92 x93 x94 x95 x96 x97 x98 x99 x100 x101 x102 x103 x104 x105 x106 x107 x108 x109 x110 x111 x112 x113 x114 x115 x116 x117 x118 x119 x120 x121 x122 x123 x124 x125 x126 x127 x128 x129 x130 x131 x132 x133 x134 x135 x136 x137 x138 x139 x140 x141 x142 x143 x144 x145 x146 x147 x148 x149 x150 x151 x152 x153 x154 x155 x156 x157 x158 x159 x160 x161 x162 x163 x164 x165 x166 x167 x168 x169 x170 x171 x172 x173 x174 x175 x176 x177 x178 x179 x180 x181 x182 x183 x184 x185 x186 : Value) (QQ : Exit → Act → World → Prop), DI w r d x W → PD W r ts S dd → bodyPost Tryd.prog Tryd.f36 (DDe (M d S) r ts dd w) = QQ → Code.wp Tryd.prog (dR k Tryd.f36) QQ { tmps := #[.pointer (some ⟨r, 0, none⟩), undef, .pointer (some ⟨w.heap.size, 0, none⟩), .pointer (some ⟨w.heap.size + 1, 0, none⟩), x4, x5, x6, x7, x8, x9, x10, x11, x12, x13, x14, x15, x16, x17, x18, x19, x20, x21, x22, x23, x24, x25, x26, x27, x28, x29, x30, x31, x32, x33, x34, x35, x36, x37, x38, x39, x40, x41, x42, x43, x44, x45, x46, x47, x48, x49, x50, x51, x52, x53, x54, x55, x56, x57, x58, x59, x60, x61, x62, x63, x64, x65, x66, x67, x68, x69, x70, x71, x72, x73, x74, x75, x76, x77, x78, x79, x80, x81, x82, x83, x84, x85, x86, x87, x88, x89, x90, x91, x92, x93, x94, x95, x96, x97, x98, x99, x100, x101, x102, x103, x104, x105, x106, x107, x108, x109, x110, x111, x112, x113, x114, x115, x116, x117, x118, x119, x120, x121, x122, x123, x124, x125, x126, x127, x128, x129, x130, x131, x132, x133, x134, x135, x136, x137, x138, x139, x140, x141, x142, x143, x144, x145, x146, x147, x148, x149, x150, x151, x152, x153, x154, x155, x156, x157, x158, x159, x160, x161, x162, x163, x164, x165, x166, x167, x168, x169, x170, x171, x172, x173, x174, x175, x176, x177, x178, x179, x180, x181, x182, x183, x184, x185, x186], defers := [] } W
set_option maxRecDepth 100000 in
set_option maxHeartbeats 16000000 in
theorem deff_of {r dd : Nat} {ts : List (Int × ByteArray × Int)} (hT : TsOk ts) (hE : DcC 54 r ts dd (exD ts)) (hN : dend_ofS ts (reqM ts) 13 r dd) : deff_ofS ts (effM ts) 11 r dd := by
  intro w W S d x x4 x5 x6 x7 x8 x9 x10 x11 x12 x13 x14 x15 x16 x17 x18 x19 x20 x21 x22 x23 x24 x25 x26 x27 x28 x29 x30 x31 x32 x33 x34 x35 x36 x37 x38 x39 x40 x41 x42 x43 x44 x45 x46 x47 x48 x49 x50 x51 x52 x53 x54 x55 x56 x57 x58 x59 x60 x61 x62 x63 x64 x65 x66 x67 x68 x69 x70 x71 x72 x73 x74 x75 x76 x77 x78 x79 x80 x81 x82 x83 x84 x85 x86 x87 x88 x89 x90 x91 x92 x93 x94 x95 x96 x97 x98 x99 x100 x101 x102 x103 x104 x105 x106 x107 x108 x109 x110 x111 x112 x113 x114 x115 x116 x117 x118 x119 x120 x121 x122 x123 x124 x125 x126 x127 x128 x129 x130 x131 x132 x133 x134 x135 x136 x137 x138 x139 x140 x141 x142 x143 x144 x145 x146 x147 x148 x149 x150 x151 x152 x153 x154 x155 x156 x157 x158 x159 x160 x161 x162 x163 x164 x165 x166 x167 x168 x169 x170 x171 x172 x173 x174 x175 x176 x177 x178 x179 x180 x181 x182 x183 x184 x185 x186 QQ hI hR hQ
  obtain ⟨Y, hY⟩ : ∃ Y, effM ts d S = Y := ⟨_, rfl⟩
  rw [hY] at hQ
  unfold effM at hY
  have hr := hI.rlt
  have HI := hide hI
  have HR := hide hR
  have HT := hide hT
  have HY := hide hY
  have HQQ := hide hQ
  replace hE := hide hE
  have hrq : r ≠ w.heap.size + 1 := by omega
  clear hI hR hT hY hQ
  conv => arg 2; whnf
  replace hN := hide hN
  have e5 := (blk (unhide HI).b).2.1 5 _ rfl
  replace e5 : W.cell? ⟨w.heap.size + 1, 5, none⟩ = some (.int .i64 d.eff) := e5
  by_cases h0 : d.eff = 0
  · have hY0 := unhide HY
    simp only [if_pos h0] at hY0
    replace HY := hide hY0
    clear hY0
    rw [h0] at e5
    clear h0
    have HC1 := hide (dt_any (unhide HR) (unhide HT))
    unfold tkV at HC1
    obtain ⟨⟨kk1, T1, at1⟩, hN1⟩ : ∃ X, tD ts (S) = X := ⟨_, rfl⟩
    rw [hN1] at HC1
    have HN1 := hide hN1
    have hf21 := fld2 (.int .i64 kk1) (.string T1) (.int .i64 at1)
    clear hN1
    go_wp2_with fail
    refine (unhide HC1).mono ?_
    rintro e w1 ⟨rfl, hb1⟩
    have hY2 := unhide HY
    simp only [unhide HN1] at hY2
    replace HY := hide hY2
    clear hY2
    have hbu3 := But.of (r := r) hb1
    replace HR := hide ((unhide HR).keep hb1)
    replace HI := hide ((unhide HI).but' hbu3)
    clear hb1 HC1
    clear e5
    obtain ⟨S4, hS4⟩ : ∃ Z9, (S).fail at1 150 = Z9 := ⟨_, rfl⟩
    have HC4 := hide (fail_any (unhide HR) at1 150)
    rw [hS4] at HC4
    have HS4 := hide hS4
    clear hS4
    go_wp2_with fail
    refine (unhide HC4).mono ?_
    rintro e w4 ⟨rfl, hb4, hR4⟩
    have hY5 := unhide HY
    simp only [unhide HS4] at hY5
    replace HY := hide hY5
    clear hY5
    replace HI := hide ((unhide HI).but' hb4)
    replace HR := hide hR4
    clear hb4 hR4 HC4 HS4
    have hY6 := unhide HY
    unfold typM at hY6
    replace HY := hide hY6
    clear hY6
    have HC7 := hide (dtyp_of (unhide HT) (unhide hE) w4 (S4) (unhide HR))
    obtain ⟨⟨t7, S7⟩, hX7⟩ : ∃ X, typD ts (S4) = X := ⟨_, rfl⟩
    rw [hX7] at HC7
    have HX7 := hide hX7
    have hlo7 : w.heap.size + 2 ≤ w4.heap.size := (by have := (blk (unhide HI).b).1; omega)
    clear hX7
    go_wp2_with fail
    rename_i KJ hJ K1 h1
    replace hJ := hide hJ
    refine (unhide HC7).mono ?_
    rintro e w7 ⟨hb7, hR7, v7, rfl, hv7⟩
    have hY8 := unhide HY
    simp only [unhide HX7] at hY8
    replace HY := hide hY8
    clear hY8
    obtain ⟨a7, n7, c7, rfl, hv7⟩ := hv7
    have HT7 := hide (hv7.keep (lo' := w.heap.size + 2) (Stays.of (Below.refl _ _)) hlo7)
    replace HI := hide ((unhide HI).but' hb7)
    replace HR := hide hR7
    clear hb7 hR7 hv7 HC7 HX7 hlo7
    have st9_0 := (blk (unhide HI).b).2.1 6 _ rfl
    have sz9_0 := (blk (unhide HI).b).2.2 6
    have st9_1 := (blk (unhide HI).b).2.1 7 _ rfl
    have sz9_1 := (blk (unhide HI).b).2.2 7
    have st9_2 := (blk (unhide HI).b).2.1 8 _ rfl
    have sz9_2 := (blk (unhide HI).b).2.2 8
    have st9_3 := (blk (unhide HI).b).2.1 9 _ rfl
    have sz9_3 := (blk (unhide HI).b).2.2 9
    obtain ⟨V9, eV9⟩ : ∃ V, ((((w7.setCell ⟨w.heap.size + 1, 6, none⟩ (.int .i64 t7.kind)).setCell ⟨w.heap.size + 1, 7, none⟩ (.string t7.name)).setCell ⟨w.heap.size + 1, 8, none⟩ (.slice a7 n7 c7)).setCell ⟨w.heap.size + 1, 9, none⟩ (.int .i64 t7.at')) = V := ⟨_, rfl⟩
    have eN9 : setN w7 (w.heap.size + 1) 6 [.int .i64 t7.kind, .string t7.name, .slice a7 n7 c7, .int .i64 t7.at'] = V9 := eV9
    have hD9 : DI w r ({ d with t := t7 }) ({ x with ta := a7, tn := n7, tc := c7 }) V9 := by rw [← eN9]; exact (unhide HI).set 6 [.int .i64 t7.kind, .string t7.name, .slice a7 n7 c7, .int .i64 t7.at'] (show 6 + 4 ≤ 22 by decide) rfl ⟨(unhide HI).inn.ps, (unhide HT7), (unhide HI).inn.req, (unhide HI).inn.ens, (unhide HI).inn.mea, (unhide HI).inn.body⟩
    have hR9 : PD V9 r ts (S7) dd := by rw [← eN9]; exact (unhide HR).setN (by omega) 6 [.int .i64 t7.kind, .string t7.name, .slice a7 n7 c7, .int .i64 t7.at']
    replace HT7 := hide (eN9 ▸ (unhide HT7).keep (Stays.setN [.int .i64 t7.kind, .string t7.name, .slice a7 n7 c7, .int .i64 t7.at'] w7 6 (Stays.of (Below.refl _ _)) (by omega)) (Nat.le_refl _))
    replace HI := hide hD9
    replace HR := hide hR9
    have HEV9 := hide eV9
    clear eV9 eN9 hD9 hR9
    go_wp2_with fail
    rw [unhide HEV9]
    refine unhide hJ _ _ ?_
    exact (unhide hN) w _ _ _ _ _ _ _ _ _ _ _ _ _ _ _ _ _ _ _ _ _ _ _ _ _ _ _ _ _ _ _ _ _ _ _ _ _ _ _ _ _ _ _ _ _ _ _ _ _ _ _ _ _ _ _ _ _ _ _ _ _ _ _ _ _ _ _ _ _ _ _ _ _ _ _ _ _ _ _ _ _ _ _ _ _ _ _ _ _ _ _ _ _ _ _ _ _ _ _ _ _ _ _ _ _ _ _ _ _ _ _ _ _ _ _ _ _ _ _ _ _ _ _ _ _ _ _ _ _ _ _ _ _ _ _ _ _ _ _ _ _ _ _ _ _ _ _ _ _ _ _ _ _ _ _ _ _ _ _ _ _ _ _ _ _ _ _ _ _ _ _ _ _ _ _ _ _ _ _ _ _ _ _ _ _ _ _ _ (unhide HI) (unhide HR) (by rw [unhide HY]; exact unhide HQQ)
  · have hY10 := unhide HY
    simp only [if_neg h0] at hY10
    replace HY := hide hY10
    clear hY10
    have n0 : (d.eff == 0) = false := by simpa using h0
    have n1 : decide (d.eff = 0) = false := by simpa using h0
    clear h0
    have hY11 := unhide HY
    unfold typM at hY11
    replace HY := hide hY11
    clear hY11
    have HC12 := hide (dtyp_of (unhide HT) (unhide hE) W (S) (unhide HR))
    obtain ⟨⟨t12, S12⟩, hX12⟩ : ∃ X, typD ts (S) = X := ⟨_, rfl⟩
    rw [hX12] at HC12
    have HX12 := hide hX12
    have hlo12 : w.heap.size + 2 ≤ W.heap.size := (by have := (blk (unhide HI).b).1; omega)
    clear hX12
    go_wp2_with fail
    rename_i KJ hJ K1 h1
    replace hJ := hide hJ
    refine (unhide HC12).mono ?_
    rintro e w12 ⟨hb12, hR12, v12, rfl, hv12⟩
    have hY13 := unhide HY
    simp only [unhide HX12] at hY13
    replace HY := hide hY13
    clear hY13
    obtain ⟨a12, n12, c12, rfl, hv12⟩ := hv12
    have HT12 := hide (hv12.keep (lo' := w.heap.size + 2) (Stays.of (Below.refl _ _)) hlo12)
    replace HI := hide ((unhide HI).but' hb12)
    replace HR := hide hR12
    clear hb12 hR12 hv12 HC12 HX12 hlo12
    have st14_0 := (blk (unhide HI).b).2.1 6 _ rfl
    have sz14_0 := (blk (unhide HI).b).2.2 6
    have st14_1 := (blk (unhide HI).b).2.1 7 _ rfl
    have sz14_1 := (blk (unhide HI).b).2.2 7
    have st14_2 := (blk (unhide HI).b).2.1 8 _ rfl
    have sz14_2 := (blk (unhide HI).b).2.2 8
    have st14_3 := (blk (unhide HI).b).2.1 9 _ rfl
    have sz14_3 := (blk (unhide HI).b).2.2 9
    obtain ⟨V14, eV14⟩ : ∃ V, ((((w12.setCell ⟨w.heap.size + 1, 6, none⟩ (.int .i64 t12.kind)).setCell ⟨w.heap.size + 1, 7, none⟩ (.string t12.name)).setCell ⟨w.heap.size + 1, 8, none⟩ (.slice a12 n12 c12)).setCell ⟨w.heap.size + 1, 9, none⟩ (.int .i64 t12.at')) = V := ⟨_, rfl⟩
    have eN14 : setN w12 (w.heap.size + 1) 6 [.int .i64 t12.kind, .string t12.name, .slice a12 n12 c12, .int .i64 t12.at'] = V14 := eV14
    have hD14 : DI w r ({ d with t := t12 }) ({ x with ta := a12, tn := n12, tc := c12 }) V14 := by rw [← eN14]; exact (unhide HI).set 6 [.int .i64 t12.kind, .string t12.name, .slice a12 n12 c12, .int .i64 t12.at'] (show 6 + 4 ≤ 22 by decide) rfl ⟨(unhide HI).inn.ps, (unhide HT12), (unhide HI).inn.req, (unhide HI).inn.ens, (unhide HI).inn.mea, (unhide HI).inn.body⟩
    have hR14 : PD V14 r ts (S12) dd := by rw [← eN14]; exact (unhide HR).setN (by omega) 6 [.int .i64 t12.kind, .string t12.name, .slice a12 n12 c12, .int .i64 t12.at']
    replace HT12 := hide (eN14 ▸ (unhide HT12).keep (Stays.setN [.int .i64 t12.kind, .string t12.name, .slice a12 n12 c12, .int .i64 t12.at'] w12 6 (Stays.of (Below.refl _ _)) (by omega)) (Nat.le_refl _))
    replace HI := hide hD14
    replace HR := hide hR14
    have HEV14 := hide eV14
    clear eV14 eN14 hD14 hR14
    go_wp2_with fail
    rw [unhide HEV14]
    refine unhide hJ _ _ ?_
    exact (unhide hN) w _ _ _ _ _ _ _ _ _ _ _ _ _ _ _ _ _ _ _ _ _ _ _ _ _ _ _ _ _ _ _ _ _ _ _ _ _ _ _ _ _ _ _ _ _ _ _ _ _ _ _ _ _ _ _ _ _ _ _ _ _ _ _ _ _ _ _ _ _ _ _ _ _ _ _ _ _ _ _ _ _ _ _ _ _ _ _ _ _ _ _ _ _ _ _ _ _ _ _ _ _ _ _ _ _ _ _ _ _ _ _ _ _ _ _ _ _ _ _ _ _ _ _ _ _ _ _ _ _ _ _ _ _ _ _ _ _ _ _ _ _ _ _ _ _ _ _ _ _ _ _ _ _ _ _ _ _ _ _ _ _ _ _ _ _ _ _ _ _ _ _ _ _ _ _ _ _ _ _ _ _ _ _ _ _ _ _ _ (unhide HI) (unhide HR) (by rw [unhide HY]; exact unhide HQQ)
end Go.Proofs.YtljhpbjngbbjbaaDoor

/- The document's parser: the colon, the effects. -/
namespace Go.Proofs.YtljhpbjngbbjbaaDoor
open Go Go.RowKit
def effS : Nat → ByteArray
  | 0 => ⟨#[80, 117, 114, 101]⟩
  | 1 => ⟨#[83, 116, 97, 116, 101]⟩
  | 2 => ⟨#[69, 120, 110]⟩
  | 3 => ⟨#[65, 108, 108]⟩
  | _ => ⟨#[68, 105, 118]⟩
def effL (ts : List (Int × ByteArray × Int)) (d : De) (st : PS) : De × PS := if d.eff = 0 then (match signD ts effsD st with
  | some o => effM ts { d with eff := o } (stepD ts st)
  | none => effM ts d st) else effM ts d st
def colM (ts : List (Int × ByteArray × Int)) (d : De) (st : PS) : De × PS := effL ts d (mustD ts ⟨#[58]⟩ st)
theorem eff_cell {W : World} {q i : Nat} (hi : i < 5) (h : W.heap[q]? = some (.cells #[.string ⟨#[80, 117, 114, 101]⟩, .string ⟨#[83, 116, 97, 116, 101]⟩, .string ⟨#[69, 120, 110]⟩, .string ⟨#[65, 108, 108]⟩, .string ⟨#[68, 105, 118]⟩] 9)) : W.cell? ⟨q, i, none⟩ = some (.string (effS i)) := by
  rcases i with _ | _ | _ | _ | _ | i
  all_goals first | exact (blk h).2.1 _ _ rfl | omega
theorem effs_at {i : Nat} (hi : i < 5) : effsD[i]? = some (effS i, (i : Int) + 1) := by
  rcases i with _ | _ | _ | _ | _ | i
  all_goals first | rfl | omega
/-- The rest of the rule from the colon on. -/
def dcol_ofS (ts : List (Int × ByteArray × Int)) (M : De → PS → De × PS) (k : Nat) (r dd : Nat) : Prop := ∀ (w W : World) (S : PS) (d : De) (x : DeV) (x4 x5 x6 x7 x8 x9 x10 x11 x12 x13 x14 x15 x16 x17 x18 x19 x20 x21 x22 x23 x24 x25 x26 x27 x28 x29 x30 x31 x32 x33 x34 x35 x36 x37 x38 x39 x40 x41 x42 x43 x44 x45 x46 x47 x48 x49 x50 x51 x52 x53 x54 x55 x56 x57 x58 x59 x60 x61 x62 x63 x64 x65 x66 x67 x68 x69 x70 x71 x72 x73 x74 x75 x76 x77 x78 x79 x80 x81 x82 x83 x84 x85 x86 x87 x88 x89 x90 x91 x92 x93 x94 x95 x96 x97 x98 x99 x100 x101 x102 x103 x104 x105 x106 x107 x108 x109 x110 x111 x112 x113 x114 x115 x116 x117 x118 x119 x120 x121 x122 x123 x124 x125 x126 x127 x128 x129 x130 x131 x132 x133 x134 x135 x136 x137 x138 x139 x140 x141 x142 x143 x144 x145 x146 x147 x148 x149 x150 x151 x152 x153 x154 x155 x156 x157 x158 x159 x160 x161 x162 x163 x164 x165 x166 x167 x168 x169 x170 x171 x172 x173 x174 x175 x176 x177 x178 x179 x180 x181 x182 x183 x184 x185 x186 : Value) (QQ : Exit → Act → World → Prop), DI w r d x W → PD W r ts S dd → bodyPost Tryd.prog Tryd.f36 (DDe (M d S) r ts dd w) = QQ → Code.wp Tryd.prog (dR k Tryd.f36) QQ { tmps := #[.pointer (some ⟨r, 0, none⟩), undef, .pointer (some ⟨w.heap.size, 0, none⟩), .pointer (some ⟨w.heap.size + 1, 0, none⟩), x4, x5, x6, x7, x8, x9, x10, x11, x12, x13, x14, x15, x16, x17, x18, x19, x20, x21, x22, x23, x24, x25, x26, x27, x28, x29, x30, x31, x32, x33, x34, x35, x36, x37, x38, x39, x40, x41, x42, x43, x44, x45, x46, x47, x48, x49, x50, x51, x52, x53, x54, x55, x56, x57, x58, x59, x60, x61, x62, x63, x64, x65, x66, x67, x68, x69, x70, x71, x72, x73, x74, x75, x76, x77, x78, x79, x80, x81, x82, x83, x84, x85, x86, x87, x88, x89, x90, x91, x92, x93, x94, x95, x96, x97, x98, x99, x100, x101, x102, x103, x104, x105, x106, x107, x108, x109, x110, x111, x112, x113, x114, x115, x116, x117, x118, x119, x120, x121, x122, x123, x124, x125, x126, x127, x128, x129, x130, x131, x132, x133, x134, x135, x136, x137, x138, x139, x140, x141, x142, x143, x144, x145, x146, x147, x148, x149, x150, x151, x152, x153, x154, x155, x156, x157, x158, x159, x160, x161, x162, x163, x164, x165, x166, x167, x168, x169, x170, x171, x172, x173, x174, x175, x176, x177, x178, x179, x180, x181, x182, x183, x184, x185, x186], defers := [] } W
set_option maxRecDepth 100000 in
set_option maxHeartbeats 16000000 in
theorem dcol_of {r dd : Nat} {ts : List (Int × ByteArray × Int)} (hT : TsOk ts) (hE : DcC 54 r ts dd (exD ts)) (hN : dend_ofS ts (effM ts) 11 r dd) : dcol_ofS ts (colM ts) 8 r dd := by
  intro w W S d x x4 x5 x6 x7 x8 x9 x10 x11 x12 x13 x14 x15 x16 x17 x18 x19 x20 x21 x22 x23 x24 x25 x26 x27 x28 x29 x30 x31 x32 x33 x34 x35 x36 x37 x38 x39 x40 x41 x42 x43 x44 x45 x46 x47 x48 x49 x50 x51 x52 x53 x54 x55 x56 x57 x58 x59 x60 x61 x62 x63 x64 x65 x66 x67 x68 x69 x70 x71 x72 x73 x74 x75 x76 x77 x78 x79 x80 x81 x82 x83 x84 x85 x86 x87 x88 x89 x90 x91 x92 x93 x94 x95 x96 x97 x98 x99 x100 x101 x102 x103 x104 x105 x106 x107 x108 x109 x110 x111 x112 x113 x114 x115 x116 x117 x118 x119 x120 x121 x122 x123 x124 x125 x126 x127 x128 x129 x130 x131 x132 x133 x134 x135 x136 x137 x138 x139 x140 x141 x142 x143 x144 x145 x146 x147 x148 x149 x150 x151 x152 x153 x154 x155 x156 x157 x158 x159 x160 x161 x162 x163 x164 x165 x166 x167 x168 x169 x170 x171 x172 x173 x174 x175 x176 x177 x178 x179 x180 x181 x182 x183 x184 x185 x186 QQ hI hR hQ
  obtain ⟨Y, hY⟩ : ∃ Y, colM ts d S = Y := ⟨_, rfl⟩
  rw [hY] at hQ
  unfold colM at hY
  have hr := hI.rlt
  have HI := hide hI
  have HR := hide hR
  have HT := hide hT
  have HY := hide hY
  have HQQ := hide hQ
  replace hE := hide hE
  have hrq : r ≠ w.heap.size + 1 := by omega
  clear hI hR hT hY hQ
  conv => arg 2; whnf
  replace hN := hide hN
  obtain ⟨S0, hS0⟩ : ∃ Z9, mustD ts ⟨#[58]⟩ (S) = Z9 := ⟨_, rfl⟩
  have HC0 := hide (dmust_any (unhide HR) (unhide HT) ⟨#[58]⟩)
  rw [hS0] at HC0
  have HS0 := hide hS0
  clear hS0
  go_wp2_with fail
  refine (unhide HC0).mono ?_
  rintro e w0 ⟨rfl, hb0, hR0⟩
  have hY1 := unhide HY
  simp only [unhide HS0] at hY1
  replace HY := hide hY1
  clear hY1
  replace HI := hide ((unhide HI).but' hb0)
  replace HR := hide hR0
  clear hb0 hR0 HC0 HS0
  obtain ⟨B2, eB2, hbB2, hsB2, hhB2⟩ := box_new w0 #[.string ⟨#[80, 117, 114, 101]⟩, .string ⟨#[83, 116, 97, 116, 101]⟩, .string ⟨#[69, 120, 110]⟩, .string ⟨#[65, 108, 108]⟩, .string ⟨#[68, 105, 118]⟩] 9
  have ne2 : r ≠ w0.heap.size := by have := (blk (unhide HI).b).1; omega
  have hq2 : w.heap.size + 1 < w0.heap.size := (blk (unhide HI).b).1
  have hbu3 := But.of (r := r) hbB2
  replace HR := hide ((unhide HR).keep hbB2)
  replace HI := hide ((unhide HI).but' hbu3)
  have HX2 := hide hhB2
  have HEB2 := hide eB2
  have HSB2 := hide hsB2
  clear eB2 hbB2 hhB2 hsB2
  go_wp2_with fail
  rw [unhide HEB2]
  rename_i KJ hJ
  replace hJ := hide hJ
  have hq5 := (blk (unhide HX2)).1
  obtain ⟨q, hq⟩ : ∃ q, w0.heap.size = q := ⟨_, rfl⟩
  have hTab0 := unhide HX2
  rw [hq] at hTab0
  have hrq2 : r ≠ q := by rw [← hq]; exact ne2
  have hqb : w.heap.size + 1 < q := by rw [← hq]; exact hq2
  have HQ2 := hide hq
  have hST : Hid ((d = d ∧ d.eff = 0 ∧ S0 = S0 ∧ ∀ (j : Nat) s o, j < 0 → effsD[j]? = some (s, o) → isD ts s S0 = false) ∨ (d.eff ≠ 0 ∧ effM ts d S0 = Y)) := by
    by_cases h0 : d.eff = 0
    · exact .inl ⟨rfl, h0, rfl, fun j s o hj => by omega⟩
    · have h := unhide HY
      unfold effL at h
      rw [if_neg h0] at h
      exact .inr ⟨h0, h⟩
  have HTab := hide hTab0
  clear hq hTab0 hq5
  rw [unhide HQ2]
  go_loopw [11] (fun iv wr => ∃ (i : Nat) (d' : De) (S' : PS), i ≤ 5 ∧ iv = .int .i64 i ∧ Hid (DI w r d' x wr) ∧ Hid (PD wr r ts S' dd) ∧ Hid (wr.heap[q]? = some (.cells #[.string ⟨#[80, 117, 114, 101]⟩, .string ⟨#[83, 116, 97, 116, 101]⟩, .string ⟨#[69, 120, 110]⟩, .string ⟨#[65, 108, 108]⟩, .string ⟨#[68, 105, 118]⟩] 9)) ∧ Hid ((d' = d ∧ d.eff = 0 ∧ S' = S0 ∧ ∀ (j : Nat) s o, j < i → effsD[j]? = some (s, o) → isD ts s S0 = false) ∨ (d'.eff ≠ 0 ∧ effM ts d' S' = Y))) (fun iv _ => 5 - (intOf iv).toNat)
  case atStart => exact ⟨0, d, S0, Nat.zero_le _, rfl, HI, HR, HTab, hST⟩
  case round =>
    obtain ⟨i, d', S', hi5, rfl, hDI, hPD, hTab, hst⟩ := hrel
    have e5 := (blk (unhide hDI).b).2.1 5 _ rfl
    replace e5 : wr.cell? ⟨w.heap.size + 1, 5, none⟩ = some (.int .i64 d'.eff) := e5
    have gi0 : (0 : Int) ≤ (i : Int) := by omega
    by_cases hi : i < 5
    · have ci := eff_cell hi (unhide hTab)
      have gi : (i : Int) < 5 := by omega
      by_cases h0 : d'.eff = 0
      · have hst2 : d' = d ∧ d.eff = 0 ∧ S' = S0 ∧ ∀ (j : Nat) s o, j < i → effsD[j]? = some (s, o) → isD ts s S0 = false := by
          rcases unhide hst with h | h
          · exact h
          · exact absurd h0 h.1
        obtain ⟨rfl, -, rfl, hno⟩ := hst2
        obtain ⟨es, hes⟩ : ∃ x, effS i = x := ⟨_, rfl⟩
        have HC := hide (eat_any (unhide hPD) (unhide HT) es)
        obtain ⟨bo, hbo⟩ : ∃ b, isD ts es S' = b := ⟨_, rfl⟩
        unfold eatD at HC
        rw [hbo] at HC
        rw [hes] at ci
        have HO := hide hbo
        have HES := hide hes
        have HNO := hide hno
        have H0 := hide h0
        rw [h0] at e5
        replace hi5 := hide hi5
        replace hi := hide hi
        clear hbo hes hno h0 hst
        go_wp2_with fail
        refine (unhide HC).mono ?_
        rintro e w9 ⟨rfl, hb9, hR9⟩
        have hD9 := (unhide hDI).but' hb9
        have hT9 := (hb9.block q (blk (unhide hTab)).1 (Ne.symm hrq2)).trans (unhide hTab)
        have HT9 := hide hT9
        have HD9 := hide hD9
        clear hb9 HC hT9 e5 ci hDI hPD hTab
        rcases bo with _ | _
        · rw [if_neg Bool.false_ne_true] at hR9
          have HR9 := hide hR9
          clear hR9 hD9
          go_wp2
          refine ⟨⟨i + 1, d', S', by have := unhide hi; omega, by simp, HD9, HR9, HT9, .inl ⟨rfl, unhide H0, rfl, fun j s o hj hs => ?_⟩⟩, ?_⟩
          · rcases Nat.lt_or_ge j i with h | h
            · exact unhide HNO j s o h hs
            · obtain rfl : j = i := by omega
              rw [effs_at (unhide hi)] at hs
              obtain ⟨rfl, rfl⟩ : effS j = s ∧ (j : Int) + 1 = o := by simpa using hs
              rw [unhide HES]
              exact unhide HO
          · have := unhide hi
            simp [intOf]; omega
        · rw [if_pos rfl] at hR9
          have y5 := (blk hD9.b).2.1 5 _ rfl
          have z5 := (blk hD9.b).2.2 5
          have gw : IntKind.i64.wrap (1 + (i : Int)) = 1 + (i : Int) := by
            have := unhide hi
            simp only [IntKind.wrap_i64]
            omega
          obtain ⟨V, hV⟩ : ∃ V, w9.setCell ⟨w.heap.size + 1, 5, none⟩ (.int .i64 (1 + (i : Int))) = V := ⟨_, rfl⟩
          have hN9 : setN w9 (w.heap.size + 1) 5 [.int .i64 (1 + (i : Int))] = V := hV
          have HDV : Hid (DI w r { d' with eff := 1 + (i : Int) } x V) := by
            show DI _ _ _ _ _
            rw [← hN9]
            exact hD9.set 5 [.int .i64 (1 + (i : Int))] (show 5 + 1 ≤ 22 by decide) rfl ⟨hD9.inn.ps, hD9.inn.ty, hD9.inn.req, hD9.inn.ens, hD9.inn.mea, hD9.inn.body⟩
          have HRV : Hid (PD V r ts (stepD ts S') dd) := by
            show PD _ _ _ _ _
            rw [← hN9]
            exact hR9.setN (by omega) 5 [.int .i64 (1 + (i : Int))]
          have HTV : Hid (V.heap[q]? = some (.cells #[.string ⟨#[80, 117, 114, 101]⟩, .string ⟨#[83, 116, 97, 116, 101]⟩, .string ⟨#[69, 120, 110]⟩, .string ⟨#[65, 108, 108]⟩, .string ⟨#[68, 105, 118]⟩] 9)) := by
            show _ = _
            rw [← hN9]
            exact (heap_setN (by omega) [.int .i64 (1 + (i : Int))] w9 5).trans (unhide HT9)
          have HV := hide hV
          clear hR9 hD9 hN9 hV
          go_wp2
          rw [unhide HV]
          refine ⟨⟨i + 1, _, _, by have := unhide hi; omega, by simp, HDV, HRV, HTV, .inr ⟨?_, ?_⟩⟩, ?_⟩
          · show (1 : Int) + (i : Int) ≠ 0
            omega
          · have h := unhide HY
            have hs := (signD_take (ts := ts) (S := S') effsD i (unhide HNO)).2 (effS i) _ (effs_at (unhide hi)) (by rw [unhide HES]; exact unhide HO)
            unfold effL at h
            rw [if_pos (unhide H0), hs] at h
            simp only at h
            rw [Int.add_comm] at h
            exact h
          · have := unhide hi
            simp [intOf]; omega
      · have hY2 : effM ts d' S' = Y := by
          rcases unhide hst with h | h
          · exact absurd (by rw [h.1]; exact h.2.1) h0
          · exact h.2
        have HY2 := hide hY2
        have n0 : (d'.eff == 0) = false := by simpa using h0
        have n1 : decide (d'.eff = 0) = false := by simpa using h0
        clear hY2 h0 hst
        go_wp2_with fail
        refine unhide hJ _ _ ?_
        exact (unhide hN) w _ _ _ _ _ _ _ _ _ _ _ _ _ _ _ _ _ _ _ _ _ _ _ _ _ _ _ _ _ _ _ _ _ _ _ _ _ _ _ _ _ _ _ _ _ _ _ _ _ _ _ _ _ _ _ _ _ _ _ _ _ _ _ _ _ _ _ _ _ _ _ _ _ _ _ _ _ _ _ _ _ _ _ _ _ _ _ _ _ _ _ _ _ _ _ _ _ _ _ _ _ _ _ _ _ _ _ _ _ _ _ _ _ _ _ _ _ _ _ _ _ _ _ _ _ _ _ _ _ _ _ _ _ _ _ _ _ _ _ _ _ _ _ _ _ _ _ _ _ _ _ _ _ _ _ _ _ _ _ _ _ _ _ _ _ _ _ _ _ _ _ _ _ _ _ _ _ _ _ _ _ _ _ _ _ _ _ _ (unhide hDI) (unhide hPD) (by rw [unhide HY2]; exact unhide HQQ)
    · obtain rfl : i = 5 := by omega
      have hY2 : effM ts d' S' = Y := by
        rcases unhide hst with ⟨rfl, h1, rfl, h2⟩ | h
        · have h := unhide HY
          have hs := (signD_take (ts := ts) (S := S') effsD 5 h2).1 (by decide)
          unfold effL at h
          rw [if_pos h1, hs] at h
          exact h
        · exact h.2
      have HY2 := hide hY2
      clear hY2 hst hi
      go_wp2_with fail
      refine unhide hJ _ _ ?_
      exact (unhide hN) w _ _ _ _ _ _ _ _ _ _ _ _ _ _ _ _ _ _ _ _ _ _ _ _ _ _ _ _ _ _ _ _ _ _ _ _ _ _ _ _ _ _ _ _ _ _ _ _ _ _ _ _ _ _ _ _ _ _ _ _ _ _ _ _ _ _ _ _ _ _ _ _ _ _ _ _ _ _ _ _ _ _ _ _ _ _ _ _ _ _ _ _ _ _ _ _ _ _ _ _ _ _ _ _ _ _ _ _ _ _ _ _ _ _ _ _ _ _ _ _ _ _ _ _ _ _ _ _ _ _ _ _ _ _ _ _ _ _ _ _ _ _ _ _ _ _ _ _ _ _ _ _ _ _ _ _ _ _ _ _ _ _ _ _ _ _ _ _ _ _ _ _ _ _ _ _ _ _ _ _ _ _ _ _ _ _ _ _ (unhide hDI) (unhide hPD) (by rw [unhide HY2]; exact unhide HQQ)
end Go.Proofs.YtljhpbjngbbjbaaDoor

namespace Go.Proofs.YtljhpbjngbbjbaaDoor
open Go Go.RowKit
/-- The parameters while they are read. -/
def parM (ts : List (Int × ByteArray × Int)) (d : De) (st : PS) : De × PS := match paramsD ts ts.length [] st with
  | (l, s, true) => ({ d with ps := l }, s)
  | (l, s, false) => colM ts { d with ps := l } s
def GIp (d : De) (x : DeV) (w : World) (r : Nat) (v : Value) (l : List Pm) (vs : List (List Value)) (V : World) : Prop := GI PmP d x 4 74 6 w r (fun _ => False) (w.heap.size + 2) v l vs V
section
variable {d : De} {x : DeV} {w V V' : World} {r : Nat} {v : Value} {l : List Pm} {vs : List (List Value)}
theorem GIp.but' (h : GIp d x w r v l vs V) (hb : But r V V') : GIp d x w r v l vs V' := GI.but' pm_keep h hb
theorem GIp.b (h : GIp d x w r v l vs V) : V.heap[w.heap.size + 1]? = some (.cells ((deCells d x).set 4 v).toArray 53) := GI.b h
theorem GIp.own (h : GIp d x w r v l vs V) : V.ownsRow (w.heap.size + 2) 74 6 v l.length vs.flatten := GI.own h
theorem GIp.done {a : Option Addr} {m c : Nat} (h : GIp d x w r (.slice a m c) l vs V) (hl : l.length ≤ 1000000) : DI w r { d with ps := l } { x with pa := a, pn := m, pc := c } V := by
  have hrow := GI.row pm_keep h hl
  have hin := (h.inn.keep (P' := fun b => w.heap.size + 2 ≤ b) ⟨Nat.le_refl _, fun _ _ _ => rfl⟩ fun b hb => hb.1).toN
  exact ⟨h.but, h.z, h.b, ⟨hrow, hin.ty, hin.req, hin.ens, hin.mea, hin.body⟩, h.ord.1⟩
theorem GIp.start (hI : DI w r d x V) (h1 : x.pa = none) (h2 : x.pn = 0) (h3 : x.pc = 0) : GIp d x w r (.slice none 0 0) [] [] V := by
  have hb := (blk hI.b).1
  have hr := hI.rlt
  refine ⟨hI.but, hI.z, ?_, ⟨hr, by omega, by omega, fun _ h => h.elim⟩, own_nil _ _ _ _, rfl, by simp, fun j y t hy => by simp at hy, hI.inn.toP.keep ⟨Nat.le_refl _, fun _ _ _ => rfl⟩ fun b hb => ⟨hb, fun h => h, fun e => by cases e⟩⟩
  have e : (deCells d x).set 4 (.slice none 0 0) = deCells d x := by
    obtain ⟨pa, pn, pc⟩ := x
    simp only at h1 h2 h3
    subst h1 h2 h3
    rfl
  rw [e]
  exact hI.b
end
theorem paramsD_no {ts : List (Int × ByteArray × Int)} {n : Nat} {l : List Pm} {S : PS} (h : isD ts ⟨#[40]⟩ S = false) : paramsD ts n l S = (l, S, false) := by
  cases n with
  | zero => rfl
  | succ n => rw [paramsD, h]; rfl
theorem paramsD_many {ts : List (Int × ByteArray × Int)} {n : Nat} {l : List Pm} {S : PS} (h : isD ts ⟨#[40]⟩ S = true) (hl : l.length = 8) : paramsD ts (n + 1) l S = (l, S.fail (tD ts S).2.2 152, true) := by
  rw [paramsD, h, if_pos rfl, if_pos hl]
theorem paramsD_yes {ts : List (Int × ByteArray × Int)} {n : Nat} {l : List Pm} {S : PS} (h : isD ts ⟨#[40]⟩ S = true) (hl : l.length ≠ 8) : paramsD ts (n + 1) l S = paramsD ts n (l ++ [(paramD ts S).1]) (paramD ts S).2 := by
  rw [paramsD, h, if_pos rfl, if_neg hl]
theorem typD_le (ts : List (Int × ByteArray × Int)) (S : PS) : S.i ≤ (typD ts S).2.i := by
  unfold typD
  simp only
  split
  · exact stepD_le S
  · split
    · exact stepD_le S
    · split
      · exact stepD_le S
      · exact Nat.le_trans (mustD_le _ S) (Nat.le_trans (nameD_le _) (Nat.le_trans (mustD_le _ _) (Nat.le_trans (mustD_le _ _) (Nat.le_trans (mustD_le _ _) (Nat.le_trans (gD_le ts 200 .rE _) (mustD_le _ _))))))
theorem paramD_le (ts : List (Int × ByteArray × Int)) (S : PS) : (stepD ts S).i ≤ (paramD ts S).2.i := by
  unfold paramD
  exact Nat.le_trans (nameD_le _) (Nat.le_trans (mustD_le _ _) (Nat.le_trans (typD_le ts _) (mustD_le _ _)))
/-- The rest of the rule from its parameters on. -/
def dpar_ofS (ts : List (Int × ByteArray × Int)) (M : De → PS → De × PS) (k : Nat) (r dd : Nat) : Prop := ∀ (w W : World) (S : PS) (d : De) (x : DeV) (x4 x5 x6 x7 x8 x9 x10 x11 x12 x13 x14 x15 x16 x17 x18 x19 x20 x21 x22 x23 x24 x25 x26 x27 x28 x29 x30 x31 x32 x33 x34 x35 x36 x37 x38 x39 x40 x41 x42 x43 x44 x45 x46 x47 x48 x49 x50 x51 x52 x53 x54 x55 x56 x57 x58 x59 x60 x61 x62 x63 x64 x65 x66 x67 x68 x69 x70 x71 x72 x73 x74 x75 x76 x77 x78 x79 x80 x81 x82 x83 x84 x85 x86 x87 x88 x89 x90 x91 x92 x93 x94 x95 x96 x97 x98 x99 x100 x101 x102 x103 x104 x105 x106 x107 x108 x109 x110 x111 x112 x113 x114 x115 x116 x117 x118 x119 x120 x121 x122 x123 x124 x125 x126 x127 x128 x129 x130 x131 x132 x133 x134 x135 x136 x137 x138 x139 x140 x141 x142 x143 x144 x145 x146 x147 x148 x149 x150 x151 x152 x153 x154 x155 x156 x157 x158 x159 x160 x161 x162 x163 x164 x165 x166 x167 x168 x169 x170 x171 x172 x173 x174 x175 x176 x177 x178 x179 x180 x181 x182 x183 x184 x185 x186 : Value) (QQ : Exit → Act → World → Prop), x.pa = none → x.pn = 0 → x.pc = 0 → DI w r d x W → PD W r ts S dd → bodyPost Tryd.prog Tryd.f36 (DDe (M d S) r ts dd w) = QQ → Code.wp Tryd.prog (dR k Tryd.f36) QQ { tmps := #[.pointer (some ⟨r, 0, none⟩), undef, .pointer (some ⟨w.heap.size, 0, none⟩), .pointer (some ⟨w.heap.size + 1, 0, none⟩), x4, x5, x6, x7, x8, x9, x10, x11, x12, x13, x14, x15, x16, x17, x18, x19, x20, x21, x22, x23, x24, x25, x26, x27, x28, x29, x30, x31, x32, x33, x34, x35, x36, x37, x38, x39, x40, x41, x42, x43, x44, x45, x46, x47, x48, x49, x50, x51, x52, x53, x54, x55, x56, x57, x58, x59, x60, x61, x62, x63, x64, x65, x66, x67, x68, x69, x70, x71, x72, x73, x74, x75, x76, x77, x78, x79, x80, x81, x82, x83, x84, x85, x86, x87, x88, x89, x90, x91, x92, x93, x94, x95, x96, x97, x98, x99, x100, x101, x102, x103, x104, x105, x106, x107, x108, x109, x110, x111, x112, x113, x114, x115, x116, x117, x118, x119, x120, x121, x122, x123, x124, x125, x126, x127, x128, x129, x130, x131, x132, x133, x134, x135, x136, x137, x138, x139, x140, x141, x142, x143, x144, x145, x146, x147, x148, x149, x150, x151, x152, x153, x154, x155, x156, x157, x158, x159, x160, x161, x162, x163, x164, x165, x166, x167, x168, x169, x170, x171, x172, x173, x174, x175, x176, x177, x178, x179, x180, x181, x182, x183, x184, x185, x186], defers := [] } W
set_option maxRecDepth 100000 in
set_option maxHeartbeats 16000000 in
theorem dpar_of {r dd : Nat} {ts : List (Int × ByteArray × Int)} (hT : TsOk ts) (hE : DcC 54 r ts dd (exD ts)) (hN : dend_ofS ts (colM ts) 8 r dd) : dpar_ofS ts (parM ts) 7 r dd := by
  intro w W S d x x4 x5 x6 x7 x8 x9 x10 x11 x12 x13 x14 x15 x16 x17 x18 x19 x20 x21 x22 x23 x24 x25 x26 x27 x28 x29 x30 x31 x32 x33 x34 x35 x36 x37 x38 x39 x40 x41 x42 x43 x44 x45 x46 x47 x48 x49 x50 x51 x52 x53 x54 x55 x56 x57 x58 x59 x60 x61 x62 x63 x64 x65 x66 x67 x68 x69 x70 x71 x72 x73 x74 x75 x76 x77 x78 x79 x80 x81 x82 x83 x84 x85 x86 x87 x88 x89 x90 x91 x92 x93 x94 x95 x96 x97 x98 x99 x100 x101 x102 x103 x104 x105 x106 x107 x108 x109 x110 x111 x112 x113 x114 x115 x116 x117 x118 x119 x120 x121 x122 x123 x124 x125 x126 x127 x128 x129 x130 x131 x132 x133 x134 x135 x136 x137 x138 x139 x140 x141 x142 x143 x144 x145 x146 x147 x148 x149 x150 x151 x152 x153 x154 x155 x156 x157 x158 x159 x160 x161 x162 x163 x164 x165 x166 x167 x168 x169 x170 x171 x172 x173 x174 x175 x176 x177 x178 x179 x180 x181 x182 x183 x184 x185 x186 QQ hx1 hx2 hx3 hI hR hQ
  obtain ⟨Y, hY⟩ : ∃ Y, parM ts d S = Y := ⟨_, rfl⟩
  rw [hY] at hQ
  unfold parM at hY
  have hr := hI.rlt
  have HI := hide hI
  have HR := hide hR
  have HT := hide hT
  have HY := hide hY
  have HQQ := hide hQ
  replace hE := hide hE
  have hrq : r ≠ w.heap.size + 1 := by omega
  clear hI hR hT hY hQ
  conv => arg 2; whnf
  replace hN := hide hN
  have HG := hide (GIp.start (unhide HI) hx1 hx2 hx3)
  clear hx1 hx2 hx3
  go_wp2_with fail
  rename_i KJ hJ
  replace hJ := hide hJ
  go_loopw [] (fun wr => ∃ l vs S n a m c, Hid (m = l.length ∧ l.length ≤ 8) ∧ Hid (GIp d x w r (.slice a m c) l vs wr) ∧ Hid (PD wr r ts S dd) ∧ Hid ((match paramsD ts n l S with | (l, s, true) => ({ d with ps := l }, s) | (l, s, false) => colM ts { d with ps := l } s) = Y) ∧ Hid (S.e = 0 → ts.length ≤ S.i + n)) (fun wr => ts.length - (intOf ((wr.cell? ⟨r, 1, none⟩).getD undef)).toNat)
  case atStart => exact ⟨[], [], S, ts.length, none, 0, 0, ⟨rfl, by simp⟩, HG, HR, HY, fun _ => Nat.le_add_left _ _⟩
  case round =>
    clear HI HR HY HG
    obtain ⟨l, vs, S', n, a, m, c, hl, hGI, hPD, hch, hfu⟩ := hrel
    obtain ⟨gg, gc, f0, f1, f2, f3, f4, hc, hlr, hf, ht⟩ := (unhide hPD).facts (Below.refl _ _)
    have HCUR := hide f1
    have HP0 := hide (unhide hPD).lt
    clear f0 f1 f3 f4 hc hf ht
    by_cases he : S'.e = 0
    rotate_left
    · have hno : isD ts ⟨#[40]⟩ S' = false := isD_bad he
      have hDI := hide ((unhide hGI).done (by have := (unhide hl).2; omega))
      have hY2 : colM ts { d with ps := l } S' = Y := by
        have h := unhide hch
        rw [paramsD_no hno] at h
        exact h
      have HY2 := hide hY2
      obtain ⟨er, her⟩ : ∃ er, S'.e = er := ⟨_, rfl⟩
      rw [her] at f2 he
      have e0 : (er == 0) = false := by simpa using he
      have d0 : decide (er = 0) = false := by simpa using he
      clear hno hY2 he her
      go_wp2_with fail
      refine unhide hJ _ _ ?_
      exact (unhide hN) w _ _ _ _ _ _ _ _ _ _ _ _ _ _ _ _ _ _ _ _ _ _ _ _ _ _ _ _ _ _ _ _ _ _ _ _ _ _ _ _ _ _ _ _ _ _ _ _ _ _ _ _ _ _ _ _ _ _ _ _ _ _ _ _ _ _ _ _ _ _ _ _ _ _ _ _ _ _ _ _ _ _ _ _ _ _ _ _ _ _ _ _ _ _ _ _ _ _ _ _ _ _ _ _ _ _ _ _ _ _ _ _ _ _ _ _ _ _ _ _ _ _ _ _ _ _ _ _ _ _ _ _ _ _ _ _ _ _ _ _ _ _ _ _ _ _ _ _ _ _ _ _ _ _ _ _ _ _ _ _ _ _ _ _ _ _ _ _ _ _ _ _ _ _ _ _ _ _ _ _ _ _ _ _ _ _ _ _ (unhide hDI) (unhide hPD) (by rw [unhide HY2]; exact unhide HQQ)
    · rw [he] at f2
      have HE0 := hide he
      obtain ⟨bo, hbo⟩ : ∃ b, isD ts ⟨#[40]⟩ S' = b := ⟨_, rfl⟩
      have HC := hide (is_any (unhide hPD) (unhide HT) ⟨#[40]⟩)
      rw [hbo] at HC
      have HO := hide hbo
      clear hbo he
      go_wp2_with fail
      refine (unhide HC).mono ?_
      rintro e w9 ⟨rfl, hb9⟩
      have HG9 := hide ((unhide hGI).but' (But.of hb9))
      have HR9 := hide ((unhide hPD).keep hb9)
      clear hb9 HC hGI hPD f2 hlr
      rcases bo with _ | _
      · have hDI := hide ((unhide HG9).done (by have := (unhide hl).2; omega))
        have hY2 : colM ts { d with ps := l } S' = Y := by
          have h := unhide hch
          rw [paramsD_no (unhide HO)] at h
          exact h
        have HY2 := hide hY2
        clear hY2
        go_wp2_with fail
        refine unhide hJ _ _ ?_
        exact (unhide hN) w _ _ _ _ _ _ _ _ _ _ _ _ _ _ _ _ _ _ _ _ _ _ _ _ _ _ _ _ _ _ _ _ _ _ _ _ _ _ _ _ _ _ _ _ _ _ _ _ _ _ _ _ _ _ _ _ _ _ _ _ _ _ _ _ _ _ _ _ _ _ _ _ _ _ _ _ _ _ _ _ _ _ _ _ _ _ _ _ _ _ _ _ _ _ _ _ _ _ _ _ _ _ _ _ _ _ _ _ _ _ _ _ _ _ _ _ _ _ _ _ _ _ _ _ _ _ _ _ _ _ _ _ _ _ _ _ _ _ _ _ _ _ _ _ _ _ _ _ _ _ _ _ _ _ _ _ _ _ _ _ _ _ _ _ _ _ _ _ _ _ _ _ _ _ _ _ _ _ _ _ _ _ _ _ _ _ _ _ (unhide hDI) (unhide HR9) (by rw [unhide HY2]; exact unhide HQQ)
      · have x4 := (blk (unhide HG9).b).2.1 4 _ rfl
        obtain ⟨n, rfl⟩ : ∃ k, n = k + 1 := ⟨n - 1, by have := unhide hfu (unhide HE0); have := unhide HP0; omega⟩
        by_cases h8 : m = 8
        · have hch1 := unhide hch
          rw [paramsD_many (unhide HO) (by rw [← (unhide hl).1]; exact h8)] at hch1
          have HY := hide hch1
          have HI := hide ((unhide HG9).done (by have := (unhide hl).2; omega))
          have HR := HR9
          subst h8
          clear hch1 HG9
          have HC100 := hide (dt_any (unhide HR) (unhide HT))
          unfold tkV at HC100
          obtain ⟨⟨kk100, T100, at100⟩, hN100⟩ : ∃ X, tD ts (S') = X := ⟨_, rfl⟩
          rw [hN100] at HC100
          have HN100 := hide hN100
          have hf2100 := fld2 (.int .i64 kk100) (.string T100) (.int .i64 at100)
          clear hN100
          go_wp2_with fail
          refine (unhide HC100).mono ?_
          rintro e w100 ⟨rfl, hb100⟩
          have hY101 := unhide HY
          simp only [unhide HN100] at hY101
          replace HY := hide hY101
          clear hY101
          have hbu102 := But.of (r := r) hb100
          replace HR := hide ((unhide HR).keep hb100)
          replace HI := hide ((unhide HI).but' hbu102)
          clear hb100 HC100
          obtain ⟨S103, hS103⟩ : ∃ Z9, (S').fail at100 152 = Z9 := ⟨_, rfl⟩
          have HC103 := hide (fail_any (unhide HR) at100 152)
          rw [hS103] at HC103
          have HS103 := hide hS103
          clear hS103
          go_wp2_with fail
          refine (unhide HC103).mono ?_
          rintro e w103 ⟨rfl, hb103, hR103⟩
          have hY104 := unhide HY
          simp only [unhide HS103] at hY104
          replace HY := hide hY104
          clear hY104
          replace HI := hide ((unhide HI).but' hb103)
          replace HR := hide hR103
          clear hb103 hR103 HC103 HS103
          have HLd := hide (range_block (unhide HI).b)
          have HTh := hide (there_of (o := 0) (n := 22) (unhide HI).z (by decide))
          go_wp2_with (first | ((with_reducible refine ld_de (x := .tmp 3) (b := w.heap.size + 1) (deCells ({ d with ps := l }) ({ x with pa := a, pn := 8, pc := c })) ?_ ?_ ?_ (unhide HLd) ?_ ?_); exact rfl; exact rfl; exact rfl; exact rfl; clear HLd) | ((with_reducible refine st_de (x := .tmp 2) (y := .tmp 86) (b := w.heap.size) (deCells ({ d with ps := l }) ({ x with pa := a, pn := 8, pc := c })) ?_ ?_ ?_ ?_ (unhide HTh) ?_ ?_ ?_); exact rfl; exact rfl; exact rfl; exact rfl; exact rfl; exact rfl; clear HTh; intro W9 eW9; refine ?roundEnd))
          case roundEnd =>
            refine wpList_nil ?_
            refine (‹∀ (a : Act) (w : World), Code.wp Tryd.prog Code.ret _ a w → _› : ∀ (a : Act) (w : World), Code.wp Tryd.prog Code.ret _ a w → _) _ _ (wp_ret ?_)
            have e9 := unhide eW9
            clear eW9
            subst e9
            show QQ Exit.ret _ _
            rw [← unhide HQQ]
            exact dret_de rfl rfl rfl (unhide HI) (unhide HR) (unhide HY).symm
        · have g1 : ¬ (m : Int) = 8 := by omega
          have g2 : ((m : Int) == 8) = false := by simpa using g1
          have g3 : decide ((m : Int) = 8) = false := by simpa using g1
          have hch1 := unhide hch
          rw [paramsD_yes (unhide HO) (by rw [← (unhide hl).1]; exact h8)] at hch1
          have HCH := hide hch1
          replace h8 := hide h8
          clear hch1
          have HI := HG9
          have HR := HR9
          have HY := HCH
          have HB9 : Hid (But r w9 w9) := But.refl r w9
          have hr9 : r < w9.heap.size := by have := (blk (unhide HG9).b).1; omega
          clear HCH
          obtain ⟨Z0, hZ0⟩ : ∃ Z, paramD ts S' = Z := ⟨_, rfl⟩
          have HPD := hide hZ0
          have HPE := hide hZ0
          clear hZ0
          have hY100 := unhide HY
          unfold paramD at hY100
          replace HY := hide hY100
          clear hY100
          have hY101 := unhide HPD
          unfold paramD at hY101
          replace HPD := hide hY101
          clear hY101
          obtain ⟨S102, hS102⟩ : ∃ Z9, stepD ts (S') = Z9 := ⟨_, rfl⟩
          have HC102 := hide (step_any (unhide HR) (unhide HT))
          rw [hS102] at HC102
          have HS102 := hide hS102
          clear hS102
          go_wp2_with fail
          refine (unhide HC102).mono ?_
          rintro e w102 ⟨rfl, hb102, hR102⟩
          have hY103 := unhide HY
          simp only [unhide HS102] at hY103
          replace HY := hide hY103
          clear hY103
          have hY104 := unhide HPD
          try simp only [unhide HS102] at hY104
          replace HPD := hide hY104
          clear hY104
          replace HI := hide ((unhide HI).but' hb102)
          replace HB9 := hide ((unhide HB9).trans hb102)
          replace HR := hide hR102
          clear hb102 hR102 HC102 HS102
          have HC105 := hide (name_any (unhide HR) (unhide HT))
          unfold tkV at HC105
          obtain ⟨⟨⟨kk105, T105, at105⟩, S105⟩, hN105⟩ : ∃ X, nameD ts (S102) = X := ⟨_, rfl⟩
          rw [hN105] at HC105
          have HN105 := hide hN105
          clear hN105
          go_wp2_with fail
          refine (unhide HC105).mono ?_
          rintro e w105 ⟨rfl, hb105, hR105⟩
          have hY106 := unhide HY
          simp only [unhide HN105] at hY106
          replace HY := hide hY106
          clear hY106
          have hY107 := unhide HPD
          try simp only [unhide HN105] at hY107
          replace HPD := hide hY107
          clear hY107
          replace HI := hide ((unhide HI).but' hb105)
          replace HB9 := hide ((unhide HB9).trans hb105)
          replace HR := hide hR105
          clear hb105 hR105 HC105
          obtain ⟨B108, eB108, hbB108, hsB108, hhB108⟩ := box_new w105 #[.int .i64 kk105, .string T105, .int .i64 at105] 87
          have ne108 : r ≠ w105.heap.size := by have := (blk (unhide HI).b).1; omega
          have hq108 : w.heap.size + 1 < w105.heap.size := (blk (unhide HI).b).1
          have hbu109 := But.of (r := r) hbB108
          replace HR := hide ((unhide HR).keep hbB108)
          replace HI := hide ((unhide HI).but' hbu109)
          replace HB9 := hide ((unhide HB9).trans hbu109)
          have HX108 := hide hhB108
          have HEB108 := hide eB108
          have HSB108 := hide hsB108
          clear eB108 hbB108 hhB108 hsB108
          obtain ⟨S110, hS110⟩ : ∃ Z9, mustD ts ⟨#[58]⟩ (S105) = Z9 := ⟨_, rfl⟩
          have HC110 := hide (dmust_any (unhide HR) (unhide HT) ⟨#[58]⟩)
          rw [hS110] at HC110
          have HS110 := hide hS110
          clear hS110
          go_wp2_with fail
          rw [unhide HEB108]
          refine (unhide HC110).mono ?_
          rintro e w110 ⟨rfl, hb110, hR110⟩
          have hY111 := unhide HY
          simp only [unhide HS110] at hY111
          replace HY := hide hY111
          clear hY111
          have hY112 := unhide HPD
          try simp only [unhide HS110] at hY112
          replace HPD := hide hY112
          clear hY112
          replace HI := hide ((unhide HI).but' hb110)
          replace HX108 := hide ((hb110.block _ (blk (unhide HX108)).1 (Ne.symm ne108)).trans (unhide HX108))
          replace HB9 := hide ((unhide HB9).trans hb110)
          replace HR := hide hR110
          clear hb110 hR110 HC110 HS110
          have HC113 := hide (dtyp_of (unhide HT) (unhide hE) w110 (S110) (unhide HR))
          obtain ⟨⟨t113, S113⟩, hX113⟩ : ∃ X, typD ts (S110) = X := ⟨_, rfl⟩
          rw [hX113] at HC113
          have HX113 := hide hX113
          have hlo113 : w9.heap.size ≤ w110.heap.size := (unhide HB9).size
          clear hX113
          go_wp2_with fail
          refine (unhide HC113).mono ?_
          rintro e w113 ⟨hb113, hR113, v113, rfl, hv113⟩
          have hY114 := unhide HY
          simp only [unhide HX113] at hY114
          replace HY := hide hY114
          clear hY114
          have hY115 := unhide HPD
          try simp only [unhide HX113] at hY115
          replace HPD := hide hY115
          clear hY115
          obtain ⟨a113, n113, c113, rfl, hv113⟩ := hv113
          have HT113 := hide (hv113.keep (lo' := w9.heap.size) (Stays.of (Below.refl _ _)) hlo113)
          replace HI := hide ((unhide HI).but' hb113)
          replace HX108 := hide ((hb113.block _ (blk (unhide HX108)).1 (Ne.symm ne108)).trans (unhide HX108))
          replace HB9 := hide ((unhide HB9).trans hb113)
          replace HR := hide hR113
          clear hb113 hR113 hv113 HC113 HX113 hlo113
          obtain ⟨B116, eB116, hbB116, hsB116, hhB116⟩ := box_new w113 #[.int .i64 t113.kind, .string t113.name, .slice a113 n113 c113, .int .i64 t113.at'] 49
          have ne116 : r ≠ w113.heap.size := by have := (blk (unhide HI).b).1; omega
          have hq116 : w.heap.size + 1 < w113.heap.size := (blk (unhide HI).b).1
          have hbu117 := But.of (r := r) hbB116
          replace HR := hide ((unhide HR).keep hbB116)
          replace HI := hide ((unhide HI).but' hbu117)
          replace HX108 := hide ((hbu117.block _ (blk (unhide HX108)).1 (Ne.symm ne108)).trans (unhide HX108))
          replace HT113 := hide ((unhide HT113).keep (Stays.but hbu117 (by omega)) (Nat.le_refl _))
          replace HB9 := hide ((unhide HB9).trans hbu117)
          have HX116 := hide hhB116
          have HEB116 := hide eB116
          have HSB116 := hide hsB116
          clear eB116 hbB116 hhB116 hsB116
          obtain ⟨S118, hS118⟩ : ∃ Z9, mustD ts ⟨#[41]⟩ (S113) = Z9 := ⟨_, rfl⟩
          have HC118 := hide (dmust_any (unhide HR) (unhide HT) ⟨#[41]⟩)
          rw [hS118] at HC118
          have HS118 := hide hS118
          clear hS118
          go_wp2_with fail
          rw [unhide HEB116]
          refine (unhide HC118).mono ?_
          rintro e w118 ⟨rfl, hb118, hR118⟩
          have hY119 := unhide HY
          simp only [unhide HS118] at hY119
          replace HY := hide hY119
          clear hY119
          have hY120 := unhide HPD
          try simp only [unhide HS118] at hY120
          replace HPD := hide hY120
          clear hY120
          replace HI := hide ((unhide HI).but' hb118)
          replace HX108 := hide ((hb118.block _ (blk (unhide HX108)).1 (Ne.symm ne108)).trans (unhide HX108))
          replace HX116 := hide ((hb118.block _ (blk (unhide HX116)).1 (Ne.symm ne116)).trans (unhide HX116))
          replace HT113 := hide ((unhide HT113).keep (Stays.but hb118 (by omega)) (Nat.le_refl _))
          replace HB9 := hide ((unhide HB9).trans hb118)
          replace HR := hide hR118
          clear hb118 hR118 HC118 HS118
          have hlb : l.length ≤ 100000 := by have := (unhide hl).2; omega
          obtain ⟨gq, cap, wa, happ, hoa, hga, hwa⟩ := app_pm T105 t113.name t113.kind t113.at' at105 a113 n113 c113 (unhide HI).own hlb (by have := (blk (unhide HI).b).1; omega)
          have hlsT : LsP w118 (fun b => w9.heap.size ≤ b) (.slice a113 n113 c113) t113.r := unhide HT113
          obtain ⟨hG1, hwx, hkk⟩ := GI.more pm_keep pm_bnd (unhide HG9) (unhide HB9) (t7 := .mk T105 t113 at105) (cs := [.string T105, .int .i64 t113.kind, .string t113.name, .slice a113 n113 c113, .int .i64 t113.at', .int .i64 at105]) (P7 := fun b => w9.heap.size ≤ b) rfl ⟨_, _, _, rfl, hlsT⟩ (fun b hb h => ⟨by have := (blk (unhide HG9).b).1; omega, fun h => h, fun e => by have := ((unhide HG9).own.lt b e).2; omega⟩) (fun j hj hx => rfl) (Nat.le_refl _) ⟨rfl, rfl, rfl⟩ hoa hga hwa
          have hR1 := (unhide HR).out (w' := wa.setCell ⟨w.heap.size + 1, 4, none⟩ (.slice (some ⟨gq, 0, none⟩) (l.length + 1) cap)) hr (fun k hk => hkk k hk)
          have b4 := (blk (unhide HI).b).2.1 4 _ rfl
          have u1 := (blk (unhide HX108)).2.1 1 _ rfl
          have u2 := (blk (unhide HX108)).2.1 2 _ rfl
          have v0 := (blk (unhide HX116)).2.1 0 _ rfl
          have v1 := (blk (unhide HX116)).2.1 1 _ rfl
          have v2 := (blk (unhide HX116)).2.1 2 _ rfl
          have v3 := (blk (unhide HX116)).2.1 3 _ rfl
          have wx4 := (blk hwx).2.1 4 _ rfl
          have wf4 := (blk hwx).2.2 4
          have HI1 := hide (And.intro hG1 hR1)
          rw [(unhide hl).1.symm] at happ
          have R1 := hide happ
          clear hlsT hlb happ hoa hga hwa hG1 hwx hkk hR1 x4
          go_wp2_with (at_builtin; refine app_run _ _ _ rfl rfl rfl rfl (unhide R1) ?_; clear R1)
          obtain ⟨hG1, hR1⟩ := unhide HI1
          have he0 := unhide HE0
          have hsi := stepD_i (ts := ts) he0 (isD_lt (unhide HT) (unhide HP0) (unhide HO))
          have hle := paramD_le ts S'
          obtain ⟨g', c', p0, p1, -⟩ := hR1.facts (Below.refl _ _)
          obtain ⟨hl1, hl2⟩ := unhide hl
          have hP0 := unhide HP0
          have hfu0 := unhide hfu he0
          have h8' := unhide h8
          have hlE : S'.i + 1 ≤ (S118).i := by
            rw [hsi, unhide HPE, ← unhide HPD] at hle
            exact hle
          subst hl1
          have hG2 : Hid (GIp d x w r (.slice (some ⟨gq, 0, none⟩) (l.length + 1) cap) (l ++ [Pm.mk T105 t113 at105]) (vs ++ [[.string T105, .int .i64 t113.kind, .string t113.name, .slice a113 n113 c113, .int .i64 t113.at', .int .i64 at105]]) (wa.setCell ⟨w.heap.size + 1, 4, none⟩ (.slice (some ⟨gq, 0, none⟩) (l.length + 1) cap))) := hG1
          refine ⟨⟨l ++ [Pm.mk T105 t113 at105], _, S118, n, some ⟨gq, 0, none⟩, l.length + 1, cap, ⟨by simp, by simp; omega⟩, hG2, hide hR1, HY, fun _ => by omega⟩, ?_⟩
          rw [p1, unhide HCUR]
          simp [intOf]
          omega
end Go.Proofs.YtljhpbjngbbjbaaDoor
