/- The document's parser: its measure. -/
import Derived.Test.YtljhpbjngbbjbaaDoorZAO
set_option linter.unusedVariables false
set_option linter.unusedSimpArgs false

/- The document's parser: what is ensured, what is required. -/
namespace Go.Proofs.YtljhpbjngbbjbaaDoor
open Go Go.RowKit
/-- The rest of the rule from what is ensured on. -/
def dens_ofS (ts : List (Int × ByteArray × Int)) (M : De → PS → De × PS) (k : Nat) (r dd : Nat) : Prop := ∀ (w W : World) (S : PS) (d : De) (x : DeV) (x4 x5 x6 x7 x8 x9 x10 x11 x12 x13 x14 x15 x16 x17 x18 x19 x20 x21 x22 x23 x24 x25 x26 x27 x28 x29 x30 x31 x32 x33 x34 x35 x36 x37 x38 x39 x40 x41 x42 x43 x44 x45 x46 x47 x48 x49 x50 x51 x52 x53 x54 x55 x56 x57 x58 x59 x60 x61 x62 x63 x64 x65 x66 x67 x68 x69 x70 x71 x72 x73 x74 x75 x76 x77 x78 x79 x80 x81 x82 x83 x84 x85 x86 x87 x88 x89 x90 x91 x92 x93 x94 x95 x96 x97 x98 x99 x100 x101 x102 x103 x104 x105 x106 x107 x108 x109 x110 x111 x112 x113 x114 x115 x116 x117 x118 x119 x120 x121 x122 x123 x124 x125 x126 x127 x128 x129 x130 x131 x132 x133 x134 x135 x136 x137 x138 x139 x140 x141 x142 x143 x144 x145 x146 x147 x148 x149 x150 x151 x152 x153 x154 x155 x156 x157 x158 x159 x160 x161 x162 x163 x164 x165 x166 x167 x168 x169 x170 x171 x172 x173 x174 x175 x176 x177 x178 x179 x180 x181 x182 x183 x184 x185 x186 : Value) (QQ : Exit → Act → World → Prop), DI w r d x W → PD W r ts S dd → bodyPost Tryd.prog Tryd.f36 (DDe (M d S) r ts dd w) = QQ → Code.wp Tryd.prog (dR k Tryd.f36) QQ { tmps := #[.pointer (some ⟨r, 0, none⟩), undef, .pointer (some ⟨w.heap.size, 0, none⟩), .pointer (some ⟨w.heap.size + 1, 0, none⟩), x4, x5, x6, x7, x8, x9, x10, x11, x12, x13, x14, x15, x16, x17, x18, x19, x20, x21, x22, x23, x24, x25, x26, x27, x28, x29, x30, x31, x32, x33, x34, x35, x36, x37, x38, x39, x40, x41, x42, x43, x44, x45, x46, x47, x48, x49, x50, x51, x52, x53, x54, x55, x56, x57, x58, x59, x60, x61, x62, x63, x64, x65, x66, x67, x68, x69, x70, x71, x72, x73, x74, x75, x76, x77, x78, x79, x80, x81, x82, x83, x84, x85, x86, x87, x88, x89, x90, x91, x92, x93, x94, x95, x96, x97, x98, x99, x100, x101, x102, x103, x104, x105, x106, x107, x108, x109, x110, x111, x112, x113, x114, x115, x116, x117, x118, x119, x120, x121, x122, x123, x124, x125, x126, x127, x128, x129, x130, x131, x132, x133, x134, x135, x136, x137, x138, x139, x140, x141, x142, x143, x144, x145, x146, x147, x148, x149, x150, x151, x152, x153, x154, x155, x156, x157, x158, x159, x160, x161, x162, x163, x164, x165, x166, x167, x168, x169, x170, x171, x172, x173, x174, x175, x176, x177, x178, x179, x180, x181, x182, x183, x184, x185, x186], defers := [] } W
set_option maxRecDepth 100000 in
set_option maxHeartbeats 16000000 in
theorem dens_of {r dd : Nat} {ts : List (Int × ByteArray × Int)} (hT : TsOk ts) (hE : DcC 54 r ts dd (exD ts)) (hN : dend_ofS ts (meaM ts) 15 r dd) : dens_ofS ts (ensM ts) 14 r dd := by
  intro w W S d x x4 x5 x6 x7 x8 x9 x10 x11 x12 x13 x14 x15 x16 x17 x18 x19 x20 x21 x22 x23 x24 x25 x26 x27 x28 x29 x30 x31 x32 x33 x34 x35 x36 x37 x38 x39 x40 x41 x42 x43 x44 x45 x46 x47 x48 x49 x50 x51 x52 x53 x54 x55 x56 x57 x58 x59 x60 x61 x62 x63 x64 x65 x66 x67 x68 x69 x70 x71 x72 x73 x74 x75 x76 x77 x78 x79 x80 x81 x82 x83 x84 x85 x86 x87 x88 x89 x90 x91 x92 x93 x94 x95 x96 x97 x98 x99 x100 x101 x102 x103 x104 x105 x106 x107 x108 x109 x110 x111 x112 x113 x114 x115 x116 x117 x118 x119 x120 x121 x122 x123 x124 x125 x126 x127 x128 x129 x130 x131 x132 x133 x134 x135 x136 x137 x138 x139 x140 x141 x142 x143 x144 x145 x146 x147 x148 x149 x150 x151 x152 x153 x154 x155 x156 x157 x158 x159 x160 x161 x162 x163 x164 x165 x166 x167 x168 x169 x170 x171 x172 x173 x174 x175 x176 x177 x178 x179 x180 x181 x182 x183 x184 x185 x186 QQ hI hR hQ
  obtain ⟨Y, hY⟩ : ∃ Y, ensM ts d S = Y := ⟨_, rfl⟩
  rw [hY] at hQ
  unfold ensM at hY
  have hr := hI.rlt
  have HI := hide hI
  have HR := hide hR
  have HT := hide hT
  have HY := hide hY
  have HQQ := hide hQ
  replace hE := hide hE
  have hrq : r ≠ w.heap.size + 1 := by omega
  clear hI hR hT hY hQ
  conv => arg 2; whnf
  replace hN := hide hN
  have HC0 := hide (eat_any (unhide HR) (unhide HT) ⟨#[101, 110, 115, 117, 114, 101, 115]⟩)
  obtain ⟨bo0, hbo0⟩ : ∃ b, isD ts ⟨#[101, 110, 115, 117, 114, 101, 115]⟩ (S) = b := ⟨_, rfl⟩
  unfold eatD at HC0
  rw [hbo0] at HC0
  have HO0 := hide hbo0
  clear hbo0
  go_wp2_with fail
  refine (unhide HC0).mono ?_
  rintro e w0 ⟨rfl, hb0, hR0⟩
  replace HI := hide ((unhide HI).but' hb0)
  replace HR := hide hR0
  have hY1 := unhide HY
  simp only [unhide HO0] at hY1
  replace HY := hide hY1
  clear hY1
  clear hb0 HC0 hR0
  rename_i KJ hJ K0 h0 K1 h1
  replace hJ := hide hJ
  rcases bo0 with _ | _
  rotate_left
  · have hY2 := unhide HY
    simp only [if_true] at hY2
    replace HY := hide hY2
    clear hY2
    have hRR := unhide HR
    rw [if_pos rfl] at hRR
    obtain ⟨S3, hS3⟩ : ∃ Z9, stepD ts (S) = Z9 := ⟨_, rfl⟩
    rw [hS3] at hRR
    replace HR := hide hRR
    have HSt3 := hide hS3
    have hY4 := unhide HY
    simp only [unhide HSt3] at hY4
    replace HY := hide hY4
    clear hY4
    clear hRR hS3
    have HC5 := hide (name_any (unhide HR) (unhide HT))
    unfold tkV at HC5
    obtain ⟨⟨⟨kk5, T5, at5⟩, S5⟩, hN5⟩ : ∃ X, nameD ts (S3) = X := ⟨_, rfl⟩
    rw [hN5] at HC5
    have HN5 := hide hN5
    have hf15 := fld1 (.int .i64 kk5) (.string T5) (.int .i64 at5)
    clear hN5
    go_wp2_with fail
    refine (unhide HC5).mono ?_
    rintro e w5 ⟨rfl, hb5, hR5⟩
    have hY6 := unhide HY
    simp only [unhide HN5] at hY6
    replace HY := hide hY6
    clear hY6
    replace HI := hide ((unhide HI).but' hb5)
    replace HR := hide hR5
    clear hb5 hR5 HC5
    have st7_0 := (blk (unhide HI).b).2.1 11 _ rfl
    have sz7_0 := (blk (unhide HI).b).2.2 11
    obtain ⟨V7, eV7⟩ : ∃ V, (w5.setCell ⟨w.heap.size + 1, 11, none⟩ (.string T5)) = V := ⟨_, rfl⟩
    have eN7 : setN w5 (w.heap.size + 1) 11 [.string T5] = V7 := eV7
    have hD7 : DI w r ({ d with res := T5 }) (x) V7 := by rw [← eN7]; exact (unhide HI).set 11 [.string T5] (show 11 + 1 ≤ 22 by decide) rfl ⟨(unhide HI).inn.ps, (unhide HI).inn.ty, (unhide HI).inn.req, (unhide HI).inn.ens, (unhide HI).inn.mea, (unhide HI).inn.body⟩
    have hR7 : PD V7 r ts (S5) dd := by rw [← eN7]; exact (unhide HR).setN (by omega) 11 [.string T5]
    replace HI := hide hD7
    replace HR := hide hR7
    have HEV7 := hide eV7
    clear eV7 eN7 hD7 hR7
    obtain ⟨S8, hS8⟩ : ∃ Z9, mustD ts ⟨#[46]⟩ (S5) = Z9 := ⟨_, rfl⟩
    have HC8 := hide (dmust_any (unhide HR) (unhide HT) ⟨#[46]⟩)
    rw [hS8] at HC8
    have HS8 := hide hS8
    clear hS8
    go_wp2_with fail
    rw [unhide HEV7]
    refine (unhide HC8).mono ?_
    rintro e w8 ⟨rfl, hb8, hR8⟩
    have hY9 := unhide HY
    simp only [unhide HS8] at hY9
    replace HY := hide hY9
    clear hY9
    replace HI := hide ((unhide HI).but' hb8)
    replace HR := hide hR8
    clear hb8 hR8 HC8 HS8
    have HC10 := hide (unhide hE w8 (S8) (unhide HR))
    obtain ⟨⟨t10, S10⟩, hX10⟩ : ∃ X, exD ts (S8) = X := ⟨_, rfl⟩
    rw [hX10] at HC10
    have HX10 := hide hX10
    have hlo10 : w.heap.size + 2 ≤ w8.heap.size := (by have := (blk (unhide HI).b).1; omega)
    clear hX10
    go_wp2_with fail
    refine (unhide HC10).mono ?_
    rintro e w10 ⟨hb10, hR10, v10, rfl, hv10⟩
    have hY11 := unhide HY
    simp only [unhide HX10] at hY11
    replace HY := hide hY11
    clear hY11
    obtain ⟨i10, j10, s10, m10, b10, a10, n10, c10, rfl⟩ := hv10.form
    have HT10 := hide (hv10.keep (lo' := w.heap.size + 2) (Stays.of (Below.refl _ _)) hlo10)
    replace HI := hide ((unhide HI).but' hb10)
    replace HR := hide hR10
    clear hb10 hR10 hv10 HC10 HX10 hlo10
    obtain ⟨B12, eB12, hbB12, hsB12, hhB12⟩ := box_new w10 #[.int .i64 i10, .string s10, .string m10, .bool b10, .slice a10 n10 c10, .int .i64 0, .int .i64 j10] 51
    have ne12 : r ≠ w10.heap.size := by have := (blk (unhide HI).b).1; omega
    have hq12 : w.heap.size + 1 < w10.heap.size := (blk (unhide HI).b).1
    have hbu13 := But.of (r := r) hbB12
    replace HR := hide ((unhide HR).keep hbB12)
    replace HI := hide ((unhide HI).but' hbu13)
    replace HT10 := hide ((unhide HT10).keep (Stays.but hbu13 (by omega)) (Nat.le_refl _))
    have HX12 := hide hhB12
    have HEB12 := hide eB12
    have HSB12 := hide hsB12
    clear eB12 hbB12 hhB12 hsB12
    have u012 := (blk (unhide HX12)).2.1 0 _ rfl
    have u112 := (blk (unhide HX12)).2.1 1 _ rfl
    have u212 := (blk (unhide HX12)).2.1 2 _ rfl
    have u312 := (blk (unhide HX12)).2.1 3 _ rfl
    have u412 := (blk (unhide HX12)).2.1 4 _ rfl
    have u512 := (blk (unhide HX12)).2.1 5 _ rfl
    have u612 := (blk (unhide HX12)).2.1 6 _ rfl
    rw [← unhide HEB12] at u012 u112 u212 u312 u412 u512 u612
    obtain ⟨C14, eC14, hbC14, hsC14, hhC14⟩ := box_new B12 #[.int .i64 i10, .string s10, .string m10, .bool b10, .slice a10 n10 c10, .int .i64 0, .int .i64 j10] 51
    have hls14 := one_ls (unhide HT10) eC14 (by have := (blk (unhide HI).b).1; omega)
    rw [unhide HSB12] at hls14
    have hbu15 := But.of (r := r) hbC14
    replace HR := hide ((unhide HR).keep hbC14)
    replace HI := hide ((unhide HI).but' hbu15)
    replace HX12 := hide ((hbu15.block _ (blk (unhide HX12)).1 (Ne.symm ne12)).trans (unhide HX12))
    have HLs14 := hide hls14
    have HEC14 := hide eC14
    clear hls14 eC14 hbC14 hsC14 hhC14
    have st16_0 := (blk (unhide HI).b).2.1 12 _ rfl
    have sz16_0 := (blk (unhide HI).b).2.2 12
    rw [← unhide HEC14, ← unhide HEB12] at st16_0 sz16_0
    obtain ⟨V16, eV16⟩ : ∃ V, (C14.setCell ⟨w.heap.size + 1, 12, none⟩ (.slice (some ⟨w10.heap.size + 1, 0, none⟩) 1 1)) = V := ⟨_, rfl⟩
    have eN16 : setN C14 (w.heap.size + 1) 12 [.slice (some ⟨w10.heap.size + 1, 0, none⟩) 1 1] = V16 := eV16
    have hD16 : DI w r ({ d with res := T5, ens := [t10] }) ({ x with ea := some ⟨w10.heap.size + 1, 0, none⟩, en := 1, ec := 1 }) V16 := by rw [← eN16]; exact (unhide HI).set 12 [.slice (some ⟨w10.heap.size + 1, 0, none⟩) 1 1] (show 12 + 1 ≤ 22 by decide) rfl ⟨(unhide HI).inn.ps, (unhide HI).inn.ty, (unhide HI).inn.req, (unhide HLs14), (unhide HI).inn.mea, (unhide HI).inn.body⟩
    have hR16 : PD V16 r ts (S10) dd := by rw [← eN16]; exact (unhide HR).setN (by omega) 12 [.slice (some ⟨w10.heap.size + 1, 0, none⟩) 1 1]
    replace HX12 := hide (by rw [← eN16]; exact (heap_setN (by omega) [.slice (some ⟨w10.heap.size + 1, 0, none⟩) 1 1] C14 12).trans (unhide HX12) : V16.heap[w10.heap.size]? = some (.cells #[.int .i64 i10, .string s10, .string m10, .bool b10, .slice a10 n10 c10, .int .i64 0, .int .i64 j10] 51))
    replace HLs14 := hide (eN16 ▸ (unhide HLs14).keep (Stays.setN [.slice (some ⟨w10.heap.size + 1, 0, none⟩) 1 1] C14 12 (Stays.of (Below.refl _ _)) (by omega)) (Nat.le_refl _))
    replace HI := hide hD16
    replace HR := hide hR16
    have HEV16 := hide eV16
    clear eV16 eN16 hD16 hR16
    go_wp2_with fail
    rw [unhide HEB12, unhide HEC14, unhide HEV16]
    refine unhide hJ _ _ ?_
    exact (unhide hN) w _ _ _ _ _ _ _ _ _ _ _ _ _ _ _ _ _ _ _ _ _ _ _ _ _ _ _ _ _ _ _ _ _ _ _ _ _ _ _ _ _ _ _ _ _ _ _ _ _ _ _ _ _ _ _ _ _ _ _ _ _ _ _ _ _ _ _ _ _ _ _ _ _ _ _ _ _ _ _ _ _ _ _ _ _ _ _ _ _ _ _ _ _ _ _ _ _ _ _ _ _ _ _ _ _ _ _ _ _ _ _ _ _ _ _ _ _ _ _ _ _ _ _ _ _ _ _ _ _ _ _ _ _ _ _ _ _ _ _ _ _ _ _ _ _ _ _ _ _ _ _ _ _ _ _ _ _ _ _ _ _ _ _ _ _ _ _ _ _ _ _ _ _ _ _ _ _ _ _ _ _ _ _ _ _ _ _ _ (unhide HI) (unhide HR) (by rw [unhide HY]; exact unhide HQQ)
  have hY17 := unhide HY
  simp only [Bool.false_eq_true, if_false] at hY17
  replace HY := hide hY17
  clear hY17
  have hRR := unhide HR
  rw [if_neg Bool.false_ne_true] at hRR
  replace HR := hide hRR
  clear hRR
  go_wp2_with fail
  refine unhide hJ _ _ ?_
  exact (unhide hN) w _ _ _ _ _ _ _ _ _ _ _ _ _ _ _ _ _ _ _ _ _ _ _ _ _ _ _ _ _ _ _ _ _ _ _ _ _ _ _ _ _ _ _ _ _ _ _ _ _ _ _ _ _ _ _ _ _ _ _ _ _ _ _ _ _ _ _ _ _ _ _ _ _ _ _ _ _ _ _ _ _ _ _ _ _ _ _ _ _ _ _ _ _ _ _ _ _ _ _ _ _ _ _ _ _ _ _ _ _ _ _ _ _ _ _ _ _ _ _ _ _ _ _ _ _ _ _ _ _ _ _ _ _ _ _ _ _ _ _ _ _ _ _ _ _ _ _ _ _ _ _ _ _ _ _ _ _ _ _ _ _ _ _ _ _ _ _ _ _ _ _ _ _ _ _ _ _ _ _ _ _ _ _ _ _ _ _ _ (unhide HI) (unhide HR) (by rw [unhide HY]; exact unhide HQQ)
/-- The rest of the rule from what is required on. -/
def dreq_ofS (ts : List (Int × ByteArray × Int)) (M : De → PS → De × PS) (k : Nat) (r dd : Nat) : Prop := ∀ (w W : World) (S : PS) (d : De) (x : DeV) (x4 x5 x6 x7 x8 x9 x10 x11 x12 x13 x14 x15 x16 x17 x18 x19 x20 x21 x22 x23 x24 x25 x26 x27 x28 x29 x30 x31 x32 x33 x34 x35 x36 x37 x38 x39 x40 x41 x42 x43 x44 x45 x46 x47 x48 x49 x50 x51 x52 x53 x54 x55 x56 x57 x58 x59 x60 x61 x62 x63 x64 x65 x66 x67 x68 x69 x70 x71 x72 x73 x74 x75 x76 x77 x78 x79 x80 x81 x82 x83 x84 x85 x86 x87 x88 x89 x90 x91 x92 x93 x94 x95 x96 x97 x98 x99 x100 x101 x102 x103 x104 x105 x106 x107 x108 x109 x110 x111 x112 x113 x114 x115 x116 x117 x118 x119 x120 x121 x122 x123 x124 x125 x126 x127 x128 x129 x130 x131 x132 x133 x134 x135 x136 x137 x138 x139 x140 x141 x142 x143 x144 x145 x146 x147 x148 x149 x150 x151 x152 x153 x154 x155 x156 x157 x158 x159 x160 x161 x162 x163 x164 x165 x166 x167 x168 x169 x170 x171 x172 x173 x174 x175 x176 x177 x178 x179 x180 x181 x182 x183 x184 x185 x186 : Value) (QQ : Exit → Act → World → Prop), DI w r d x W → PD W r ts S dd → bodyPost Tryd.prog Tryd.f36 (DDe (M d S) r ts dd w) = QQ → Code.wp Tryd.prog (dR k Tryd.f36) QQ { tmps := #[.pointer (some ⟨r, 0, none⟩), undef, .pointer (some ⟨w.heap.size, 0, none⟩), .pointer (some ⟨w.heap.size + 1, 0, none⟩), x4, x5, x6, x7, x8, x9, x10, x11, x12, x13, x14, x15, x16, x17, x18, x19, x20, x21, x22, x23, x24, x25, x26, x27, x28, x29, x30, x31, x32, x33, x34, x35, x36, x37, x38, x39, x40, x41, x42, x43, x44, x45, x46, x47, x48, x49, x50, x51, x52, x53, x54, x55, x56, x57, x58, x59, x60, x61, x62, x63, x64, x65, x66, x67, x68, x69, x70, x71, x72, x73, x74, x75, x76, x77, x78, x79, x80, x81, x82, x83, x84, x85, x86, x87, x88, x89, x90, x91, x92, x93, x94, x95, x96, x97, x98, x99, x100, x101, x102, x103, x104, x105, x106, x107, x108, x109, x110, x111, x112, x113, x114, x115, x116, x117, x118, x119, x120, x121, x122, x123, x124, x125, x126, x127, x128, x129, x130, x131, x132, x133, x134, x135, x136, x137, x138, x139, x140, x141, x142, x143, x144, x145, x146, x147, x148, x149, x150, x151, x152, x153, x154, x155, x156, x157, x158, x159, x160, x161, x162, x163, x164, x165, x166, x167, x168, x169, x170, x171, x172, x173, x174, x175, x176, x177, x178, x179, x180, x181, x182, x183, x184, x185, x186], defers := [] } W
set_option maxRecDepth 100000 in
set_option maxHeartbeats 16000000 in
theorem dreq_of {r dd : Nat} {ts : List (Int × ByteArray × Int)} (hT : TsOk ts) (hE : DcC 54 r ts dd (exD ts)) (hN : dend_ofS ts (ensM ts) 14 r dd) : dreq_ofS ts (reqM ts) 13 r dd := by
  intro w W S d x x4 x5 x6 x7 x8 x9 x10 x11 x12 x13 x14 x15 x16 x17 x18 x19 x20 x21 x22 x23 x24 x25 x26 x27 x28 x29 x30 x31 x32 x33 x34 x35 x36 x37 x38 x39 x40 x41 x42 x43 x44 x45 x46 x47 x48 x49 x50 x51 x52 x53 x54 x55 x56 x57 x58 x59 x60 x61 x62 x63 x64 x65 x66 x67 x68 x69 x70 x71 x72 x73 x74 x75 x76 x77 x78 x79 x80 x81 x82 x83 x84 x85 x86 x87 x88 x89 x90 x91 x92 x93 x94 x95 x96 x97 x98 x99 x100 x101 x102 x103 x104 x105 x106 x107 x108 x109 x110 x111 x112 x113 x114 x115 x116 x117 x118 x119 x120 x121 x122 x123 x124 x125 x126 x127 x128 x129 x130 x131 x132 x133 x134 x135 x136 x137 x138 x139 x140 x141 x142 x143 x144 x145 x146 x147 x148 x149 x150 x151 x152 x153 x154 x155 x156 x157 x158 x159 x160 x161 x162 x163 x164 x165 x166 x167 x168 x169 x170 x171 x172 x173 x174 x175 x176 x177 x178 x179 x180 x181 x182 x183 x184 x185 x186 QQ hI hR hQ
  obtain ⟨Y, hY⟩ : ∃ Y, reqM ts d S = Y := ⟨_, rfl⟩
  rw [hY] at hQ
  unfold reqM at hY
  have hr := hI.rlt
  have HI := hide hI
  have HR := hide hR
  have HT := hide hT
  have HY := hide hY
  have HQQ := hide hQ
  replace hE := hide hE
  have hrq : r ≠ w.heap.size + 1 := by omega
  clear hI hR hT hY hQ
  conv => arg 2; whnf
  replace hN := hide hN
  have HC0 := hide (eat_any (unhide HR) (unhide HT) ⟨#[114, 101, 113, 117, 105, 114, 101, 115]⟩)
  obtain ⟨bo0, hbo0⟩ : ∃ b, isD ts ⟨#[114, 101, 113, 117, 105, 114, 101, 115]⟩ (S) = b := ⟨_, rfl⟩
  unfold eatD at HC0
  rw [hbo0] at HC0
  have HO0 := hide hbo0
  clear hbo0
  go_wp2_with fail
  refine (unhide HC0).mono ?_
  rintro e w0 ⟨rfl, hb0, hR0⟩
  replace HI := hide ((unhide HI).but' hb0)
  replace HR := hide hR0
  have hY1 := unhide HY
  simp only [unhide HO0] at hY1
  replace HY := hide hY1
  clear hY1
  clear hb0 HC0 hR0
  rename_i KJ hJ K0 h0 K1 h1
  replace hJ := hide hJ
  rcases bo0 with _ | _
  rotate_left
  · have hY2 := unhide HY
    simp only [if_true] at hY2
    replace HY := hide hY2
    clear hY2
    have hRR := unhide HR
    rw [if_pos rfl] at hRR
    obtain ⟨S3, hS3⟩ : ∃ Z9, stepD ts (S) = Z9 := ⟨_, rfl⟩
    rw [hS3] at hRR
    replace HR := hide hRR
    have HSt3 := hide hS3
    have hY4 := unhide HY
    simp only [unhide HSt3] at hY4
    replace HY := hide hY4
    clear hY4
    clear hRR hS3
    have HC5 := hide (unhide hE w0 (S3) (unhide HR))
    obtain ⟨⟨t5, S5⟩, hX5⟩ : ∃ X, exD ts (S3) = X := ⟨_, rfl⟩
    rw [hX5] at HC5
    have HX5 := hide hX5
    have hlo5 : w.heap.size + 2 ≤ w0.heap.size := (by have := (blk (unhide HI).b).1; omega)
    clear hX5
    go_wp2_with fail
    refine (unhide HC5).mono ?_
    rintro e w5 ⟨hb5, hR5, v5, rfl, hv5⟩
    have hY6 := unhide HY
    simp only [unhide HX5] at hY6
    replace HY := hide hY6
    clear hY6
    obtain ⟨i5, j5, s5, m5, b5, a5, n5, c5, rfl⟩ := hv5.form
    have HT5 := hide (hv5.keep (lo' := w.heap.size + 2) (Stays.of (Below.refl _ _)) hlo5)
    replace HI := hide ((unhide HI).but' hb5)
    replace HR := hide hR5
    clear hb5 hR5 hv5 HC5 HX5 hlo5
    obtain ⟨B7, eB7, hbB7, hsB7, hhB7⟩ := box_new w5 #[.int .i64 i5, .string s5, .string m5, .bool b5, .slice a5 n5 c5, .int .i64 0, .int .i64 j5] 51
    have ne7 : r ≠ w5.heap.size := by have := (blk (unhide HI).b).1; omega
    have hq7 : w.heap.size + 1 < w5.heap.size := (blk (unhide HI).b).1
    have hbu8 := But.of (r := r) hbB7
    replace HR := hide ((unhide HR).keep hbB7)
    replace HI := hide ((unhide HI).but' hbu8)
    replace HT5 := hide ((unhide HT5).keep (Stays.but hbu8 (by omega)) (Nat.le_refl _))
    have HX7 := hide hhB7
    have HEB7 := hide eB7
    have HSB7 := hide hsB7
    clear eB7 hbB7 hhB7 hsB7
    have u07 := (blk (unhide HX7)).2.1 0 _ rfl
    have u17 := (blk (unhide HX7)).2.1 1 _ rfl
    have u27 := (blk (unhide HX7)).2.1 2 _ rfl
    have u37 := (blk (unhide HX7)).2.1 3 _ rfl
    have u47 := (blk (unhide HX7)).2.1 4 _ rfl
    have u57 := (blk (unhide HX7)).2.1 5 _ rfl
    have u67 := (blk (unhide HX7)).2.1 6 _ rfl
    rw [← unhide HEB7] at u07 u17 u27 u37 u47 u57 u67
    obtain ⟨C9, eC9, hbC9, hsC9, hhC9⟩ := box_new B7 #[.int .i64 i5, .string s5, .string m5, .bool b5, .slice a5 n5 c5, .int .i64 0, .int .i64 j5] 51
    have hls9 := one_ls (unhide HT5) eC9 (by have := (blk (unhide HI).b).1; omega)
    rw [unhide HSB7] at hls9
    have hbu10 := But.of (r := r) hbC9
    replace HR := hide ((unhide HR).keep hbC9)
    replace HI := hide ((unhide HI).but' hbu10)
    replace HX7 := hide ((hbu10.block _ (blk (unhide HX7)).1 (Ne.symm ne7)).trans (unhide HX7))
    have HLs9 := hide hls9
    have HEC9 := hide eC9
    clear hls9 eC9 hbC9 hsC9 hhC9
    have st11_0 := (blk (unhide HI).b).2.1 10 _ rfl
    have sz11_0 := (blk (unhide HI).b).2.2 10
    rw [← unhide HEC9, ← unhide HEB7] at st11_0 sz11_0
    obtain ⟨V11, eV11⟩ : ∃ V, (C9.setCell ⟨w.heap.size + 1, 10, none⟩ (.slice (some ⟨w5.heap.size + 1, 0, none⟩) 1 1)) = V := ⟨_, rfl⟩
    have eN11 : setN C9 (w.heap.size + 1) 10 [.slice (some ⟨w5.heap.size + 1, 0, none⟩) 1 1] = V11 := eV11
    have hD11 : DI w r ({ d with req := [t5] }) ({ x with ra := some ⟨w5.heap.size + 1, 0, none⟩, rn := 1, rc := 1 }) V11 := by rw [← eN11]; exact (unhide HI).set 10 [.slice (some ⟨w5.heap.size + 1, 0, none⟩) 1 1] (show 10 + 1 ≤ 22 by decide) rfl ⟨(unhide HI).inn.ps, (unhide HI).inn.ty, (unhide HLs9), (unhide HI).inn.ens, (unhide HI).inn.mea, (unhide HI).inn.body⟩
    have hR11 : PD V11 r ts (S5) dd := by rw [← eN11]; exact (unhide HR).setN (by omega) 10 [.slice (some ⟨w5.heap.size + 1, 0, none⟩) 1 1]
    replace HX7 := hide (by rw [← eN11]; exact (heap_setN (by omega) [.slice (some ⟨w5.heap.size + 1, 0, none⟩) 1 1] C9 10).trans (unhide HX7) : V11.heap[w5.heap.size]? = some (.cells #[.int .i64 i5, .string s5, .string m5, .bool b5, .slice a5 n5 c5, .int .i64 0, .int .i64 j5] 51))
    replace HLs9 := hide (eN11 ▸ (unhide HLs9).keep (Stays.setN [.slice (some ⟨w5.heap.size + 1, 0, none⟩) 1 1] C9 10 (Stays.of (Below.refl _ _)) (by omega)) (Nat.le_refl _))
    replace HI := hide hD11
    replace HR := hide hR11
    have HEV11 := hide eV11
    clear eV11 eN11 hD11 hR11
    go_wp2_with fail
    rw [unhide HEB7, unhide HEC9, unhide HEV11]
    refine unhide hJ _ _ ?_
    exact (unhide hN) w _ _ _ _ _ _ _ _ _ _ _ _ _ _ _ _ _ _ _ _ _ _ _ _ _ _ _ _ _ _ _ _ _ _ _ _ _ _ _ _ _ _ _ _ _ _ _ _ _ _ _ _ _ _ _ _ _ _ _ _ _ _ _ _ _ _ _ _ _ _ _ _ _ _ _ _ _ _ _ _ _ _ _ _ _ _ _ _ _ _ _ _ _ _ _ _ _ _ _ _ _ _ _ _ _ _ _ _ _ _ _ _ _ _ _ _ _ _ _ _ _ _ _ _ _ _ _ _ _ _ _ _ _ _ _ _ _ _ _ _ _ _ _ _ _ _ _ _ _ _ _ _ _ _ _ _ _ _ _ _ _ _ _ _ _ _ _ _ _ _ _ _ _ _ _ _ _ _ _ _ _ _ _ _ _ _ _ _ (unhide HI) (unhide HR) (by rw [unhide HY]; exact unhide HQQ)
  have hY12 := unhide HY
  simp only [Bool.false_eq_true, if_false] at hY12
  replace HY := hide hY12
  clear hY12
  have hRR := unhide HR
  rw [if_neg Bool.false_ne_true] at hRR
  replace HR := hide hRR
  clear hRR
  go_wp2_with fail
  refine unhide hJ _ _ ?_
  exact (unhide hN) w _ _ _ _ _ _ _ _ _ _ _ _ _ _ _ _ _ _ _ _ _ _ _ _ _ _ _ _ _ _ _ _ _ _ _ _ _ _ _ _ _ _ _ _ _ _ _ _ _ _ _ _ _ _ _ _ _ _ _ _ _ _ _ _ _ _ _ _ _ _ _ _ _ _ _ _ _ _ _ _ _ _ _ _ _ _ _ _ _ _ _ _ _ _ _ _ _ _ _ _ _ _ _ _ _ _ _ _ _ _ _ _ _ _ _ _ _ _ _ _ _ _ _ _ _ _ _ _ _ _ _ _ _ _ _ _ _ _ _ _ _ _ _ _ _ _ _ _ _ _ _ _ _ _ _ _ _ _ _ _ _ _ _ _ _ _ _ _ _ _ _ _ _ _ _ _ _ _ _ _ _ _ _ _ _ _ _ _ (unhide HI) (unhide HR) (by rw [unhide HY]; exact unhide HQQ)
end Go.Proofs.YtljhpbjngbbjbaaDoor

namespace Go.Proofs.YtljhpbjngbbjbaaDoor
open Go Go.RowKit
/-- An expression's cells as an element of a row. -/
def ElE (w : World) (P : Nat → Prop) (cs : List Value) (t : Ex) : Prop := IsEP w P (.agg cs.toArray) t
theorem ee_keep (w w' : World) (P P' : Nat → Prop) (cs : List Value) (t : Ex) (h : ElE w P cs t) (hb : StaysP P w w') (hl : ∀ b, P b → P' b) : ElE w' P' cs t := IsEP.keep h hb hl
theorem ee_bnd (w : World) (P : Nat → Prop) (cs : List Value) (t : Ex) (h : ElE w P cs t) : ElE w (fun b => P b ∧ b < w.heap.size) cs t := IsEP.bnd h
theorem GI.first {w WE B C V : World} {r : Nat} {d : De} {x : DeV} {t : Ex} {x0 x1 x2 x3 x4 x5 x6 : Value} (hI : DI w r d x WE) (ht : IsE WE (w.heap.size + 2) (.agg #[x0, x1, x2, x3, x4, x5, x6]) t) (hB : WE.alloc (.cells #[x0, x1, x2, x3, x4, x5, x6] 51) = B) (hC : B.alloc (.cells #[x0, x1, x2, x3, x4, x5, x6] 51) = C) (hV : C.setCell ⟨w.heap.size + 1, 13, none⟩ (.slice (some ⟨WE.heap.size + 1, 0, none⟩) 1 1) = V) :
    GI ElE d x 13 51 7 w r (fun b => b = WE.heap.size) (WE.heap.size + 1) (.slice (some ⟨WE.heap.size + 1, 0, none⟩) 1 1) [t] [[x0, x1, x2, x3, x4, x5, x6]] V ∧ V.heap[WE.heap.size]? = some (.cells #[x0, x1, x2, x3, x4, x5, x6] 51) := by
  have hbB : Below WE.heap.size WE B := by rw [← hB]; exact (Below.refl _ WE).alloc (Nat.le_refl _) _
  have hbC : Below B.heap.size B C := by rw [← hC]; exact (Below.refl _ B).alloc (Nat.le_refl _) _
  have hsB : B.heap.size = WE.heap.size + 1 := by rw [← hB]; simp
  have hsC : C.heap.size = WE.heap.size + 2 := by rw [← hC]; simp [hsB]
  have hsV : V.heap.size = WE.heap.size + 2 := by rw [← hV]; simp [hsC]
  have hhB : B.heap[WE.heap.size]? = some (.cells #[x0, x1, x2, x3, x4, x5, x6] 51) := by rw [← hB]; exact (MapKept.heap_alloc WE _).1
  have hhC : C.heap[WE.heap.size + 1]? = some (.cells #[x0, x1, x2, x3, x4, x5, x6] 51) := by rw [← hC, ← hsB]; exact (MapKept.heap_alloc B _).1
  have hb1 := (blk hI.b).1
  have hset : ∀ j, j ≠ w.heap.size + 1 → V.heap[j]? = C.heap[j]? := fun j hj => by rw [← hV]; exact Below.heap_setCell C ⟨w.heap.size + 1, 13, none⟩ _ j hj
  have hold : ∀ j, j < WE.heap.size → j ≠ w.heap.size + 1 → V.heap[j]? = WE.heap[j]? := fun j hj hne => (hset j hne).trans ((hbC.block j (by omega)).trans (hbB.block j hj))
  have hr := hI.rlt
  have stw : StaysP (fun b => w.heap.size + 2 ≤ b ∧ b < WE.heap.size) WE V := ⟨by omega, fun j hj _ => hold j hj.2 (by have := hj.1; omega)⟩
  have hP : ∀ b, (w.heap.size + 2 ≤ b ∧ b < WE.heap.size) → (w.heap.size + 2 ≤ b ∧ ¬ b = WE.heap.size ∧ (Value.slice (some ⟨WE.heap.size + 1, 0, none⟩) 1 1).ownBlock ≠ some b) := fun b hb => ⟨hb.1, by have := hb.2; omega, fun e => by
    have e2 : WE.heap.size + 1 = b := by simpa [Value.ownBlock] using e
    have := hb.2
    omega⟩
  have hbw : But r w V := by rw [← hV]; exact but_new ((hI.but.trans (But.of hbB)).trans (But.of hbC)) (by omega) _ _
  have hba : C.heap[w.heap.size + 1]? = some (.cells (deCells d x).toArray 53) := ((hbC.block _ (by omega)).trans (hbB.block _ hb1)).trans hI.b
  refine ⟨⟨hbw, (hold _ (by omega) (by omega)).trans hI.z, ?_, ⟨hr, by omega, by omega, fun b e => ⟨by omega, by omega⟩⟩, ⟨rfl, .inr ⟨WE.heap.size + 1, 1, #[x0, x1, x2, x3, x4, x5, x6], rfl, Nat.le_refl _, (hset _ (by omega)).trans hhC, Nat.le_refl _, by unfold maxLen; omega, rfl, rfl⟩⟩, rfl, ?_, ?_, hI.inn.toP.bnd.keep stw hP⟩, (hset _ (by omega)).trans ((hbC.block _ (by omega)).trans hhB)⟩
  · rw [← hV, set_block hba]
    simp
  · intro y hy
    obtain rfl := List.mem_singleton.1 hy
    rfl
  · intro j y t' hy ht'
    cases j with
    | zero =>
      obtain rfl := Option.some.inj hy
      obtain rfl := Option.some.inj ht'
      exact IsEP.keep (IsEP.bnd ht) stw hP
    | succ j => simp at hy
theorem meaL_no {ts : List (Int × ByteArray × Int)} {n : Nat} {l : List Ex} {S : PS} (h : isD ts ⟨#[44]⟩ S = false) : meaL ts n l S = (l, S) := by
  cases n with
  | zero => rfl
  | succ n => rw [meaL, h]; rfl
theorem meaL_yes {ts : List (Int × ByteArray × Int)} {n : Nat} {l : List Ex} {S : PS} (h : isD ts ⟨#[44]⟩ S = true) : meaL ts (n + 1) l S = meaL ts n (l ++ [(exD ts (stepD ts S)).1]) (exD ts (stepD ts S)).2 := by
  rw [meaL, h]
  rfl
theorem GI.mea {w V : World} {r B0 : Nat} {d : De} {x : DeV} {Xp : Nat → Prop} {a : Option Addr} {m c : Nat} {l : List Ex} {vs : List (List Value)} (h : GI ElE d x 13 51 7 w r Xp B0 (.slice a m c) l vs V) (hl : l.length ≤ 1000000) : DI w r { d with mea := l } { x with ma := a, mn := m, mc := c } V := by
  obtain ⟨a', c', e, h1, h2, h3⟩ := h.row ee_keep hl
  obtain ⟨rfl, rfl, rfl⟩ : a = a' ∧ m = l.length ∧ c = c' := by simpa using e
  have hin := (h.inn.keep (P' := fun b => w.heap.size + 2 ≤ b) ⟨Nat.le_refl _, fun _ _ _ => rfl⟩ fun b hb => hb.1).toN
  refine ⟨h.but, h.z, h.b, ⟨hin.ps, hin.ty, hin.req, hin.ens, ?_, hin.body⟩, h.ord.1⟩
  rcases Nat.eq_zero_or_pos l.length with h0 | hp
  · obtain rfl := List.length_eq_zero_iff.1 h0
    exact ⟨0, a, c, rfl, h1, (by show (0 : Nat) ≤ _; omega), fun h => absurd rfl h⟩
  · obtain ⟨b, off, e2, h4, h5, h6⟩ := h3 (by omega)
    obtain ⟨k, hk⟩ := all_high (W := V) (P := fun b => w.heap.size + 2 ≤ b) (b := b) l off fun j t ht => by
      obtain ⟨cs, h7, h8⟩ := h6 j (List.getElem?_eq_some_iff.1 ht).1
      exact IsEP.at (h8 t ht) ⟨Nat.le_refl _, fun _ _ _ => rfl⟩ h7
    exact ⟨k, a, c, rfl, h1, (by show l.length ≤ _; omega), fun _ => ⟨b, off, e2, h4, h5, fun j _ t ht => hk j t ht⟩⟩
/-- The rest of the rule from its measure on. -/
def dmea_ofS (ts : List (Int × ByteArray × Int)) (M : De → PS → De × PS) (k : Nat) (r dd : Nat) : Prop := ∀ (w W : World) (S : PS) (d : De) (x : DeV) (x4 x5 x6 x7 x8 x9 x10 x11 x12 x13 x14 x15 x16 x17 x18 x19 x20 x21 x22 x23 x24 x25 x26 x27 x28 x29 x30 x31 x32 x33 x34 x35 x36 x37 x38 x39 x40 x41 x42 x43 x44 x45 x46 x47 x48 x49 x50 x51 x52 x53 x54 x55 x56 x57 x58 x59 x60 x61 x62 x63 x64 x65 x66 x67 x68 x69 x70 x71 x72 x73 x74 x75 x76 x77 x78 x79 x80 x81 x82 x83 x84 x85 x86 x87 x88 x89 x90 x91 x92 x93 x94 x95 x96 x97 x98 x99 x100 x101 x102 x103 x104 x105 x106 x107 x108 x109 x110 x111 x112 x113 x114 x115 x116 x117 x118 x119 x120 x121 x122 x123 x124 x125 x126 x127 x128 x129 x130 x131 x132 x133 x134 x135 x136 x137 x138 x139 x140 x141 x142 x143 x144 x145 x146 x147 x148 x149 x150 x151 x152 x153 x154 x155 x156 x157 x158 x159 x160 x161 x162 x163 x164 x165 x166 x167 x168 x169 x170 x171 x172 x173 x174 x175 x176 x177 x178 x179 x180 x181 x182 x183 x184 x185 x186 : Value) (QQ : Exit → Act → World → Prop), DI w r d x W → PD W r ts S dd → bodyPost Tryd.prog Tryd.f36 (DDe (M d S) r ts dd w) = QQ → Code.wp Tryd.prog (dR k Tryd.f36) QQ { tmps := #[.pointer (some ⟨r, 0, none⟩), undef, .pointer (some ⟨w.heap.size, 0, none⟩), .pointer (some ⟨w.heap.size + 1, 0, none⟩), x4, x5, x6, x7, x8, x9, x10, x11, x12, x13, x14, x15, x16, x17, x18, x19, x20, x21, x22, x23, x24, x25, x26, x27, x28, x29, x30, x31, x32, x33, x34, x35, x36, x37, x38, x39, x40, x41, x42, x43, x44, x45, x46, x47, x48, x49, x50, x51, x52, x53, x54, x55, x56, x57, x58, x59, x60, x61, x62, x63, x64, x65, x66, x67, x68, x69, x70, x71, x72, x73, x74, x75, x76, x77, x78, x79, x80, x81, x82, x83, x84, x85, x86, x87, x88, x89, x90, x91, x92, x93, x94, x95, x96, x97, x98, x99, x100, x101, x102, x103, x104, x105, x106, x107, x108, x109, x110, x111, x112, x113, x114, x115, x116, x117, x118, x119, x120, x121, x122, x123, x124, x125, x126, x127, x128, x129, x130, x131, x132, x133, x134, x135, x136, x137, x138, x139, x140, x141, x142, x143, x144, x145, x146, x147, x148, x149, x150, x151, x152, x153, x154, x155, x156, x157, x158, x159, x160, x161, x162, x163, x164, x165, x166, x167, x168, x169, x170, x171, x172, x173, x174, x175, x176, x177, x178, x179, x180, x181, x182, x183, x184, x185, x186], defers := [] } W
set_option maxRecDepth 100000 in
set_option maxHeartbeats 16000000 in
theorem dmea_of {r dd : Nat} {ts : List (Int × ByteArray × Int)} (hT : TsOk ts) (hE : DcC 54 r ts dd (exD ts)) (hN : dend_ofS ts (endM ts) 16 r dd) : dmea_ofS ts (meaM ts) 15 r dd := by
  intro w W S d x x4 x5 x6 x7 x8 x9 x10 x11 x12 x13 x14 x15 x16 x17 x18 x19 x20 x21 x22 x23 x24 x25 x26 x27 x28 x29 x30 x31 x32 x33 x34 x35 x36 x37 x38 x39 x40 x41 x42 x43 x44 x45 x46 x47 x48 x49 x50 x51 x52 x53 x54 x55 x56 x57 x58 x59 x60 x61 x62 x63 x64 x65 x66 x67 x68 x69 x70 x71 x72 x73 x74 x75 x76 x77 x78 x79 x80 x81 x82 x83 x84 x85 x86 x87 x88 x89 x90 x91 x92 x93 x94 x95 x96 x97 x98 x99 x100 x101 x102 x103 x104 x105 x106 x107 x108 x109 x110 x111 x112 x113 x114 x115 x116 x117 x118 x119 x120 x121 x122 x123 x124 x125 x126 x127 x128 x129 x130 x131 x132 x133 x134 x135 x136 x137 x138 x139 x140 x141 x142 x143 x144 x145 x146 x147 x148 x149 x150 x151 x152 x153 x154 x155 x156 x157 x158 x159 x160 x161 x162 x163 x164 x165 x166 x167 x168 x169 x170 x171 x172 x173 x174 x175 x176 x177 x178 x179 x180 x181 x182 x183 x184 x185 x186 QQ hI hR hQ
  obtain ⟨Y, hY⟩ : ∃ Y, meaM ts d S = Y := ⟨_, rfl⟩
  rw [hY] at hQ
  unfold meaM at hY
  have hr := hI.rlt
  have HI := hide hI
  have HR := hide hR
  have HT := hide hT
  have HY := hide hY
  have HQQ := hide hQ
  replace hE := hide hE
  have hrq : r ≠ w.heap.size + 1 := by omega
  clear hI hR hT hY hQ
  conv => arg 2; whnf
  replace hN := hide hN
  have HLT := hide (unhide HR).lt
  have HC0 := hide (eat_any (unhide HR) (unhide HT) ⟨#[100, 101, 99, 114, 101, 97, 115, 101, 115]⟩)
  obtain ⟨bo0, hbo0⟩ : ∃ b, isD ts ⟨#[100, 101, 99, 114, 101, 97, 115, 101, 115]⟩ (S) = b := ⟨_, rfl⟩
  unfold eatD at HC0
  rw [hbo0] at HC0
  have HO0 := hide hbo0
  clear hbo0
  go_wp2_with fail
  refine (unhide HC0).mono ?_
  rintro e w0 ⟨rfl, hb0, hR0⟩
  replace HI := hide ((unhide HI).but' hb0)
  replace HR := hide hR0
  have hY1 := unhide HY
  simp only [unhide HO0] at hY1
  replace HY := hide hY1
  clear hY1
  clear hb0 HC0 hR0
  rename_i KJ hJ K0 h0 K1 h1
  replace hJ := hide hJ
  rcases bo0 with _ | _
  rotate_left
  · have hY2 := unhide HY
    simp only [if_true] at hY2
    replace HY := hide hY2
    clear hY2
    have hRR := unhide HR
    rw [if_pos rfl] at hRR
    obtain ⟨S3, hS3⟩ : ∃ Z9, stepD ts (S) = Z9 := ⟨_, rfl⟩
    rw [hS3] at hRR
    replace HR := hide hRR
    have HSt3 := hide hS3
    have hY4 := unhide HY
    simp only [unhide HSt3] at hY4
    replace HY := hide hY4
    clear hY4
    clear hRR hS3
    have HC5 := hide (unhide hE w0 (S3) (unhide HR))
    obtain ⟨⟨t5, S5⟩, hX5⟩ : ∃ X, exD ts (S3) = X := ⟨_, rfl⟩
    rw [hX5] at HC5
    have HX5 := hide hX5
    have HXE9 := hide hX5
    have hlo5 : w.heap.size + 2 ≤ w0.heap.size := (by have := (blk (unhide HI).b).1; omega)
    clear hX5
    go_wp2_with fail
    refine (unhide HC5).mono ?_
    rintro e w5 ⟨hb5, hR5, v5, rfl, hv5⟩
    have hY6 := unhide HY
    simp only [unhide HX5] at hY6
    replace HY := hide hY6
    clear hY6
    obtain ⟨i5, j5, s5, m5, b5, a5, n5, c5, rfl⟩ := hv5.form
    have HT5 := hide (hv5.keep (lo' := w.heap.size + 2) (Stays.of (Below.refl _ _)) hlo5)
    replace HI := hide ((unhide HI).but' hb5)
    replace HR := hide hR5
    clear hb5 hR5 hv5 HC5 HX5 hlo5
    have HI0 := HI
    have HT0 := HT5
    obtain ⟨B7, eB7, hbB7, hsB7, hhB7⟩ := box_new w5 #[.int .i64 i5, .string s5, .string m5, .bool b5, .slice a5 n5 c5, .int .i64 0, .int .i64 j5] 51
    have ne7 : r ≠ w5.heap.size := by have := (blk (unhide HI).b).1; omega
    have hq7 : w.heap.size + 1 < w5.heap.size := (blk (unhide HI).b).1
    have hbu8 := But.of (r := r) hbB7
    replace HR := hide ((unhide HR).keep hbB7)
    replace HI := hide ((unhide HI).but' hbu8)
    replace HT5 := hide ((unhide HT5).keep (Stays.but hbu8 (by omega)) (Nat.le_refl _))
    have HX7 := hide hhB7
    have HEB7 := hide eB7
    have HSB7 := hide hsB7
    clear eB7 hbB7 hhB7 hsB7
    have u07 := (blk (unhide HX7)).2.1 0 _ rfl
    have u17 := (blk (unhide HX7)).2.1 1 _ rfl
    have u27 := (blk (unhide HX7)).2.1 2 _ rfl
    have u37 := (blk (unhide HX7)).2.1 3 _ rfl
    have u47 := (blk (unhide HX7)).2.1 4 _ rfl
    have u57 := (blk (unhide HX7)).2.1 5 _ rfl
    have u67 := (blk (unhide HX7)).2.1 6 _ rfl
    rw [← unhide HEB7] at u07 u17 u27 u37 u47 u57 u67
    obtain ⟨C9, eC9, hbC9, hsC9, hhC9⟩ := box_new B7 #[.int .i64 i5, .string s5, .string m5, .bool b5, .slice a5 n5 c5, .int .i64 0, .int .i64 j5] 51
    have hls9 := one_ls (unhide HT5) eC9 (by have := (blk (unhide HI).b).1; omega)
    rw [unhide HSB7] at hls9
    have hbu10 := But.of (r := r) hbC9
    replace HR := hide ((unhide HR).keep hbC9)
    replace HI := hide ((unhide HI).but' hbu10)
    replace HX7 := hide ((hbu10.block _ (blk (unhide HX7)).1 (Ne.symm ne7)).trans (unhide HX7))
    have HLs9 := hide hls9
    have HEC9 := hide eC9
    clear hls9 eC9 hbC9 hsC9 hhC9
    have st11_0 := (blk (unhide HI).b).2.1 13 _ rfl
    have sz11_0 := (blk (unhide HI).b).2.2 13
    rw [← unhide HEC9, ← unhide HEB7] at st11_0 sz11_0
    obtain ⟨V11, eV11⟩ : ∃ V, (C9.setCell ⟨w.heap.size + 1, 13, none⟩ (.slice (some ⟨w5.heap.size + 1, 0, none⟩) 1 1)) = V := ⟨_, rfl⟩
    have eN11 : setN C9 (w.heap.size + 1) 13 [.slice (some ⟨w5.heap.size + 1, 0, none⟩) 1 1] = V11 := eV11
    have hD11 : DI w r ({ d with mea := [t5] }) ({ x with ma := some ⟨w5.heap.size + 1, 0, none⟩, mn := 1, mc := 1 }) V11 := by rw [← eN11]; exact (unhide HI).set 13 [.slice (some ⟨w5.heap.size + 1, 0, none⟩) 1 1] (show 13 + 1 ≤ 22 by decide) rfl ⟨(unhide HI).inn.ps, (unhide HI).inn.ty, (unhide HI).inn.req, (unhide HI).inn.ens, (unhide HLs9), (unhide HI).inn.body⟩
    have hR11 : PD V11 r ts (S5) dd := by rw [← eN11]; exact (unhide HR).setN (by omega) 13 [.slice (some ⟨w5.heap.size + 1, 0, none⟩) 1 1]
    replace HX7 := hide (by rw [← eN11]; exact (heap_setN (by omega) [.slice (some ⟨w5.heap.size + 1, 0, none⟩) 1 1] C9 13).trans (unhide HX7) : V11.heap[w5.heap.size]? = some (.cells #[.int .i64 i5, .string s5, .string m5, .bool b5, .slice a5 n5 c5, .int .i64 0, .int .i64 j5] 51))
    replace HLs9 := hide (eN11 ▸ (unhide HLs9).keep (Stays.setN [.slice (some ⟨w5.heap.size + 1, 0, none⟩) 1 1] C9 13 (Stays.of (Below.refl _ _)) (by omega)) (Nat.le_refl _))
    replace HI := hide hD11
    replace HR := hide hR11
    have HEV11 := hide eV11
    clear eV11 eN11 hD11 hR11
    obtain ⟨hG0, hA0⟩ := GI.first (unhide HI0) (unhide HT0) (unhide HEB7) (unhide HEC9) (unhide HEV11)
    have HG0 := hide hG0
    have HA0 := hide hA0
    clear hG0 hA0 HI0 HT0
    go_wp2_with fail
    rw [unhide HEB7, unhide HEC9, unhide HEV11]
    obtain ⟨aq, haq⟩ : ∃ aq, w5.heap.size = aq := ⟨_, rfl⟩
    rw [haq] at HG0 HA0
    rw [haq]
    have hst0 : Hid (1 ≤ (S5).i) := by
      have h1 := isD_e (unhide HO0)
      have h2 := stepD_i (ts := ts) h1 (isD_lt (unhide HT) (unhide HLT) (unhide HO0))
      have h3 := gD_le ts 200 .rE (stepD ts S)
      show 1 ≤ _
      rw [unhide HSt3] at h2 h3
      rw [show gD ts 200 .rE S3 = _ from unhide HXE9] at h3
      rw [h2] at h3
      have h4 : S.i + 1 ≤ (S5).i := h3
      omega
    go_loopw [] (fun wr => ∃ l vs S n g m c y0 y1 y2 y3 y4 y5 y6, Hid (m = l.length ∧ l.length ≤ S.i) ∧ Hid (GI ElE d x 13 51 7 w r (fun b => b = aq) (aq + 1) (.slice (some ⟨g, 0, none⟩) m c) l vs wr) ∧ Hid (wr.heap[aq]? = some (.cells #[y0, y1, y2, y3, y4, y5, y6] 51)) ∧ Hid (PD wr r ts S dd) ∧ Hid ((match meaL ts n l S with | (l', s') => endM ts { d with mea := l' } s') = Y) ∧ Hid (S.e = 0 → ts.length ≤ S.i + n)) (fun wr => ts.length - (intOf ((wr.cell? ⟨r, 1, none⟩).getD undef)).toNat)
    case atStart => exact ⟨[t5], _, S5, ts.length, _, 1, _, _, _, _, _, _, _, _, ⟨rfl, unhide hst0⟩, HG0, HA0, HR, HY, fun _ => Nat.le_add_left _ _⟩
    case round =>
      obtain ⟨l, vs, S', n, g, m, c, y0, y1, y2, y3, y4, y5, y6, hl, hGI, hA, hPD, hch, hfu⟩ := hrel
      obtain ⟨bo, hbo⟩ : ∃ b, isD ts ⟨#[44]⟩ S' = b := ⟨_, rfl⟩
      have HC := hide (eat_any (unhide hPD) (unhide HT) ⟨#[44]⟩)
      unfold eatD at HC
      rw [hbo] at HC
      have HO := hide hbo
      have HP0 := hide (unhide hPD).lt
      have hcur : Hid (wr.cell? ⟨r, 1, none⟩ = some (.int .i64 S'.i)) := by
        obtain ⟨g', c', p0, p1, -⟩ := (unhide hPD).facts (Below.refl _ _)
        exact p1
      have hraq : r ≠ aq := by
        obtain ⟨o1, o2, o3, o4⟩ := (unhide hGI).ord
        have := (o4 aq rfl).2
        omega
      clear hbo
      go_wp2_with fail
      refine (unhide HC).mono ?_
      rintro e w9 ⟨rfl, hb9, hR9⟩
      have HG9 := hide ((unhide hGI).but' ee_keep hb9)
      have HA9 := hide ((hb9.block aq (blk (unhide hA)).1 (Ne.symm hraq)).trans (unhide hA))
      clear hb9 HC hGI hA hPD
      rcases bo with _ | _
      · rw [if_neg Bool.false_ne_true] at hR9
        have hDI := hide ((unhide HG9).mea (by have := (unhide hl).2; have := unhide HP0; have := (unhide HT).len; omega))
        have hY2 : endM ts { d with mea := l } S' = Y := by
          have h := unhide hch
          rw [meaL_no (unhide HO)] at h
          exact h
        have HY2 := hide hY2
        have HR9 := hide hR9
        clear hY2 hR9
        go_wp2_with fail
        refine unhide hJ _ _ ?_
        exact (unhide hN) w _ _ _ _ _ _ _ _ _ _ _ _ _ _ _ _ _ _ _ _ _ _ _ _ _ _ _ _ _ _ _ _ _ _ _ _ _ _ _ _ _ _ _ _ _ _ _ _ _ _ _ _ _ _ _ _ _ _ _ _ _ _ _ _ _ _ _ _ _ _ _ _ _ _ _ _ _ _ _ _ _ _ _ _ _ _ _ _ _ _ _ _ _ _ _ _ _ _ _ _ _ _ _ _ _ _ _ _ _ _ _ _ _ _ _ _ _ _ _ _ _ _ _ _ _ _ _ _ _ _ _ _ _ _ _ _ _ _ _ _ _ _ _ _ _ _ _ _ _ _ _ _ _ _ _ _ _ _ _ _ _ _ _ _ _ _ _ _ _ _ _ _ _ _ _ _ _ _ _ _ _ _ _ _ _ _ _ _ (unhide hDI) (unhide HR9) (by rw [unhide HY2]; exact unhide HQQ)
      · rw [if_pos rfl] at hR9
        obtain ⟨⟨t7, S7⟩, hX7⟩ : ∃ X, exD ts (stepD ts S') = X := ⟨_, rfl⟩
        have HC := hide (unhide hE w9 (stepD ts S') hR9)
        rw [hX7] at HC
        have HX7 := hide hX7
        clear hX7 hR9
        go_wp2_with fail
        refine (unhide HC).mono ?_
        rintro e w7 ⟨hb7, hR7, v7, rfl, hv7⟩
        obtain ⟨i7, j7, s7, m7, b7, a7, n7, c7, rfl⟩ := hv7.form
        have hG9 := unhide HG9
        have hA9 := unhide HA9
        obtain ⟨o1, o2, o3, o4⟩ := hG9.ord
        have ha7 := (hb7.block aq (blk hA9).1 (Ne.symm hraq)).trans hA9
        have hG7 := hG9.but' ee_keep hb7
        obtain ⟨V8, hV8⟩ : ∃ V8, (((((((w7.setCell ⟨aq, 0, none⟩ (.int .i64 i7)).setCell ⟨aq, 1, none⟩ (.string s7)).setCell ⟨aq, 2, none⟩ (.string m7)).setCell ⟨aq, 3, none⟩ (.bool b7)).setCell ⟨aq, 4, none⟩ (.slice a7 n7 c7)).setCell ⟨aq, 5, none⟩ (.int .i64 0)).setCell ⟨aq, 6, none⟩ (.int .i64 j7)) = V8 := ⟨_, rfl⟩
        have hbq : But aq w7 V8 := by rw [← hV8]; exact ((((((((But.refl aq w7).set 0 _).set 1 _).set 2 _).set 3 _).set 4 _).set 5 _).set 6 _)
        have hs8 : V8.heap.size = w7.heap.size := by rw [← hV8]; simp
        have ha8 : V8.heap[aq]? = some (.cells #[.int .i64 i7, .string s7, .string m7, .bool b7, .slice a7 n7 c7, .int .i64 0, .int .i64 j7] 51) := by rw [← hV8]; exact fill7 ha7
        have haqw := (o4 aq rfl).2
        have hx8 := (hbq.block _ (blk hG7.b).1 (by omega)).trans hG7.b
        have hown8 : V8.ownsRow (aq + 1) 51 7 (.slice (some ⟨g, 0, none⟩) m c) l.length vs.flatten := by
          obtain ⟨h1, h2 | ⟨g', cap', cur', e', hB', hc', hr'⟩⟩ := hG7.own
          · exact ⟨h1, .inl h2⟩
          · exact ⟨h1, .inr ⟨g', cap', cur', e', hB', (hbq.block _ (blk hc').1 (by omega)).trans hc', hr'⟩⟩
        have hlb : l.length ≤ 100000 := by
          have := (unhide hl).2
          have := unhide HP0
          have := (unhide HT).len
          omega
        obtain ⟨hq, cap, wa, happ, hoa, hga, hwa⟩ := ex_app i7 j7 s7 m7 b7 a7 n7 c7 hown8 hlb (by have := (blk ha7).1; omega)
        obtain ⟨hG1, hwx, hkk⟩ := hG9.more ee_keep ee_bnd (t7 := t7) (cs := [.int .i64 i7, .string s7, .string m7, .bool b7, .slice a7 n7 c7, .int .i64 0, .int .i64 j7]) (P7 := fun b => w9.heap.size ≤ b) hb7 rfl hv7 (fun b hb h => ⟨by have := (blk hG9.b).1; omega, by have := (blk hA9).1; omega, fun e => by have := (hG9.own.lt b e).2; omega⟩) (fun j hj hx => hbq.block j hj hx) (by omega) ⟨hbq.os, hbq.tape, hbq.output⟩ hoa hga hwa
        have hR1 := hR7.out (w' := wa.setCell ⟨w.heap.size + 1, 13, none⟩ (.slice (some ⟨hq, 0, none⟩) (l.length + 1) cap)) o1 (fun k hk => hkk k hk)
        have hA1 : (wa.setCell ⟨w.heap.size + 1, 13, none⟩ (.slice (some ⟨hq, 0, none⟩) (l.length + 1) cap)).heap[aq]? = some (.cells #[.int .i64 i7, .string s7, .string m7, .bool b7, .slice a7 n7 c7, .int .i64 0, .int .i64 j7] 51) := by
          refine (Below.heap_setCell wa ⟨w.heap.size + 1, 13, none⟩ _ aq (by show aq ≠ w.heap.size + 1; omega)).trans ?_
          rw [hga.block aq (by have := (blk ha8).1; simp; omega) (fun e => by have := (hG9.own.lt aq e.symm).1; omega)]
          exact (((Below.refl _ V8).alloc (Nat.le_refl _) _).block aq (blk ha8).1).trans ha8
        obtain ⟨y0, y1, y2, y3, y4, y5, y6⟩ := blk7 ha7
        obtain ⟨z0, z1, z2, z3, z4, z5, z6⟩ := frz7 ha7
        have xf : V8.cell? ⟨w.heap.size + 1, 13, none⟩ = some (.slice (some ⟨g, 0, none⟩) m c) := (blk hx8).2.1 13 _ rfl
        obtain ⟨q0, q1, q2, q3, q4, q5, q6⟩ := blk7 ha8
        have wx4 := (blk hwx).2.1 13 _ rfl
        have wf4 := (blk hwx).2.2 13
        have HI1 := hide (And.intro hG1 (And.intro hR1 hA1))
        rw [(unhide hl).1.symm] at happ
        have HV8 := hide hV8
        have R1 := hide happ
        clear HC hb7 hR7 hv7 hG9 hA9 o1 o2 o3 o4 ha7 hG7 hV8 hbq hs8 ha8 haqw hx8 hown8 hlb happ hoa hga hwa hG1 hwx hkk hR1 hA1
        rename_i K1 h1 K2 h2
        replace h1 := hide h1
        go_wp2_with fail
        rw [unhide HV8]
        refine unhide h1 _ _ ?_
        go_wp2_with (at_builtin; refine app_run _ _ _ rfl rfl rfl rfl (unhide R1) ?_; clear R1)
        obtain ⟨hG1, hR1, hA1⟩ := unhide HI1
        have he0 := isD_e (unhide HO)
        have hsi := stepD_i (ts := ts) he0 (isD_lt (unhide HT) (unhide HP0) (unhide HO))
        have hle := gD_le ts 200 .rE (stepD ts S')
        rw [show gD ts 200 .rE (stepD ts S') = _ from unhide HX7, hsi] at hle
        replace hle : S'.i + 1 ≤ S7.i := hle
        obtain ⟨n, rfl⟩ : ∃ k, n = k + 1 := ⟨n - 1, by have := unhide hfu he0; have := unhide HP0; omega⟩
        have hch1 := unhide hch
        rw [meaL_yes (unhide HO), unhide HX7] at hch1
        obtain ⟨g', c', p0, p1, -⟩ := hR1.facts (Below.refl _ _)
        obtain ⟨hl1, hl2⟩ := unhide hl
        have hP0 := unhide HP0
        have hfu0 := unhide hfu he0
        subst hl1
        refine ⟨⟨l ++ [t7], _, S7, n, hq, l.length + 1, cap, _, _, _, _, _, _, _, ⟨by simp, by simp; omega⟩, hide hG1, hide hA1, hide hR1, hide hch1, fun _ => by omega⟩, ?_⟩
        rw [p1, unhide hcur]
        simp [intOf]
        omega
  have hY12 := unhide HY
  simp only [Bool.false_eq_true, if_false] at hY12
  replace HY := hide hY12
  clear hY12
  have hRR := unhide HR
  rw [if_neg Bool.false_ne_true] at hRR
  replace HR := hide hRR
  clear hRR
  go_wp2_with fail
  refine unhide hJ _ _ ?_
  exact (unhide hN) w _ _ _ _ _ _ _ _ _ _ _ _ _ _ _ _ _ _ _ _ _ _ _ _ _ _ _ _ _ _ _ _ _ _ _ _ _ _ _ _ _ _ _ _ _ _ _ _ _ _ _ _ _ _ _ _ _ _ _ _ _ _ _ _ _ _ _ _ _ _ _ _ _ _ _ _ _ _ _ _ _ _ _ _ _ _ _ _ _ _ _ _ _ _ _ _ _ _ _ _ _ _ _ _ _ _ _ _ _ _ _ _ _ _ _ _ _ _ _ _ _ _ _ _ _ _ _ _ _ _ _ _ _ _ _ _ _ _ _ _ _ _ _ _ _ _ _ _ _ _ _ _ _ _ _ _ _ _ _ _ _ _ _ _ _ _ _ _ _ _ _ _ _ _ _ _ _ _ _ _ _ _ _ _ _ _ _ _ (unhide HI) (unhide HR) (by rw [unhide HY]; exact unhide HQQ)
end Go.Proofs.YtljhpbjngbbjbaaDoor
