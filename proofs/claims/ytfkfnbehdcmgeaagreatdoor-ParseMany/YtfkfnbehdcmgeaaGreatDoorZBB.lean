/- The document's parser: its parameters. -/
import Derived.Test.YtfkfnbehdcmgeaaGreatDoorZBA
set_option linter.unusedVariables false
set_option linter.unusedSimpArgs false
namespace Go.Proofs.YtfkfnbehdcmgeaaGreatDoor
open Go Go.RowKit
def dend_ofS (ts:List (Int×ByteArray×Int)) (M:De→PS→De×PS) (k:Nat) (r dd:Nat):Prop:=∀ (w W:World) (S:PS) (d:De) (x:DeV) (x4 x5 x6 x7 x8 x9 x10 x11 x12 x13 x14 x15 x16 x17 x18 x19 x20 x21 x22 x23 x24 x25 x26 x27 x28 x29 x30 x31 x32 x33 x34 x35 x36 x37 x38 x39 x40 x41 x42 x43 x44 x45 x46 x47 x48 x49 x50 x51 x52 x53 x54 x55 x56 x57 x58 x59 x60 x61 x62 x63 x64 x65 x66 x67 x68 x69 x70 x71 x72 x73 x74 x75 x76 x77 x78 x79 x80 x81 x82 x83 x84 x85 x86 x87 x88 x89 x90 x91 x92 x93 x94 x95 x96 x97 x98 x99 x100 x101 x102 x103 x104 x105 x106 x107 x108 x109 x110 x111 x112 x113 x114 x115 x116 x117 x118 x119 x120 x121 x122 x123 x124 x125 x126 x127 x128 x129 x130 x131 x132 x133 x134 x135 x136 x137 x138 x139 x140 x141 x142 x143 x144 x145 x146 x147 x148 x149 x150 x151 x152 x153 x154 x155 x156 x157 x158 x159 x160 x161 x162 x163 x164 x165 x166 x167 x168 x169 x170 x171 x172 x173 x174 x175 x176 x177 x178 x179 x180 x181 x182 x183 x184 x185 x186:Value) (QQ:Exit→Act→World→Prop),DI w r d x W→PD W r ts S dd→bodyPost Tryz.prog Tryz.f32 (DDe (M d S) r ts dd w)=QQ→Code.wp Tryz.prog (dR k Tryz.f32) QQ { tmps:=#[.pointer (some ⟨r,0,none⟩),undef,.pointer (some ⟨w.heap.size,0,none⟩),.pointer (some ⟨w.heap.size+1,0,none⟩),x4,x5,x6,x7,x8,x9,x10,x11,x12,x13,x14,x15,x16,x17,x18,x19,x20,x21,x22,x23,x24,x25,x26,x27,x28,x29,x30,x31,x32,x33,x34,x35,x36,x37,x38,x39,x40,x41,x42,x43,x44,x45,x46,x47,x48,x49,x50,x51,x52,x53,x54,x55,x56,x57,x58,x59,x60,x61,x62,x63,x64,x65,x66,x67,x68,x69,x70,x71,x72,x73,x74,x75,x76,x77,x78,x79,x80,x81,x82,x83,x84,x85,x86,x87,x88,x89,x90,x91,x92,x93,x94,x95,x96,x97,x98,x99,x100,x101,x102,x103,x104,x105,x106,x107,x108,x109,x110,x111,x112,x113,x114,x115,x116,x117,x118,x119,x120,x121,x122,x123,x124,x125,x126,x127,x128,x129,x130,x131,x132,x133,x134,x135,x136,x137,x138,x139,x140,x141,x142,x143,x144,x145,x146,x147,x148,x149,x150,x151,x152,x153,x154,x155,x156,x157,x158,x159,x160,x161,x162,x163,x164,x165,x166,x167,x168,x169,x170,x171,x172,x173,x174,x175,x176,x177,x178,x179,x180,x181,x182,x183,x184,x185,x186],defers:=[] } W
set_option maxRecDepth 100000 in
set_option maxHeartbeats 16000000 in
theorem dend_of {r dd:Nat} {ts:List (Int×ByteArray×Int)} (hT:TsOk ts) (hE:DcC 37 r ts dd (exD ts)):dend_ofS ts (endM ts) 16 r dd:=by
 intro w W S d x x4 x5 x6 x7 x8 x9 x10 x11 x12 x13 x14 x15 x16 x17 x18 x19 x20 x21 x22 x23 x24 x25 x26 x27 x28 x29 x30 x31 x32 x33 x34 x35 x36 x37 x38 x39 x40 x41 x42 x43 x44 x45 x46 x47 x48 x49 x50 x51 x52 x53 x54 x55 x56 x57 x58 x59 x60 x61 x62 x63 x64 x65 x66 x67 x68 x69 x70 x71 x72 x73 x74 x75 x76 x77 x78 x79 x80 x81 x82 x83 x84 x85 x86 x87 x88 x89 x90 x91 x92 x93 x94 x95 x96 x97 x98 x99 x100 x101 x102 x103 x104 x105 x106 x107 x108 x109 x110 x111 x112 x113 x114 x115 x116 x117 x118 x119 x120 x121 x122 x123 x124 x125 x126 x127 x128 x129 x130 x131 x132 x133 x134 x135 x136 x137 x138 x139 x140 x141 x142 x143 x144 x145 x146 x147 x148 x149 x150 x151 x152 x153 x154 x155 x156 x157 x158 x159 x160 x161 x162 x163 x164 x165 x166 x167 x168 x169 x170 x171 x172 x173 x174 x175 x176 x177 x178 x179 x180 x181 x182 x183 x184 x185 x186 QQ hI hR hQ
 obtain ⟨Y,hY⟩:∃ Y,endM ts d S=Y:=⟨_,rfl⟩
 rw [hY] at hQ
 unfold endM at hY
 have hr:=hI.rlt
 have HI:=gh hI
 have HR:=gh hR
 have HT:=gh hT
 have HY:=gh hY
 have HQQ:=gh hQ
 replace hE:=gh hE
 have hrq:r≠w.heap.size+1:=by omega
 clear hI hR hT hY hQ
 conv=>arg 2;whnf
 obtain ⟨S0,hS0⟩:∃ Z9,mustD ts ⟨#[105,115]⟩ (S)=Z9:=⟨_,rfl⟩
 have HC0:=gh (dmust_any (gf HR) (gf HT) ⟨#[105,115]⟩)
 rw [hS0] at HC0
 have HS0:=gh hS0
 clear hS0
 go_wp2_with fail
 refine (gf HC0).mono ?_
 rintro e w0 ⟨rfl,hb0,hR0⟩
 have hY1:=gf HY
 simp only [gf HS0] at hY1
 replace HY:=gh hY1
 clear hY1
 replace HI:=gh ((gf HI).but' hb0)
 replace HR:=gh hR0
 clear hb0 hR0 HC0 HS0
 have HC2:=gh (gf hE w0 (S0) (gf HR))
 obtain ⟨⟨t2,S2⟩,hX2⟩:∃ X,exD ts (S0)=X:=⟨_,rfl⟩
 rw [hX2] at HC2
 have HX2:=gh hX2
 have hlo2:w.heap.size+2≤w0.heap.size:=(by have:=(blk (gf HI).b).1;omega)
 clear hX2
 go_wp2_with fail
 refine (gf HC2).mono ?_
 rintro e w2 ⟨hb2,hR2,v2,rfl,hv2⟩
 have hY3:=gf HY
 simp only [gf HX2] at hY3
 replace HY:=gh hY3
 clear hY3
 obtain ⟨i2,j2,s2,m2,b2,a2,n2,c2,rfl⟩:=hv2.form
 have HT2:=gh (hv2.keep (lo':=w.heap.size+2) (Stays.of (Below.refl _ _)) hlo2)
 replace HI:=gh ((gf HI).but' hb2)
 replace HR:=gh hR2
 clear hb2 hR2 hv2 HC2 HX2 hlo2
 obtain ⟨rfl,rfl,rfl,rfl,rfl,hls2⟩:=IsE.ls (gf HT2)
 have HLs2:=gh hls2
 clear hls2 HT2
 have st4_0:=(blk (gf HI).b).2.1 14 _ rfl
 have sz4_0:=(blk (gf HI).b).2.2 14
 have st4_1:=(blk (gf HI).b).2.1 15 _ rfl
 have sz4_1:=(blk (gf HI).b).2.2 15
 have st4_2:=(blk (gf HI).b).2.1 16 _ rfl
 have sz4_2:=(blk (gf HI).b).2.2 16
 have st4_3:=(blk (gf HI).b).2.1 17 _ rfl
 have sz4_3:=(blk (gf HI).b).2.2 17
 have st4_4:=(blk (gf HI).b).2.1 18 _ rfl
 have sz4_4:=(blk (gf HI).b).2.2 18
 have st4_5:=(blk (gf HI).b).2.1 19 _ rfl
 have sz4_5:=(blk (gf HI).b).2.2 19
 have st4_6:=(blk (gf HI).b).2.1 20 _ rfl
 have sz4_6:=(blk (gf HI).b).2.2 20
 obtain ⟨V4,eV4⟩:∃ V,(((((((w2.setCell ⟨w.heap.size+1,14,none⟩ (.int .i64 t2.op)).setCell ⟨w.heap.size+1,15,none⟩ (.string t2.name)).setCell ⟨w.heap.size+1,16,none⟩ (.string t2.num)).setCell ⟨w.heap.size+1,17,none⟩ (.bool t2.b)).setCell ⟨w.heap.size+1,18,none⟩ (.slice a2 n2 c2)).setCell ⟨w.heap.size+1,19,none⟩ (.int .i64 0)).setCell ⟨w.heap.size+1,20,none⟩ (.int .i64 t2.at'))=V:=⟨_,rfl⟩
 have eN4:setN w2 (w.heap.size+1) 14 [.int .i64 t2.op,.string t2.name,.string t2.num,.bool t2.b,.slice a2 n2 c2,.int .i64 0,.int .i64 t2.at']=V4:=eV4
 have hD4:DI w r ({ d with body:=t2 }) ({ x with ba:=a2,bn:=n2,bc:=c2 }) V4:=by rw [←eN4];exact (gf HI).set 14 [.int .i64 t2.op,.string t2.name,.string t2.num,.bool t2.b,.slice a2 n2 c2,.int .i64 0,.int .i64 t2.at'] (show 14+7≤22 by decide) rfl ⟨(gf HI).inn.ps,(gf HI).inn.ty,(gf HI).inn.req,(gf HI).inn.ens,(gf HI).inn.mea,(gf HLs2)⟩
 have hR4:PD V4 r ts (S2) dd:=by rw [←eN4];exact (gf HR).setN (by omega) 14 [.int .i64 t2.op,.string t2.name,.string t2.num,.bool t2.b,.slice a2 n2 c2,.int .i64 0,.int .i64 t2.at']
 replace HLs2:=gh (eN4▸(gf HLs2).keep (Stays.setN [.int .i64 t2.op,.string t2.name,.string t2.num,.bool t2.b,.slice a2 n2 c2,.int .i64 0,.int .i64 t2.at'] w2 14 (Stays.of (Below.refl _ _)) (by omega)) (Nat.le_refl _))
 replace HI:=gh hD4
 replace HR:=gh hR4
 have HEV4:=gh eV4
 clear eV4 eN4 hD4 hR4
 obtain ⟨S5,hS5⟩:∃ Z9,mustD ts ⟨#[59,59]⟩ (S2)=Z9:=⟨_,rfl⟩
 have HC5:=gh (dmust_any (gf HR) (gf HT) ⟨#[59,59]⟩)
 rw [hS5] at HC5
 have HS5:=gh hS5
 clear hS5
 go_wp2_with fail
 rw [gf HEV4]
 refine (gf HC5).mono ?_
 rintro e w5 ⟨rfl,hb5,hR5⟩
 have hY6:=gf HY
 simp only [gf HS5] at hY6
 replace HY:=gh hY6
 clear hY6
 replace HI:=gh ((gf HI).but' hb5)
 replace HR:=gh hR5
 clear hb5 hR5 HC5 HS5
 have HLd:=gh (range_block (gf HI).b)
 have HTh:=gh (there_of (o:=0) (n:=22) (gf HI).z (by decide))
 go_wp2_with (first | ((with_reducible refine ld_de (x:=.tmp 3) (b:=w.heap.size+1) (deCells ({ d with body:=t2 }) ({ x with ba:=a2,bn:=n2,bc:=c2 })) ?_ ?_ ?_ (gf HLd) ?_ ?_);exact rfl;exact rfl;exact rfl;exact rfl;clear HLd) | ((with_reducible refine st_de (x:=.tmp 2) (y:=.tmp 186) (b:=w.heap.size) (deCells ({ d with body:=t2 }) ({ x with ba:=a2,bn:=n2,bc:=c2 })) ?_ ?_ ?_ ?_ (gf HTh) ?_ ?_ ?_);exact rfl;exact rfl;exact rfl;exact rfl;exact rfl;exact rfl;clear HTh;intro W9 eW9;refine ?roundEnd))
 case roundEnd =>
  refine wpList_nil ?_
  refine (‹∀ (a:Act) (w:World),Code.wp Tryz.prog Code.ret _ a w→_› : ∀ (a:Act) (w:World),Code.wp Tryz.prog Code.ret _ a w→_) _ _ (wp_ret ?_)
  have e9:=gf eW9
  clear eW9
  subst e9
  rw [←gf HQQ]
  exact dret_de rfl rfl rfl (gf HI) (gf HR) (gf HY).symm
end Go.Proofs.YtfkfnbehdcmgeaaGreatDoor
namespace Go.Proofs.YtfkfnbehdcmgeaaGreatDoor
open Go Go.RowKit
def effM (ts:List (Int×ByteArray×Int)) (d:De) (st:PS):De×PS:=if d.eff=0 then typM ts d (st.fail (tD ts st).2.2 150) else typM ts d st
def deff_ofS (ts:List (Int×ByteArray×Int)) (M:De→PS→De×PS) (k:Nat) (r dd:Nat):Prop:=∀ (w W:World) (S:PS) (d:De) (x:DeV) (x4 x5 x6 x7 x8 x9 x10 x11 x12 x13 x14 x15 x16 x17 x18 x19 x20 x21 x22 x23 x24 x25 x26 x27 x28 x29 x30 x31 x32 x33 x34 x35 x36 x37 x38 x39 x40 x41 x42 x43 x44 x45 x46 x47 x48 x49 x50 x51 x52 x53 x54 x55 x56 x57 x58 x59 x60 x61 x62 x63 x64 x65 x66 x67 x68 x69 x70 x71 x72 x73 x74 x75 x76 x77 x78 x79 x80 x81 x82 x83 x84 x85 x86 x87 x88 x89 x90 x91 x92 x93 x94 x95 x96 x97 x98 x99 x100 x101 x102 x103 x104 x105 x106 x107 x108 x109 x110 x111 x112 x113 x114 x115 x116 x117 x118 x119 x120 x121 x122 x123 x124 x125 x126 x127 x128 x129 x130 x131 x132 x133 x134 x135 x136 x137 x138 x139 x140 x141 x142 x143 x144 x145 x146 x147 x148 x149 x150 x151 x152 x153 x154 x155 x156 x157 x158 x159 x160 x161 x162 x163 x164 x165 x166 x167 x168 x169 x170 x171 x172 x173 x174 x175 x176 x177 x178 x179 x180 x181 x182 x183 x184 x185 x186:Value) (QQ:Exit→Act→World→Prop),DI w r d x W→PD W r ts S dd→bodyPost Tryz.prog Tryz.f32 (DDe (M d S) r ts dd w)=QQ→Code.wp Tryz.prog (dR k Tryz.f32) QQ { tmps:=#[.pointer (some ⟨r,0,none⟩),undef,.pointer (some ⟨w.heap.size,0,none⟩),.pointer (some ⟨w.heap.size+1,0,none⟩),x4,x5,x6,x7,x8,x9,x10,x11,x12,x13,x14,x15,x16,x17,x18,x19,x20,x21,x22,x23,x24,x25,x26,x27,x28,x29,x30,x31,x32,x33,x34,x35,x36,x37,x38,x39,x40,x41,x42,x43,x44,x45,x46,x47,x48,x49,x50,x51,x52,x53,x54,x55,x56,x57,x58,x59,x60,x61,x62,x63,x64,x65,x66,x67,x68,x69,x70,x71,x72,x73,x74,x75,x76,x77,x78,x79,x80,x81,x82,x83,x84,x85,x86,x87,x88,x89,x90,x91,x92,x93,x94,x95,x96,x97,x98,x99,x100,x101,x102,x103,x104,x105,x106,x107,x108,x109,x110,x111,x112,x113,x114,x115,x116,x117,x118,x119,x120,x121,x122,x123,x124,x125,x126,x127,x128,x129,x130,x131,x132,x133,x134,x135,x136,x137,x138,x139,x140,x141,x142,x143,x144,x145,x146,x147,x148,x149,x150,x151,x152,x153,x154,x155,x156,x157,x158,x159,x160,x161,x162,x163,x164,x165,x166,x167,x168,x169,x170,x171,x172,x173,x174,x175,x176,x177,x178,x179,x180,x181,x182,x183,x184,x185,x186],defers:=[] } W
set_option maxRecDepth 100000 in
set_option maxHeartbeats 16000000 in
theorem deff_of {r dd:Nat} {ts:List (Int×ByteArray×Int)} (hT:TsOk ts) (hE:DcC 37 r ts dd (exD ts)) (hN:dend_ofS ts (reqM ts) 13 r dd):deff_ofS ts (effM ts) 11 r dd:=by
 intro w W S d x x4 x5 x6 x7 x8 x9 x10 x11 x12 x13 x14 x15 x16 x17 x18 x19 x20 x21 x22 x23 x24 x25 x26 x27 x28 x29 x30 x31 x32 x33 x34 x35 x36 x37 x38 x39 x40 x41 x42 x43 x44 x45 x46 x47 x48 x49 x50 x51 x52 x53 x54 x55 x56 x57 x58 x59 x60 x61 x62 x63 x64 x65 x66 x67 x68 x69 x70 x71 x72 x73 x74 x75 x76 x77 x78 x79 x80 x81 x82 x83 x84 x85 x86 x87 x88 x89 x90 x91 x92 x93 x94 x95 x96 x97 x98 x99 x100 x101 x102 x103 x104 x105 x106 x107 x108 x109 x110 x111 x112 x113 x114 x115 x116 x117 x118 x119 x120 x121 x122 x123 x124 x125 x126 x127 x128 x129 x130 x131 x132 x133 x134 x135 x136 x137 x138 x139 x140 x141 x142 x143 x144 x145 x146 x147 x148 x149 x150 x151 x152 x153 x154 x155 x156 x157 x158 x159 x160 x161 x162 x163 x164 x165 x166 x167 x168 x169 x170 x171 x172 x173 x174 x175 x176 x177 x178 x179 x180 x181 x182 x183 x184 x185 x186 QQ hI hR hQ
 obtain ⟨Y,hY⟩:∃ Y,effM ts d S=Y:=⟨_,rfl⟩
 rw [hY] at hQ
 unfold effM at hY
 have hr:=hI.rlt
 have HI:=gh hI
 have HR:=gh hR
 have HT:=gh hT
 have HY:=gh hY
 have HQQ:=gh hQ
 replace hE:=gh hE
 have hrq:r≠w.heap.size+1:=by omega
 clear hI hR hT hY hQ
 conv=>arg 2;whnf
 replace hN:=gh hN
 have e5:=(blk (gf HI).b).2.1 5 _ rfl
 replace e5:W.cell? ⟨w.heap.size+1,5,none⟩=some (.int .i64 d.eff):=e5
 by_cases h0:d.eff=0
 ·have hY0:=gf HY
  simp only [if_pos h0] at hY0
  replace HY:=gh hY0
  clear hY0
  rw [h0] at e5
  clear h0
  have HC1:=gh (dt_any (gf HR) (gf HT))
  unfold tkV at HC1
  obtain ⟨⟨kk1,T1,at1⟩,hN1⟩:∃ X,tD ts (S)=X:=⟨_,rfl⟩
  rw [hN1] at HC1
  have HN1:=gh hN1
  have hf21:=fld2 (.int .i64 kk1) (.string T1) (.int .i64 at1)
  clear hN1
  go_wp2_with fail
  refine (gf HC1).mono ?_
  rintro e w1 ⟨rfl,hb1⟩
  have hY2:=gf HY
  simp only [gf HN1] at hY2
  replace HY:=gh hY2
  clear hY2
  have hbu3:=But.of (r:=r) hb1
  replace HR:=gh ((gf HR).keep hb1)
  replace HI:=gh ((gf HI).but' hbu3)
  clear hb1 HC1
  clear e5
  obtain ⟨S4,hS4⟩:∃ Z9,(S).fail at1 150=Z9:=⟨_,rfl⟩
  have HC4:=gh (fail_any (gf HR) at1 150)
  rw [hS4] at HC4
  have HS4:=gh hS4
  clear hS4
  go_wp2_with fail
  refine (gf HC4).mono ?_
  rintro e w4 ⟨rfl,hb4,hR4⟩
  have hY5:=gf HY
  simp only [gf HS4] at hY5
  replace HY:=gh hY5
  clear hY5
  replace HI:=gh ((gf HI).but' hb4)
  replace HR:=gh hR4
  clear hb4 hR4 HC4 HS4
  have hY6:=gf HY
  unfold typM at hY6
  replace HY:=gh hY6
  clear hY6
  have HC7:=gh (dtyp_of (gf HT) (gf hE) w4 (S4) (gf HR))
  obtain ⟨⟨t7,S7⟩,hX7⟩:∃ X,typD ts (S4)=X:=⟨_,rfl⟩
  rw [hX7] at HC7
  have HX7:=gh hX7
  have hlo7:w.heap.size+2≤w4.heap.size:=(by have:=(blk (gf HI).b).1;omega)
  clear hX7
  go_wp2_with fail
  rename_i KJ hJ K1 h1
  replace hJ:=gh hJ
  refine (gf HC7).mono ?_
  rintro e w7 ⟨hb7,hR7,v7,rfl,hv7⟩
  have hY8:=gf HY
  simp only [gf HX7] at hY8
  replace HY:=gh hY8
  clear hY8
  obtain ⟨a7,n7,c7,rfl,hv7⟩:=hv7
  have HT7:=gh (hv7.keep (lo':=w.heap.size+2) (Stays.of (Below.refl _ _)) hlo7)
  replace HI:=gh ((gf HI).but' hb7)
  replace HR:=gh hR7
  clear hb7 hR7 hv7 HC7 HX7 hlo7
  have st9_0:=(blk (gf HI).b).2.1 6 _ rfl
  have sz9_0:=(blk (gf HI).b).2.2 6
  have st9_1:=(blk (gf HI).b).2.1 7 _ rfl
  have sz9_1:=(blk (gf HI).b).2.2 7
  have st9_2:=(blk (gf HI).b).2.1 8 _ rfl
  have sz9_2:=(blk (gf HI).b).2.2 8
  have st9_3:=(blk (gf HI).b).2.1 9 _ rfl
  have sz9_3:=(blk (gf HI).b).2.2 9
  obtain ⟨V9,eV9⟩:∃ V,((((w7.setCell ⟨w.heap.size+1,6,none⟩ (.int .i64 t7.kind)).setCell ⟨w.heap.size+1,7,none⟩ (.string t7.name)).setCell ⟨w.heap.size+1,8,none⟩ (.slice a7 n7 c7)).setCell ⟨w.heap.size+1,9,none⟩ (.int .i64 t7.at'))=V:=⟨_,rfl⟩
  have eN9:setN w7 (w.heap.size+1) 6 [.int .i64 t7.kind,.string t7.name,.slice a7 n7 c7,.int .i64 t7.at']=V9:=eV9
  have hD9:DI w r ({ d with t:=t7 }) ({ x with ta:=a7,tn:=n7,tc:=c7 }) V9:=by rw [←eN9];exact (gf HI).set 6 [.int .i64 t7.kind,.string t7.name,.slice a7 n7 c7,.int .i64 t7.at'] (show 6+4≤22 by decide) rfl ⟨(gf HI).inn.ps,(gf HT7),(gf HI).inn.req,(gf HI).inn.ens,(gf HI).inn.mea,(gf HI).inn.body⟩
  have hR9:PD V9 r ts (S7) dd:=by rw [←eN9];exact (gf HR).setN (by omega) 6 [.int .i64 t7.kind,.string t7.name,.slice a7 n7 c7,.int .i64 t7.at']
  replace HT7:=gh (eN9▸(gf HT7).keep (Stays.setN [.int .i64 t7.kind,.string t7.name,.slice a7 n7 c7,.int .i64 t7.at'] w7 6 (Stays.of (Below.refl _ _)) (by omega)) (Nat.le_refl _))
  replace HI:=gh hD9
  replace HR:=gh hR9
  have HEV9:=gh eV9
  clear eV9 eN9 hD9 hR9
  go_wp2_with fail
  rw [gf HEV9]
  refine gf hJ _ _ ?_
  exact (gf hN) w _ _ _ _ _ _ _ _ _ _ _ _ _ _ _ _ _ _ _ _ _ _ _ _ _ _ _ _ _ _ _ _ _ _ _ _ _ _ _ _ _ _ _ _ _ _ _ _ _ _ _ _ _ _ _ _ _ _ _ _ _ _ _ _ _ _ _ _ _ _ _ _ _ _ _ _ _ _ _ _ _ _ _ _ _ _ _ _ _ _ _ _ _ _ _ _ _ _ _ _ _ _ _ _ _ _ _ _ _ _ _ _ _ _ _ _ _ _ _ _ _ _ _ _ _ _ _ _ _ _ _ _ _ _ _ _ _ _ _ _ _ _ _ _ _ _ _ _ _ _ _ _ _ _ _ _ _ _ _ _ _ _ _ _ _ _ _ _ _ _ _ _ _ _ _ _ _ _ _ _ _ _ _ _ _ _ _ _ (gf HI) (gf HR) (by rw [gf HY];exact gf HQQ)
 ·have hY10:=gf HY
  simp only [if_neg h0] at hY10
  replace HY:=gh hY10
  clear hY10
  have n0:(d.eff == 0)=false:=by simpa using h0
  have n1:decide (d.eff=0)=false:=by simpa using h0
  clear h0
  have hY11:=gf HY
  unfold typM at hY11
  replace HY:=gh hY11
  clear hY11
  have HC12:=gh (dtyp_of (gf HT) (gf hE) W (S) (gf HR))
  obtain ⟨⟨t12,S12⟩,hX12⟩:∃ X,typD ts (S)=X:=⟨_,rfl⟩
  rw [hX12] at HC12
  have HX12:=gh hX12
  have hlo12:w.heap.size+2≤W.heap.size:=(by have:=(blk (gf HI).b).1;omega)
  clear hX12
  go_wp2_with fail
  rename_i KJ hJ K1 h1
  replace hJ:=gh hJ
  refine (gf HC12).mono ?_
  rintro e w12 ⟨hb12,hR12,v12,rfl,hv12⟩
  have hY13:=gf HY
  simp only [gf HX12] at hY13
  replace HY:=gh hY13
  clear hY13
  obtain ⟨a12,n12,c12,rfl,hv12⟩:=hv12
  have HT12:=gh (hv12.keep (lo':=w.heap.size+2) (Stays.of (Below.refl _ _)) hlo12)
  replace HI:=gh ((gf HI).but' hb12)
  replace HR:=gh hR12
  clear hb12 hR12 hv12 HC12 HX12 hlo12
  have st14_0:=(blk (gf HI).b).2.1 6 _ rfl
  have sz14_0:=(blk (gf HI).b).2.2 6
  have st14_1:=(blk (gf HI).b).2.1 7 _ rfl
  have sz14_1:=(blk (gf HI).b).2.2 7
  have st14_2:=(blk (gf HI).b).2.1 8 _ rfl
  have sz14_2:=(blk (gf HI).b).2.2 8
  have st14_3:=(blk (gf HI).b).2.1 9 _ rfl
  have sz14_3:=(blk (gf HI).b).2.2 9
  obtain ⟨V14,eV14⟩:∃ V,((((w12.setCell ⟨w.heap.size+1,6,none⟩ (.int .i64 t12.kind)).setCell ⟨w.heap.size+1,7,none⟩ (.string t12.name)).setCell ⟨w.heap.size+1,8,none⟩ (.slice a12 n12 c12)).setCell ⟨w.heap.size+1,9,none⟩ (.int .i64 t12.at'))=V:=⟨_,rfl⟩
  have eN14:setN w12 (w.heap.size+1) 6 [.int .i64 t12.kind,.string t12.name,.slice a12 n12 c12,.int .i64 t12.at']=V14:=eV14
  have hD14:DI w r ({ d with t:=t12 }) ({ x with ta:=a12,tn:=n12,tc:=c12 }) V14:=by rw [←eN14];exact (gf HI).set 6 [.int .i64 t12.kind,.string t12.name,.slice a12 n12 c12,.int .i64 t12.at'] (show 6+4≤22 by decide) rfl ⟨(gf HI).inn.ps,(gf HT12),(gf HI).inn.req,(gf HI).inn.ens,(gf HI).inn.mea,(gf HI).inn.body⟩
  have hR14:PD V14 r ts (S12) dd:=by rw [←eN14];exact (gf HR).setN (by omega) 6 [.int .i64 t12.kind,.string t12.name,.slice a12 n12 c12,.int .i64 t12.at']
  replace HT12:=gh (eN14▸(gf HT12).keep (Stays.setN [.int .i64 t12.kind,.string t12.name,.slice a12 n12 c12,.int .i64 t12.at'] w12 6 (Stays.of (Below.refl _ _)) (by omega)) (Nat.le_refl _))
  replace HI:=gh hD14
  replace HR:=gh hR14
  have HEV14:=gh eV14
  clear eV14 eN14 hD14 hR14
  go_wp2_with fail
  rw [gf HEV14]
  refine gf hJ _ _ ?_
  exact (gf hN) w _ _ _ _ _ _ _ _ _ _ _ _ _ _ _ _ _ _ _ _ _ _ _ _ _ _ _ _ _ _ _ _ _ _ _ _ _ _ _ _ _ _ _ _ _ _ _ _ _ _ _ _ _ _ _ _ _ _ _ _ _ _ _ _ _ _ _ _ _ _ _ _ _ _ _ _ _ _ _ _ _ _ _ _ _ _ _ _ _ _ _ _ _ _ _ _ _ _ _ _ _ _ _ _ _ _ _ _ _ _ _ _ _ _ _ _ _ _ _ _ _ _ _ _ _ _ _ _ _ _ _ _ _ _ _ _ _ _ _ _ _ _ _ _ _ _ _ _ _ _ _ _ _ _ _ _ _ _ _ _ _ _ _ _ _ _ _ _ _ _ _ _ _ _ _ _ _ _ _ _ _ _ _ _ _ _ _ _ (gf HI) (gf HR) (by rw [gf HY];exact gf HQQ)
end Go.Proofs.YtfkfnbehdcmgeaaGreatDoor
namespace Go.Proofs.YtfkfnbehdcmgeaaGreatDoor
open Go Go.RowKit
def effS:Nat→ByteArray
 |0=>⟨#[80,117,114,101]⟩
 |1=>⟨#[83,116,97,116,101]⟩
 |2=>⟨#[69,120,110]⟩
 |3=>⟨#[65,108,108]⟩
 |_=>⟨#[68,105,118]⟩
def effL (ts:List (Int×ByteArray×Int)) (d:De) (st:PS):De×PS:=if d.eff=0 then (match signD ts effsD st with
 |some o=>effM ts { d with eff:=o } (stepD ts st)
 |none=>effM ts d st) else effM ts d st
def colM (ts:List (Int×ByteArray×Int)) (d:De) (st:PS):De×PS:=effL ts d (mustD ts ⟨#[58]⟩ st)
theorem eff_cell {W:World} {q i:Nat} (hi:i<5) (h:W.heap[q]?=some (.cells #[.string ⟨#[80,117,114,101]⟩,.string ⟨#[83,116,97,116,101]⟩,.string ⟨#[69,120,110]⟩,.string ⟨#[65,108,108]⟩,.string ⟨#[68,105,118]⟩] 9)):W.cell? ⟨q,i,none⟩=some (.string (effS i)):=by
 rcases i with _ | _ | _ | _ | _ | i
 all_goals first | exact (blk h).2.1 _ _ rfl | omega
theorem effs_at {i:Nat} (hi:i<5):effsD[i]?=some (effS i,(i:Int)+1):=by
 rcases i with _ | _ | _ | _ | _ | i
 all_goals first | rfl | omega
def dcol_ofS (ts:List (Int×ByteArray×Int)) (M:De→PS→De×PS) (k:Nat) (r dd:Nat):Prop:=∀ (w W:World) (S:PS) (d:De) (x:DeV) (x4 x5 x6 x7 x8 x9 x10 x11 x12 x13 x14 x15 x16 x17 x18 x19 x20 x21 x22 x23 x24 x25 x26 x27 x28 x29 x30 x31 x32 x33 x34 x35 x36 x37 x38 x39 x40 x41 x42 x43 x44 x45 x46 x47 x48 x49 x50 x51 x52 x53 x54 x55 x56 x57 x58 x59 x60 x61 x62 x63 x64 x65 x66 x67 x68 x69 x70 x71 x72 x73 x74 x75 x76 x77 x78 x79 x80 x81 x82 x83 x84 x85 x86 x87 x88 x89 x90 x91 x92 x93 x94 x95 x96 x97 x98 x99 x100 x101 x102 x103 x104 x105 x106 x107 x108 x109 x110 x111 x112 x113 x114 x115 x116 x117 x118 x119 x120 x121 x122 x123 x124 x125 x126 x127 x128 x129 x130 x131 x132 x133 x134 x135 x136 x137 x138 x139 x140 x141 x142 x143 x144 x145 x146 x147 x148 x149 x150 x151 x152 x153 x154 x155 x156 x157 x158 x159 x160 x161 x162 x163 x164 x165 x166 x167 x168 x169 x170 x171 x172 x173 x174 x175 x176 x177 x178 x179 x180 x181 x182 x183 x184 x185 x186:Value) (QQ:Exit→Act→World→Prop),DI w r d x W→PD W r ts S dd→bodyPost Tryz.prog Tryz.f32 (DDe (M d S) r ts dd w)=QQ→Code.wp Tryz.prog (dR k Tryz.f32) QQ { tmps:=#[.pointer (some ⟨r,0,none⟩),undef,.pointer (some ⟨w.heap.size,0,none⟩),.pointer (some ⟨w.heap.size+1,0,none⟩),x4,x5,x6,x7,x8,x9,x10,x11,x12,x13,x14,x15,x16,x17,x18,x19,x20,x21,x22,x23,x24,x25,x26,x27,x28,x29,x30,x31,x32,x33,x34,x35,x36,x37,x38,x39,x40,x41,x42,x43,x44,x45,x46,x47,x48,x49,x50,x51,x52,x53,x54,x55,x56,x57,x58,x59,x60,x61,x62,x63,x64,x65,x66,x67,x68,x69,x70,x71,x72,x73,x74,x75,x76,x77,x78,x79,x80,x81,x82,x83,x84,x85,x86,x87,x88,x89,x90,x91,x92,x93,x94,x95,x96,x97,x98,x99,x100,x101,x102,x103,x104,x105,x106,x107,x108,x109,x110,x111,x112,x113,x114,x115,x116,x117,x118,x119,x120,x121,x122,x123,x124,x125,x126,x127,x128,x129,x130,x131,x132,x133,x134,x135,x136,x137,x138,x139,x140,x141,x142,x143,x144,x145,x146,x147,x148,x149,x150,x151,x152,x153,x154,x155,x156,x157,x158,x159,x160,x161,x162,x163,x164,x165,x166,x167,x168,x169,x170,x171,x172,x173,x174,x175,x176,x177,x178,x179,x180,x181,x182,x183,x184,x185,x186],defers:=[] } W
set_option maxRecDepth 100000 in
set_option maxHeartbeats 16000000 in
theorem dcol_of {r dd:Nat} {ts:List (Int×ByteArray×Int)} (hT:TsOk ts) (hE:DcC 37 r ts dd (exD ts)) (hN:dend_ofS ts (effM ts) 11 r dd):dcol_ofS ts (colM ts) 8 r dd:=by
 intro w W S d x x4 x5 x6 x7 x8 x9 x10 x11 x12 x13 x14 x15 x16 x17 x18 x19 x20 x21 x22 x23 x24 x25 x26 x27 x28 x29 x30 x31 x32 x33 x34 x35 x36 x37 x38 x39 x40 x41 x42 x43 x44 x45 x46 x47 x48 x49 x50 x51 x52 x53 x54 x55 x56 x57 x58 x59 x60 x61 x62 x63 x64 x65 x66 x67 x68 x69 x70 x71 x72 x73 x74 x75 x76 x77 x78 x79 x80 x81 x82 x83 x84 x85 x86 x87 x88 x89 x90 x91 x92 x93 x94 x95 x96 x97 x98 x99 x100 x101 x102 x103 x104 x105 x106 x107 x108 x109 x110 x111 x112 x113 x114 x115 x116 x117 x118 x119 x120 x121 x122 x123 x124 x125 x126 x127 x128 x129 x130 x131 x132 x133 x134 x135 x136 x137 x138 x139 x140 x141 x142 x143 x144 x145 x146 x147 x148 x149 x150 x151 x152 x153 x154 x155 x156 x157 x158 x159 x160 x161 x162 x163 x164 x165 x166 x167 x168 x169 x170 x171 x172 x173 x174 x175 x176 x177 x178 x179 x180 x181 x182 x183 x184 x185 x186 QQ hI hR hQ
 obtain ⟨Y,hY⟩:∃ Y,colM ts d S=Y:=⟨_,rfl⟩
 rw [hY] at hQ
 unfold colM at hY
 have hr:=hI.rlt
 have HI:=gh hI
 have HR:=gh hR
 have HT:=gh hT
 have HY:=gh hY
 have HQQ:=gh hQ
 replace hE:=gh hE
 have hrq:r≠w.heap.size+1:=by omega
 clear hI hR hT hY hQ
 conv=>arg 2;whnf
 replace hN:=gh hN
 obtain ⟨S0,hS0⟩:∃ Z9,mustD ts ⟨#[58]⟩ (S)=Z9:=⟨_,rfl⟩
 have HC0:=gh (dmust_any (gf HR) (gf HT) ⟨#[58]⟩)
 rw [hS0] at HC0
 have HS0:=gh hS0
 clear hS0
 go_wp2_with fail
 refine (gf HC0).mono ?_
 rintro e w0 ⟨rfl,hb0,hR0⟩
 have hY1:=gf HY
 simp only [gf HS0] at hY1
 replace HY:=gh hY1
 clear hY1
 replace HI:=gh ((gf HI).but' hb0)
 replace HR:=gh hR0
 clear hb0 hR0 HC0 HS0
 obtain ⟨B2,eB2,hbB2,hsB2,hhB2⟩:=box_new w0 #[.string ⟨#[80,117,114,101]⟩,.string ⟨#[83,116,97,116,101]⟩,.string ⟨#[69,120,110]⟩,.string ⟨#[65,108,108]⟩,.string ⟨#[68,105,118]⟩] 9
 have ne2:r≠w0.heap.size:=by have:=(blk (gf HI).b).1;omega
 have hq2:w.heap.size+1<w0.heap.size:=(blk (gf HI).b).1
 have hbu3:=But.of (r:=r) hbB2
 replace HR:=gh ((gf HR).keep hbB2)
 replace HI:=gh ((gf HI).but' hbu3)
 have HX2:=gh hhB2
 have HEB2:=gh eB2
 have HSB2:=gh hsB2
 clear eB2 hbB2 hhB2 hsB2
 go_wp2_with fail
 rw [gf HEB2]
 rename_i KJ hJ
 replace hJ:=gh hJ
 have hq5:=(blk (gf HX2)).1
 obtain ⟨q,hq⟩:∃ q,w0.heap.size=q:=⟨_,rfl⟩
 have hTab0:=gf HX2
 rw [hq] at hTab0
 have hrq2:r≠q:=by rw [←hq];exact ne2
 have hqb:w.heap.size+1<q:=by rw [←hq];exact hq2
 have HQ2:=gh hq
 have hST:Hid ((d=d∧d.eff=0∧S0=S0∧∀ (j:Nat) s o,j<0→effsD[j]?=some (s,o)→isD ts s S0=false)∨(d.eff≠0∧effM ts d S0=Y)):=by
  by_cases h0:d.eff=0
  ·exact .inl ⟨rfl,h0,rfl,fun j s o hj=>by omega⟩
  ·have h:=gf HY
   unfold effL at h
   rw [if_neg h0] at h
   exact .inr ⟨h0,h⟩
 have HTab:=gh hTab0
 clear hq hTab0 hq5
 rw [gf HQ2]
 go_loopw [11] (fun iv wr=>∃ (i:Nat) (d':De) (S':PS),i≤5∧iv = .int .i64 i∧Hid (DI w r d' x wr)∧Hid (PD wr r ts S' dd)∧Hid (wr.heap[q]?=some (.cells #[.string ⟨#[80,117,114,101]⟩,.string ⟨#[83,116,97,116,101]⟩,.string ⟨#[69,120,110]⟩,.string ⟨#[65,108,108]⟩,.string ⟨#[68,105,118]⟩] 9))∧Hid ((d'=d∧d.eff=0∧S'=S0∧∀ (j:Nat) s o,j<i→effsD[j]?=some (s,o)→isD ts s S0=false)∨(d'.eff≠0∧effM ts d' S'=Y))) (fun iv _=>5 - (intOf iv).toNat)
 case atStart=>exact ⟨0,d,S0,Nat.zero_le _,rfl,HI,HR,HTab,hST⟩
 case round =>
  obtain ⟨i,d',S',hi5,rfl,hDI,hPD,hTab,hst⟩:=hrel
  have e5:=(blk (gf hDI).b).2.1 5 _ rfl
  replace e5:wr.cell? ⟨w.heap.size+1,5,none⟩=some (.int .i64 d'.eff):=e5
  have gi0:(0:Int)≤(i:Int):=by omega
  by_cases hi:i<5
  ·have ci:=eff_cell hi (gf hTab)
   have gi:(i:Int)<5:=by omega
   by_cases h0:d'.eff=0
   ·have hst2:d'=d∧d.eff=0∧S'=S0∧∀ (j:Nat) s o,j<i→effsD[j]?=some (s,o)→isD ts s S0=false:=by
     rcases gf hst with h | h
     ·exact h
     ·exact absurd h0 h.1
    obtain ⟨rfl,-,rfl,hno⟩:=hst2
    obtain ⟨es,hes⟩:∃ x,effS i=x:=⟨_,rfl⟩
    have HC:=gh (eat_any (gf hPD) (gf HT) es)
    obtain ⟨bo,hbo⟩:∃ b,isD ts es S'=b:=⟨_,rfl⟩
    unfold eatD at HC
    rw [hbo] at HC
    rw [hes] at ci
    have HO:=gh hbo
    have HES:=gh hes
    have HNO:=gh hno
    have H0:=gh h0
    rw [h0] at e5
    replace hi5:=gh hi5
    replace hi:=gh hi
    clear hbo hes hno h0 hst
    go_wp2_with fail
    refine (gf HC).mono ?_
    rintro e w9 ⟨rfl,hb9,hR9⟩
    have hD9:=(gf hDI).but' hb9
    have hT9:=(hb9.block q (blk (gf hTab)).1 (Ne.symm hrq2)).trans (gf hTab)
    have HT9:=gh hT9
    have HD9:=gh hD9
    clear hb9 HC hT9 e5 ci hDI hPD hTab
    rcases bo with _ | _
    ·rw [if_neg Bool.false_ne_true] at hR9
     have HR9:=gh hR9
     clear hR9 hD9
     go_wp2
     refine ⟨⟨i+1,d',S',by have:=gf hi;omega,by simp,HD9,HR9,HT9,.inl ⟨rfl,gf H0,rfl,fun j s o hj hs => ?_⟩⟩,?_⟩
     ·rcases Nat.lt_or_ge j i with h | h
      ·exact gf HNO j s o h hs
      ·obtain rfl:j=i:=by omega
       rw [effs_at (gf hi)] at hs
       obtain ⟨rfl,rfl⟩:effS j=s∧(j:Int)+1=o:=by simpa using hs
       rw [gf HES]
       exact gf HO
     ·have:=gf hi
      simp [intOf];omega
    ·rw [if_pos rfl] at hR9
     have y5:=(blk hD9.b).2.1 5 _ rfl
     have z5:=(blk hD9.b).2.2 5
     have gw:IntKind.i64.wrap (1+(i:Int))=1+(i:Int):=by
      have:=gf hi
      simp only [IntKind.wrap_i64]
      omega
     obtain ⟨V,hV⟩:∃ V,w9.setCell ⟨w.heap.size+1,5,none⟩ (.int .i64 (1+(i:Int)))=V:=⟨_,rfl⟩
     have hN9:setN w9 (w.heap.size+1) 5 [.int .i64 (1+(i:Int))]=V:=hV
     have HDV:Hid (DI w r { d' with eff:=1+(i:Int) } x V):=by
      show DI _ _ _ _ _
      rw [←hN9]
      exact hD9.set 5 [.int .i64 (1+(i:Int))] (show 5+1≤22 by decide) rfl ⟨hD9.inn.ps,hD9.inn.ty,hD9.inn.req,hD9.inn.ens,hD9.inn.mea,hD9.inn.body⟩
     have HRV:Hid (PD V r ts (stepD ts S') dd):=by
      show PD _ _ _ _ _
      rw [←hN9]
      exact hR9.setN (by omega) 5 [.int .i64 (1+(i:Int))]
     have HTV:Hid (V.heap[q]?=some (.cells #[.string ⟨#[80,117,114,101]⟩,.string ⟨#[83,116,97,116,101]⟩,.string ⟨#[69,120,110]⟩,.string ⟨#[65,108,108]⟩,.string ⟨#[68,105,118]⟩] 9)):=by
      show _=_
      rw [←hN9]
      exact (heap_setN (by omega) [.int .i64 (1+(i:Int))] w9 5).trans (gf HT9)
     have HV:=gh hV
     clear hR9 hD9 hN9 hV
     go_wp2
     rw [gf HV]
     refine ⟨⟨i+1,_,_,by have:=gf hi;omega,by simp,HDV,HRV,HTV,.inr ⟨?_,?_⟩⟩,?_⟩
     ·show (1:Int)+(i:Int)≠0
      omega
     ·have h:=gf HY
      have hs:=(signD_take (ts:=ts) (S:=S') effsD i (gf HNO)).2 (effS i) _ (effs_at (gf hi)) (by rw [gf HES];exact gf HO)
      unfold effL at h
      rw [if_pos (gf H0),hs] at h
      simp only at h
      rw [Int.add_comm] at h
      exact h
     ·have:=gf hi
      simp [intOf];omega
   ·have hY2:effM ts d' S'=Y:=by
     rcases gf hst with h | h
     ·exact absurd (by rw [h.1];exact h.2.1) h0
     ·exact h.2
    have HY2:=gh hY2
    have n0:(d'.eff == 0)=false:=by simpa using h0
    have n1:decide (d'.eff=0)=false:=by simpa using h0
    clear hY2 h0 hst
    go_wp2_with fail
    refine gf hJ _ _ ?_
    exact (gf hN) w _ _ _ _ _ _ _ _ _ _ _ _ _ _ _ _ _ _ _ _ _ _ _ _ _ _ _ _ _ _ _ _ _ _ _ _ _ _ _ _ _ _ _ _ _ _ _ _ _ _ _ _ _ _ _ _ _ _ _ _ _ _ _ _ _ _ _ _ _ _ _ _ _ _ _ _ _ _ _ _ _ _ _ _ _ _ _ _ _ _ _ _ _ _ _ _ _ _ _ _ _ _ _ _ _ _ _ _ _ _ _ _ _ _ _ _ _ _ _ _ _ _ _ _ _ _ _ _ _ _ _ _ _ _ _ _ _ _ _ _ _ _ _ _ _ _ _ _ _ _ _ _ _ _ _ _ _ _ _ _ _ _ _ _ _ _ _ _ _ _ _ _ _ _ _ _ _ _ _ _ _ _ _ _ _ _ _ _ (gf hDI) (gf hPD) (by rw [gf HY2];exact gf HQQ)
  ·obtain rfl:i=5:=by omega
   have hY2:effM ts d' S'=Y:=by
    rcases gf hst with ⟨rfl,h1,rfl,h2⟩ | h
    ·have h:=gf HY
     have hs:=(signD_take (ts:=ts) (S:=S') effsD 5 h2).1 (by decide)
     unfold effL at h
     rw [if_pos h1,hs] at h
     exact h
    ·exact h.2
   have HY2:=gh hY2
   clear hY2 hst hi
   go_wp2_with fail
   refine gf hJ _ _ ?_
   exact (gf hN) w _ _ _ _ _ _ _ _ _ _ _ _ _ _ _ _ _ _ _ _ _ _ _ _ _ _ _ _ _ _ _ _ _ _ _ _ _ _ _ _ _ _ _ _ _ _ _ _ _ _ _ _ _ _ _ _ _ _ _ _ _ _ _ _ _ _ _ _ _ _ _ _ _ _ _ _ _ _ _ _ _ _ _ _ _ _ _ _ _ _ _ _ _ _ _ _ _ _ _ _ _ _ _ _ _ _ _ _ _ _ _ _ _ _ _ _ _ _ _ _ _ _ _ _ _ _ _ _ _ _ _ _ _ _ _ _ _ _ _ _ _ _ _ _ _ _ _ _ _ _ _ _ _ _ _ _ _ _ _ _ _ _ _ _ _ _ _ _ _ _ _ _ _ _ _ _ _ _ _ _ _ _ _ _ _ _ _ _ (gf hDI) (gf hPD) (by rw [gf HY2];exact gf HQQ)
end Go.Proofs.YtfkfnbehdcmgeaaGreatDoor
namespace Go.Proofs.YtfkfnbehdcmgeaaGreatDoor
open Go Go.RowKit
def parM (ts:List (Int×ByteArray×Int)) (d:De) (st:PS):De×PS:=match paramsD ts ts.length [] st with
 |(l,s,true)=>({ d with ps:=l },s)
 |(l,s,false)=>colM ts { d with ps:=l } s
def GIp (d:De) (x:DeV) (w:World) (r:Nat) (v:Value) (l:List Pm) (vs:List (List Value)) (V:World):Prop:=GI PmP d x 4 81 6 w r (fun _=>False) (w.heap.size+2) v l vs V
section
variable {d:De} {x:DeV} {w V V':World} {r:Nat} {v:Value} {l:List Pm} {vs:List (List Value)}
theorem GIp.but' (h:GIp d x w r v l vs V) (hb:But r V V'):GIp d x w r v l vs V':=GI.but' pm_keep h hb
theorem GIp.b (h:GIp d x w r v l vs V):V.heap[w.heap.size+1]?=some (.cells ((deCells d x).set 4 v).toArray 56):=GI.b h
theorem GIp.own (h:GIp d x w r v l vs V):V.ownsRow (w.heap.size+2) 81 6 v l.length vs.flatten:=GI.own h
theorem GIp.done {a:Option Addr} {m c:Nat} (h:GIp d x w r (.slice a m c) l vs V) (hl:l.length≤1000000):DI w r { d with ps:=l } { x with pa:=a,pn:=m,pc:=c } V:=by
 have hrow:=GI.row pm_keep h hl
 have hin:=(h.inn.keep (P':=fun b=>w.heap.size+2≤b) ⟨Nat.le_refl _,fun _ _ _=>rfl⟩ fun b hb=>hb.1).toN
 exact ⟨h.but,h.z,h.b,⟨hrow,hin.ty,hin.req,hin.ens,hin.mea,hin.body⟩,h.ord.1⟩
theorem GIp.start (hI:DI w r d x V) (h1:x.pa=none) (h2:x.pn=0) (h3:x.pc=0):GIp d x w r (.slice none 0 0) [] [] V:=by
 have hb:=(blk hI.b).1
 have hr:=hI.rlt
 refine ⟨hI.but,hI.z,?_,⟨hr,by omega,by omega,fun _ h=>h.elim⟩,own_nil _ _ _ _,rfl,by simp,fun j y t hy=>by simp at hy,hI.inn.toP.keep ⟨Nat.le_refl _,fun _ _ _=>rfl⟩ fun b hb=>⟨hb,fun h=>h,fun e=>by cases e⟩⟩
 have e:(deCells d x).set 4 (.slice none 0 0)=deCells d x:=by
  obtain ⟨pa,pn,pc⟩:=x
  simp only at h1 h2 h3
  subst h1 h2 h3
  rfl
 rw [e]
 exact hI.b
end
theorem paramsD_no {ts:List (Int×ByteArray×Int)} {n:Nat} {l:List Pm} {S:PS} (h:isD ts ⟨#[40]⟩ S=false):paramsD ts n l S=(l,S,false):=by
 cases n with
 |zero=>rfl
 |succ n=>rw [paramsD,h];rfl
theorem paramsD_many {ts:List (Int×ByteArray×Int)} {n:Nat} {l:List Pm} {S:PS} (h:isD ts ⟨#[40]⟩ S=true) (hl:l.length=8):paramsD ts (n+1) l S=(l,S.fail (tD ts S).2.2 152,true):=by
 rw [paramsD,h,if_pos rfl,if_pos hl]
theorem paramsD_yes {ts:List (Int×ByteArray×Int)} {n:Nat} {l:List Pm} {S:PS} (h:isD ts ⟨#[40]⟩ S=true) (hl:l.length≠8):paramsD ts (n+1) l S=paramsD ts n (l++[(paramD ts S).1]) (paramD ts S).2:=by
 rw [paramsD,h,if_pos rfl,if_neg hl]
theorem typD_le (ts:List (Int×ByteArray×Int)) (S:PS):S.i≤(typD ts S).2.i:=by
 unfold typD
 simp only
 split
 ·exact stepD_le S
 ·split
  ·exact stepD_le S
  ·split
   ·exact stepD_le S
   ·exact Nat.le_trans (mustD_le _ S) (Nat.le_trans (nameD_le _) (Nat.le_trans (mustD_le _ _) (Nat.le_trans (mustD_le _ _) (Nat.le_trans (mustD_le _ _) (Nat.le_trans (gD_le ts 200 .rE _) (mustD_le _ _))))))
theorem paramD_le (ts:List (Int×ByteArray×Int)) (S:PS):(stepD ts S).i≤(paramD ts S).2.i:=by
 unfold paramD
 exact Nat.le_trans (nameD_le _) (Nat.le_trans (mustD_le _ _) (Nat.le_trans (typD_le ts _) (mustD_le _ _)))
def dpar_ofS (ts:List (Int×ByteArray×Int)) (M:De→PS→De×PS) (k:Nat) (r dd:Nat):Prop:=∀ (w W:World) (S:PS) (d:De) (x:DeV) (x4 x5 x6 x7 x8 x9 x10 x11 x12 x13 x14 x15 x16 x17 x18 x19 x20 x21 x22 x23 x24 x25 x26 x27 x28 x29 x30 x31 x32 x33 x34 x35 x36 x37 x38 x39 x40 x41 x42 x43 x44 x45 x46 x47 x48 x49 x50 x51 x52 x53 x54 x55 x56 x57 x58 x59 x60 x61 x62 x63 x64 x65 x66 x67 x68 x69 x70 x71 x72 x73 x74 x75 x76 x77 x78 x79 x80 x81 x82 x83 x84 x85 x86 x87 x88 x89 x90 x91 x92 x93 x94 x95 x96 x97 x98 x99 x100 x101 x102 x103 x104 x105 x106 x107 x108 x109 x110 x111 x112 x113 x114 x115 x116 x117 x118 x119 x120 x121 x122 x123 x124 x125 x126 x127 x128 x129 x130 x131 x132 x133 x134 x135 x136 x137 x138 x139 x140 x141 x142 x143 x144 x145 x146 x147 x148 x149 x150 x151 x152 x153 x154 x155 x156 x157 x158 x159 x160 x161 x162 x163 x164 x165 x166 x167 x168 x169 x170 x171 x172 x173 x174 x175 x176 x177 x178 x179 x180 x181 x182 x183 x184 x185 x186:Value) (QQ:Exit→Act→World→Prop),x.pa=none→x.pn=0→x.pc=0→DI w r d x W→PD W r ts S dd→bodyPost Tryz.prog Tryz.f32 (DDe (M d S) r ts dd w)=QQ→Code.wp Tryz.prog (dR k Tryz.f32) QQ { tmps:=#[.pointer (some ⟨r,0,none⟩),undef,.pointer (some ⟨w.heap.size,0,none⟩),.pointer (some ⟨w.heap.size+1,0,none⟩),x4,x5,x6,x7,x8,x9,x10,x11,x12,x13,x14,x15,x16,x17,x18,x19,x20,x21,x22,x23,x24,x25,x26,x27,x28,x29,x30,x31,x32,x33,x34,x35,x36,x37,x38,x39,x40,x41,x42,x43,x44,x45,x46,x47,x48,x49,x50,x51,x52,x53,x54,x55,x56,x57,x58,x59,x60,x61,x62,x63,x64,x65,x66,x67,x68,x69,x70,x71,x72,x73,x74,x75,x76,x77,x78,x79,x80,x81,x82,x83,x84,x85,x86,x87,x88,x89,x90,x91,x92,x93,x94,x95,x96,x97,x98,x99,x100,x101,x102,x103,x104,x105,x106,x107,x108,x109,x110,x111,x112,x113,x114,x115,x116,x117,x118,x119,x120,x121,x122,x123,x124,x125,x126,x127,x128,x129,x130,x131,x132,x133,x134,x135,x136,x137,x138,x139,x140,x141,x142,x143,x144,x145,x146,x147,x148,x149,x150,x151,x152,x153,x154,x155,x156,x157,x158,x159,x160,x161,x162,x163,x164,x165,x166,x167,x168,x169,x170,x171,x172,x173,x174,x175,x176,x177,x178,x179,x180,x181,x182,x183,x184,x185,x186],defers:=[] } W
set_option maxRecDepth 100000 in
set_option maxHeartbeats 16000000 in
theorem dpar_of {r dd:Nat} {ts:List (Int×ByteArray×Int)} (hT:TsOk ts) (hE:DcC 37 r ts dd (exD ts)) (hN:dend_ofS ts (colM ts) 8 r dd):dpar_ofS ts (parM ts) 7 r dd:=by
 intro w W S d x x4 x5 x6 x7 x8 x9 x10 x11 x12 x13 x14 x15 x16 x17 x18 x19 x20 x21 x22 x23 x24 x25 x26 x27 x28 x29 x30 x31 x32 x33 x34 x35 x36 x37 x38 x39 x40 x41 x42 x43 x44 x45 x46 x47 x48 x49 x50 x51 x52 x53 x54 x55 x56 x57 x58 x59 x60 x61 x62 x63 x64 x65 x66 x67 x68 x69 x70 x71 x72 x73 x74 x75 x76 x77 x78 x79 x80 x81 x82 x83 x84 x85 x86 x87 x88 x89 x90 x91 x92 x93 x94 x95 x96 x97 x98 x99 x100 x101 x102 x103 x104 x105 x106 x107 x108 x109 x110 x111 x112 x113 x114 x115 x116 x117 x118 x119 x120 x121 x122 x123 x124 x125 x126 x127 x128 x129 x130 x131 x132 x133 x134 x135 x136 x137 x138 x139 x140 x141 x142 x143 x144 x145 x146 x147 x148 x149 x150 x151 x152 x153 x154 x155 x156 x157 x158 x159 x160 x161 x162 x163 x164 x165 x166 x167 x168 x169 x170 x171 x172 x173 x174 x175 x176 x177 x178 x179 x180 x181 x182 x183 x184 x185 x186 QQ hx1 hx2 hx3 hI hR hQ
 obtain ⟨Y,hY⟩:∃ Y,parM ts d S=Y:=⟨_,rfl⟩
 rw [hY] at hQ
 unfold parM at hY
 have hr:=hI.rlt
 have HI:=gh hI
 have HR:=gh hR
 have HT:=gh hT
 have HY:=gh hY
 have HQQ:=gh hQ
 replace hE:=gh hE
 have hrq:r≠w.heap.size+1:=by omega
 clear hI hR hT hY hQ
 conv=>arg 2;whnf
 replace hN:=gh hN
 have HG:=gh (GIp.start (gf HI) hx1 hx2 hx3)
 clear hx1 hx2 hx3
 go_wp2_with fail
 rename_i KJ hJ
 replace hJ:=gh hJ
 go_loopw [] (fun wr=>∃ l vs S n a m c,Hid (m=l.length∧l.length≤8)∧Hid (GIp d x w r (.slice a m c) l vs wr)∧Hid (PD wr r ts S dd)∧Hid ((match paramsD ts n l S with | (l,s,true)=>({ d with ps:=l },s) | (l,s,false)=>colM ts { d with ps:=l } s)=Y)∧Hid (S.e=0→ts.length≤S.i+n)) (fun wr=>ts.length - (intOf ((wr.cell? ⟨r,1,none⟩).getD undef)).toNat)
 case atStart=>exact ⟨[],[],S,ts.length,none,0,0,⟨rfl,by simp⟩,HG,HR,HY,fun _=>Nat.le_add_left _ _⟩
 case round =>
  clear HI HR HY HG
  obtain ⟨l,vs,S',n,a,m,c,hl,hGI,hPD,hch,hfu⟩:=hrel
  obtain ⟨gg,gc,f0,f1,f2,f3,f4,hc,hlr,hf,ht⟩:=(gf hPD).facts (Below.refl _ _)
  have HCUR:=gh f1
  have HP0:=gh (gf hPD).lt
  clear f0 f1 f3 f4 hc hf ht
  by_cases he:S'.e=0
  rotate_left
  ·have hno:isD ts ⟨#[40]⟩ S'=false:=isD_bad he
   have hDI:=gh ((gf hGI).done (by have:=(gf hl).2;omega))
   have hY2:colM ts { d with ps:=l } S'=Y:=by
    have h:=gf hch
    rw [paramsD_no hno] at h
    exact h
   have HY2:=gh hY2
   obtain ⟨er,her⟩:∃ er,S'.e=er:=⟨_,rfl⟩
   rw [her] at f2 he
   have e0:(er == 0)=false:=by simpa using he
   have d0:decide (er=0)=false:=by simpa using he
   clear hno hY2 he her
   go_wp2_with fail
   refine gf hJ _ _ ?_
   exact (gf hN) w _ _ _ _ _ _ _ _ _ _ _ _ _ _ _ _ _ _ _ _ _ _ _ _ _ _ _ _ _ _ _ _ _ _ _ _ _ _ _ _ _ _ _ _ _ _ _ _ _ _ _ _ _ _ _ _ _ _ _ _ _ _ _ _ _ _ _ _ _ _ _ _ _ _ _ _ _ _ _ _ _ _ _ _ _ _ _ _ _ _ _ _ _ _ _ _ _ _ _ _ _ _ _ _ _ _ _ _ _ _ _ _ _ _ _ _ _ _ _ _ _ _ _ _ _ _ _ _ _ _ _ _ _ _ _ _ _ _ _ _ _ _ _ _ _ _ _ _ _ _ _ _ _ _ _ _ _ _ _ _ _ _ _ _ _ _ _ _ _ _ _ _ _ _ _ _ _ _ _ _ _ _ _ _ _ _ _ _ (gf hDI) (gf hPD) (by rw [gf HY2];exact gf HQQ)
  ·rw [he] at f2
   have HE0:=gh he
   obtain ⟨bo,hbo⟩:∃ b,isD ts ⟨#[40]⟩ S'=b:=⟨_,rfl⟩
   have HC:=gh (is_any (gf hPD) (gf HT) ⟨#[40]⟩)
   rw [hbo] at HC
   have HO:=gh hbo
   clear hbo he
   go_wp2_with fail
   refine (gf HC).mono ?_
   rintro e w9 ⟨rfl,hb9⟩
   have HG9:=gh ((gf hGI).but' (But.of hb9))
   have HR9:=gh ((gf hPD).keep hb9)
   clear hb9 HC hGI hPD f2 hlr
   rcases bo with _ | _
   ·have hDI:=gh ((gf HG9).done (by have:=(gf hl).2;omega))
    have hY2:colM ts { d with ps:=l } S'=Y:=by
     have h:=gf hch
     rw [paramsD_no (gf HO)] at h
     exact h
    have HY2:=gh hY2
    clear hY2
    go_wp2_with fail
    refine gf hJ _ _ ?_
    exact (gf hN) w _ _ _ _ _ _ _ _ _ _ _ _ _ _ _ _ _ _ _ _ _ _ _ _ _ _ _ _ _ _ _ _ _ _ _ _ _ _ _ _ _ _ _ _ _ _ _ _ _ _ _ _ _ _ _ _ _ _ _ _ _ _ _ _ _ _ _ _ _ _ _ _ _ _ _ _ _ _ _ _ _ _ _ _ _ _ _ _ _ _ _ _ _ _ _ _ _ _ _ _ _ _ _ _ _ _ _ _ _ _ _ _ _ _ _ _ _ _ _ _ _ _ _ _ _ _ _ _ _ _ _ _ _ _ _ _ _ _ _ _ _ _ _ _ _ _ _ _ _ _ _ _ _ _ _ _ _ _ _ _ _ _ _ _ _ _ _ _ _ _ _ _ _ _ _ _ _ _ _ _ _ _ _ _ _ _ _ _ (gf hDI) (gf HR9) (by rw [gf HY2];exact gf HQQ)
   ·have x4:=(blk (gf HG9).b).2.1 4 _ rfl
    obtain ⟨n,rfl⟩:∃ k,n=k+1:=⟨n - 1,by have:=gf hfu (gf HE0);have:=gf HP0;omega⟩
    by_cases h8:m=8
    ·have hch1:=gf hch
     rw [paramsD_many (gf HO) (by rw [←(gf hl).1];exact h8)] at hch1
     have HY:=gh hch1
     have HI:=gh ((gf HG9).done (by have:=(gf hl).2;omega))
     have HR:=HR9
     subst h8
     clear hch1 HG9
     have HC100:=gh (dt_any (gf HR) (gf HT))
     unfold tkV at HC100
     obtain ⟨⟨kk100,T100,at100⟩,hN100⟩:∃ X,tD ts (S')=X:=⟨_,rfl⟩
     rw [hN100] at HC100
     have HN100:=gh hN100
     have hf2100:=fld2 (.int .i64 kk100) (.string T100) (.int .i64 at100)
     clear hN100
     go_wp2_with fail
     refine (gf HC100).mono ?_
     rintro e w100 ⟨rfl,hb100⟩
     have hY101:=gf HY
     simp only [gf HN100] at hY101
     replace HY:=gh hY101
     clear hY101
     have hbu102:=But.of (r:=r) hb100
     replace HR:=gh ((gf HR).keep hb100)
     replace HI:=gh ((gf HI).but' hbu102)
     clear hb100 HC100
     obtain ⟨S103,hS103⟩:∃ Z9,(S').fail at100 152=Z9:=⟨_,rfl⟩
     have HC103:=gh (fail_any (gf HR) at100 152)
     rw [hS103] at HC103
     have HS103:=gh hS103
     clear hS103
     go_wp2_with fail
     refine (gf HC103).mono ?_
     rintro e w103 ⟨rfl,hb103,hR103⟩
     have hY104:=gf HY
     simp only [gf HS103] at hY104
     replace HY:=gh hY104
     clear hY104
     replace HI:=gh ((gf HI).but' hb103)
     replace HR:=gh hR103
     clear hb103 hR103 HC103 HS103
     have HLd:=gh (range_block (gf HI).b)
     have HTh:=gh (there_of (o:=0) (n:=22) (gf HI).z (by decide))
     go_wp2_with (first | ((with_reducible refine ld_de (x:=.tmp 3) (b:=w.heap.size+1) (deCells ({ d with ps:=l }) ({ x with pa:=a,pn:=8,pc:=c })) ?_ ?_ ?_ (gf HLd) ?_ ?_);exact rfl;exact rfl;exact rfl;exact rfl;clear HLd) | ((with_reducible refine st_de (x:=.tmp 2) (y:=.tmp 86) (b:=w.heap.size) (deCells ({ d with ps:=l }) ({ x with pa:=a,pn:=8,pc:=c })) ?_ ?_ ?_ ?_ (gf HTh) ?_ ?_ ?_);exact rfl;exact rfl;exact rfl;exact rfl;exact rfl;exact rfl;clear HTh;intro W9 eW9;refine ?roundEnd))
     case roundEnd =>
      refine wpList_nil ?_
      refine (‹∀ (a:Act) (w:World),Code.wp Tryz.prog Code.ret _ a w→_› : ∀ (a:Act) (w:World),Code.wp Tryz.prog Code.ret _ a w→_) _ _ (wp_ret ?_)
      have e9:=gf eW9
      clear eW9
      subst e9
      show QQ Exit.ret _ _
      rw [←gf HQQ]
      exact dret_de rfl rfl rfl (gf HI) (gf HR) (gf HY).symm
    ·have g1:¬ (m:Int)=8:=by omega
     have g2:((m:Int) == 8)=false:=by simpa using g1
     have g3:decide ((m:Int)=8)=false:=by simpa using g1
     have hch1:=gf hch
     rw [paramsD_yes (gf HO) (by rw [←(gf hl).1];exact h8)] at hch1
     have HCH:=gh hch1
     replace h8:=gh h8
     clear hch1
     have HI:=HG9
     have HR:=HR9
     have HY:=HCH
     have HB9:Hid (But r w9 w9):=But.refl r w9
     have hr9:r<w9.heap.size:=by have:=(blk (gf HG9).b).1;omega
     clear HCH
     obtain ⟨Z0,hZ0⟩:∃ Z,paramD ts S'=Z:=⟨_,rfl⟩
     have HPD:=gh hZ0
     have HPE:=gh hZ0
     clear hZ0
     have hY100:=gf HY
     unfold paramD at hY100
     replace HY:=gh hY100
     clear hY100
     have hY101:=gf HPD
     unfold paramD at hY101
     replace HPD:=gh hY101
     clear hY101
     obtain ⟨S102,hS102⟩:∃ Z9,stepD ts (S')=Z9:=⟨_,rfl⟩
     have HC102:=gh (step_any (gf HR) (gf HT))
     rw [hS102] at HC102
     have HS102:=gh hS102
     clear hS102
     go_wp2_with fail
     refine (gf HC102).mono ?_
     rintro e w102 ⟨rfl,hb102,hR102⟩
     have hY103:=gf HY
     simp only [gf HS102] at hY103
     replace HY:=gh hY103
     clear hY103
     have hY104:=gf HPD
     try simp only [gf HS102] at hY104
     replace HPD:=gh hY104
     clear hY104
     replace HI:=gh ((gf HI).but' hb102)
     replace HB9:=gh ((gf HB9).trans hb102)
     replace HR:=gh hR102
     clear hb102 hR102 HC102 HS102
     have HC105:=gh (name_any (gf HR) (gf HT))
     unfold tkV at HC105
     obtain ⟨⟨⟨kk105,T105,at105⟩,S105⟩,hN105⟩:∃ X,nameD ts (S102)=X:=⟨_,rfl⟩
     rw [hN105] at HC105
     have HN105:=gh hN105
     clear hN105
     go_wp2_with fail
     refine (gf HC105).mono ?_
     rintro e w105 ⟨rfl,hb105,hR105⟩
     have hY106:=gf HY
     simp only [gf HN105] at hY106
     replace HY:=gh hY106
     clear hY106
     have hY107:=gf HPD
     try simp only [gf HN105] at hY107
     replace HPD:=gh hY107
     clear hY107
     replace HI:=gh ((gf HI).but' hb105)
     replace HB9:=gh ((gf HB9).trans hb105)
     replace HR:=gh hR105
     clear hb105 hR105 HC105
     obtain ⟨B108,eB108,hbB108,hsB108,hhB108⟩:=box_new w105 #[.int .i64 kk105,.string T105,.int .i64 at105] 74
     have ne108:r≠w105.heap.size:=by have:=(blk (gf HI).b).1;omega
     have hq108:w.heap.size+1<w105.heap.size:=(blk (gf HI).b).1
     have hbu109:=But.of (r:=r) hbB108
     replace HR:=gh ((gf HR).keep hbB108)
     replace HI:=gh ((gf HI).but' hbu109)
     replace HB9:=gh ((gf HB9).trans hbu109)
     have HX108:=gh hhB108
     have HEB108:=gh eB108
     have HSB108:=gh hsB108
     clear eB108 hbB108 hhB108 hsB108
     obtain ⟨S110,hS110⟩:∃ Z9,mustD ts ⟨#[58]⟩ (S105)=Z9:=⟨_,rfl⟩
     have HC110:=gh (dmust_any (gf HR) (gf HT) ⟨#[58]⟩)
     rw [hS110] at HC110
     have HS110:=gh hS110
     clear hS110
     go_wp2_with fail
     rw [gf HEB108]
     refine (gf HC110).mono ?_
     rintro e w110 ⟨rfl,hb110,hR110⟩
     have hY111:=gf HY
     simp only [gf HS110] at hY111
     replace HY:=gh hY111
     clear hY111
     have hY112:=gf HPD
     try simp only [gf HS110] at hY112
     replace HPD:=gh hY112
     clear hY112
     replace HI:=gh ((gf HI).but' hb110)
     replace HX108:=gh ((hb110.block _ (blk (gf HX108)).1 (Ne.symm ne108)).trans (gf HX108))
     replace HB9:=gh ((gf HB9).trans hb110)
     replace HR:=gh hR110
     clear hb110 hR110 HC110 HS110
     have HC113:=gh (dtyp_of (gf HT) (gf hE) w110 (S110) (gf HR))
     obtain ⟨⟨t113,S113⟩,hX113⟩:∃ X,typD ts (S110)=X:=⟨_,rfl⟩
     rw [hX113] at HC113
     have HX113:=gh hX113
     have hlo113:w9.heap.size≤w110.heap.size:=(gf HB9).size
     clear hX113
     go_wp2_with fail
     refine (gf HC113).mono ?_
     rintro e w113 ⟨hb113,hR113,v113,rfl,hv113⟩
     have hY114:=gf HY
     simp only [gf HX113] at hY114
     replace HY:=gh hY114
     clear hY114
     have hY115:=gf HPD
     try simp only [gf HX113] at hY115
     replace HPD:=gh hY115
     clear hY115
     obtain ⟨a113,n113,c113,rfl,hv113⟩:=hv113
     have HT113:=gh (hv113.keep (lo':=w9.heap.size) (Stays.of (Below.refl _ _)) hlo113)
     replace HI:=gh ((gf HI).but' hb113)
     replace HX108:=gh ((hb113.block _ (blk (gf HX108)).1 (Ne.symm ne108)).trans (gf HX108))
     replace HB9:=gh ((gf HB9).trans hb113)
     replace HR:=gh hR113
     clear hb113 hR113 hv113 HC113 HX113 hlo113
     obtain ⟨B116,eB116,hbB116,hsB116,hhB116⟩:=box_new w113 #[.int .i64 t113.kind,.string t113.name,.slice a113 n113 c113,.int .i64 t113.at'] 54
     have ne116:r≠w113.heap.size:=by have:=(blk (gf HI).b).1;omega
     have hq116:w.heap.size+1<w113.heap.size:=(blk (gf HI).b).1
     have hbu117:=But.of (r:=r) hbB116
     replace HR:=gh ((gf HR).keep hbB116)
     replace HI:=gh ((gf HI).but' hbu117)
     replace HX108:=gh ((hbu117.block _ (blk (gf HX108)).1 (Ne.symm ne108)).trans (gf HX108))
     replace HT113:=gh ((gf HT113).keep (Stays.but hbu117 (by omega)) (Nat.le_refl _))
     replace HB9:=gh ((gf HB9).trans hbu117)
     have HX116:=gh hhB116
     have HEB116:=gh eB116
     have HSB116:=gh hsB116
     clear eB116 hbB116 hhB116 hsB116
     obtain ⟨S118,hS118⟩:∃ Z9,mustD ts ⟨#[41]⟩ (S113)=Z9:=⟨_,rfl⟩
     have HC118:=gh (dmust_any (gf HR) (gf HT) ⟨#[41]⟩)
     rw [hS118] at HC118
     have HS118:=gh hS118
     clear hS118
     go_wp2_with fail
     rw [gf HEB116]
     refine (gf HC118).mono ?_
     rintro e w118 ⟨rfl,hb118,hR118⟩
     have hY119:=gf HY
     simp only [gf HS118] at hY119
     replace HY:=gh hY119
     clear hY119
     have hY120:=gf HPD
     try simp only [gf HS118] at hY120
     replace HPD:=gh hY120
     clear hY120
     replace HI:=gh ((gf HI).but' hb118)
     replace HX108:=gh ((hb118.block _ (blk (gf HX108)).1 (Ne.symm ne108)).trans (gf HX108))
     replace HX116:=gh ((hb118.block _ (blk (gf HX116)).1 (Ne.symm ne116)).trans (gf HX116))
     replace HT113:=gh ((gf HT113).keep (Stays.but hb118 (by omega)) (Nat.le_refl _))
     replace HB9:=gh ((gf HB9).trans hb118)
     replace HR:=gh hR118
     clear hb118 hR118 HC118 HS118
     have hlb:l.length≤100000:=by have:=(gf hl).2;omega
     obtain ⟨gq,cap,wa,happ,hoa,hga,hwa⟩:=app_pm T105 t113.name t113.kind t113.at' at105 a113 n113 c113 (gf HI).own hlb (by have:=(blk (gf HI).b).1;omega)
     have hlsT:LsP w118 (fun b=>w9.heap.size≤b) (.slice a113 n113 c113) t113.r:=gf HT113
     obtain ⟨hG1,hwx,hkk⟩:=GI.more pm_keep pm_bnd (gf HG9) (gf HB9) (t7:=.mk T105 t113 at105) (cs:=[.string T105,.int .i64 t113.kind,.string t113.name,.slice a113 n113 c113,.int .i64 t113.at',.int .i64 at105]) (P7:=fun b=>w9.heap.size≤b) rfl ⟨_,_,_,rfl,hlsT⟩ (fun b hb h=>⟨by have:=(blk (gf HG9).b).1;omega,fun h=>h,fun e=>by have:=((gf HG9).own.lt b e).2;omega⟩) (fun j hj hx=>rfl) (Nat.le_refl _) ⟨rfl,rfl,rfl⟩ hoa hga hwa
     have hR1:=(gf HR).out (w':=wa.setCell ⟨w.heap.size+1,4,none⟩ (.slice (some ⟨gq,0,none⟩) (l.length+1) cap)) hr (fun k hk=>hkk k hk)
     have b4:=(blk (gf HI).b).2.1 4 _ rfl
     have u1:=(blk (gf HX108)).2.1 1 _ rfl
     have u2:=(blk (gf HX108)).2.1 2 _ rfl
     have v0:=(blk (gf HX116)).2.1 0 _ rfl
     have v1:=(blk (gf HX116)).2.1 1 _ rfl
     have v2:=(blk (gf HX116)).2.1 2 _ rfl
     have v3:=(blk (gf HX116)).2.1 3 _ rfl
     have wx4:=(blk hwx).2.1 4 _ rfl
     have wf4:=(blk hwx).2.2 4
     have HI1:=gh (And.intro hG1 hR1)
     rw [(gf hl).1.symm] at happ
     have R1:=gh happ
     clear hlsT hlb happ hoa hga hwa hG1 hwx hkk hR1 x4
     go_wp2_with (at_builtin;refine app_run _ _ _ rfl rfl rfl rfl (gf R1) ?_;clear R1)
     obtain ⟨hG1,hR1⟩:=gf HI1
     have he0:=gf HE0
     have hsi:=stepD_i (ts:=ts) he0 (isD_lt (gf HT) (gf HP0) (gf HO))
     have hle:=paramD_le ts S'
     obtain ⟨g',c',p0,p1,-⟩:=hR1.facts (Below.refl _ _)
     obtain ⟨hl1,hl2⟩:=gf hl
     have hP0:=gf HP0
     have hfu0:=gf hfu he0
     have h8':=gf h8
     have hlE:S'.i+1≤(S118).i:=by
      rw [hsi,gf HPE,←gf HPD] at hle
      exact hle
     subst hl1
     have hG2:Hid (GIp d x w r (.slice (some ⟨gq,0,none⟩) (l.length+1) cap) (l++[Pm.mk T105 t113 at105]) (vs++[[.string T105,.int .i64 t113.kind,.string t113.name,.slice a113 n113 c113,.int .i64 t113.at',.int .i64 at105]]) (wa.setCell ⟨w.heap.size+1,4,none⟩ (.slice (some ⟨gq,0,none⟩) (l.length+1) cap))):=hG1
     refine ⟨⟨l++[Pm.mk T105 t113 at105],_,S118,n,some ⟨gq,0,none⟩,l.length+1,cap,⟨by simp,by simp;omega⟩,hG2,gh hR1,HY,fun _=>by omega⟩,?_⟩
     rw [p1,gf HCUR]
     simp [intOf]
     omega
end Go.Proofs.YtfkfnbehdcmgeaaGreatDoor
