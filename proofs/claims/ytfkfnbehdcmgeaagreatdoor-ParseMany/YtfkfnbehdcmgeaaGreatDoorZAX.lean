/- avowhelp.Decls: of the same declarations it tells true. -/
import Derived.Test.YtfkfnbehdcmgeaaGreatDoorZAW
set_option linter.unusedVariables false
set_option linter.unusedSimpArgs false
namespace Go.Proofs.YtfkfnbehdcmgeaaGreatDoor
open Go Go.RowKit
theorem fa_de (q:Nat) (w:World):(Instr.fieldAt 56 (.pointer (some ⟨q,0,none⟩)) 4).run Tryz.prog w = .ok (.pointer (some ⟨q,4,none⟩)) w:=by go_simp
theorem fa_pm0 (b o:Nat) (w:World):(Instr.fieldAt 81 (.pointer (some ⟨b,o,none⟩)) 0).run Tryz.prog w = .ok (.pointer (some ⟨b,o,none⟩)) w:=by go_simp
theorem fa_pm1 (b o:Nat) (w:World):(Instr.fieldAt 81 (.pointer (some ⟨b,o,none⟩)) 1).run Tryz.prog w = .ok (.pointer (some ⟨b,o+1,none⟩)) w:=by go_simp
theorem fa_pm2 (b o:Nat) (w:World):(Instr.fieldAt 81 (.pointer (some ⟨b,o,none⟩)) 2).run Tryz.prog w = .ok (.pointer (some ⟨b,o+5,none⟩)) w:=by go_simp
theorem ix_pm {b o n c i:Nat} {w:World} (hi:i<n) (hn:n≤1000000):(Instr.indexAt 52 (.slice (some ⟨b,o,none⟩) n c) (.int .i64 (i:Int))).run Tryz.prog w = .ok (.pointer (some ⟨b,o+i * 6,none⟩)) w:=by
 have h1:¬ (i:Int)<0:=by omega
 have h2:¬ (n:Int)≤(i:Int):=by omega
 have h3:(i:Int)<(n:Int):=by omega
 go_simp
theorem ld_sl {q o:Nat} {a:Option Addr} {n c:Nat} {w:World} (h:w.cell? ⟨q,o,none⟩=some (.slice a n c)):(Instr.loadAt 52 (.pointer (some ⟨q,o,none⟩))).run Tryz.prog w = .ok (.slice a n c) w:=by go_simp
set_option maxRecDepth 100000 in
theorem ld_ty {b o:Nat} {nm tn:ByteArray} {kd tat pat:Int} {ta:Option Addr} {tn' tc:Nat} {w:World} (h:w.rangeAt b o [.string nm,.int .i64 kd,.string tn,.slice ta tn' tc,.int .i64 tat,.int .i64 pat]):(Instr.loadAt 54 (.pointer (some ⟨b,o+1,none⟩))).run Tryz.prog w = .ok (.agg #[.int .i64 kd,.string tn,.slice ta tn' tc,.int .i64 tat]) w:=
 run_loadAt_mid (P:=Tryz.prog) w b (o+1) 54 [.int .i64 kd,.string tn,.slice ta tn' tc,.int .i64 tat] _ (fun j u hj=>by
  have h1:j<4:=by simpa using (List.getElem?_eq_some_iff.1 hj).1
  have:=h (j+1) u (by
   rcases j with _ | _ | _ | _ | j
   ·exact hj
   ·exact hj
   ·exact hj
   ·exact hj
   ·omega)
  rw [Nat.add_assoc,Nat.add_comm 1]
  exact this) rfl rfl rfl
section
variable {X:Exit→Act→World→Prop} {K:Act→World→Prop} {a0:Act} {w:World} {dst:Option Tmp} {ty:TypeId} {pos:String} {af:Array Edge} {gd:Option (Nat×Bool)}
theorem op_neS {x y:Operand} {m:ByteArray} (p:a0.eval x = .string m) (q:a0.eval y = .string m) (h:K (a0.put dst (.bool false)) w):Oper.wp Tryz.prog ⟨dst,.binOp .neq 9 x y 9,ty,pos,af,gd⟩ a0 w K X:=by
 unfold Oper.wp
 simp only [execOp,p,q]
 go_simp
 exact h
theorem op_neI {x y:Operand} {m:Int} (p:a0.eval x = .int .i64 m) (q:a0.eval y = .int .i64 m) (h:K (a0.put dst (.bool false)) w):Oper.wp Tryz.prog ⟨dst,.binOp .neq 3 x y 3,ty,pos,af,gd⟩ a0 w K X:=by
 unfold Oper.wp
 simp only [execOp,p,q]
 go_simp
 exact h
theorem op_notB {x:Operand} (p:a0.eval x = .bool true) (h:K (a0.put dst (.bool false)) w):Oper.wp Tryz.prog ⟨dst,.unOp .not 4 x,ty,pos,af,gd⟩ a0 w K X:=by
 unfold Oper.wp
 simp only [execOp,p]
 go_simp
 exact h
end
theorem enter_htype:Enters Tryz.prog 33:=⟨fun xs w=>by go_simp⟩
set_option maxRecDepth 100000 in
set_option maxHeartbeats 16000000 in
theorem decls_r12 {Q:Exit→Act→World→Prop} {a0:Act} {W:World} {qx qy b1 o1 b2 o2 k np c1 c2 tn1 tc1 tn2 tc2:Nat} {nm tn:ByteArray} {kd tat pat:Int} {ta1 ta2:Option Addr} (hN:a0.tmps.size=175) (h6:a0.tmps[6]?=some (.pointer (some ⟨qx,0,none⟩))) (h7:a0.tmps[7]?=some (.pointer (some ⟨qy,0,none⟩))) (h8:a0.tmps[8]?=some (.int .i64 (k:Int))) (hkn:k<np) (hnp:np≤1000000)
  (hmx:∀ w,Below W.heap.size W w→w.cell? ⟨qx,4,none⟩=some (.slice (some ⟨b1,o1,none⟩) np c1)) (hmy:∀ w,Below W.heap.size W w→w.cell? ⟨qy,4,none⟩=some (.slice (some ⟨b2,o2,none⟩) np c2)) (hrx:∀ w,Below W.heap.size W w→w.rangeAt b1 (o1+k * 6) [.string nm,.int .i64 kd,.string tn,.slice ta1 tn1 tc1,.int .i64 tat,.int .i64 pat]) (hry:∀ w,Below W.heap.size W w→w.rangeAt b2 (o2+k * 6) [.string nm,.int .i64 kd,.string tn,.slice ta2 tn2 tc2,.int .i64 tat,.int .i64 pat])
  (hC:∀ W',Below W.heap.size W W'→Calls Tryz.prog 33 #[.agg #[.int .i64 kd,.string tn,.slice ta1 tn1 tc1,.int .i64 tat],.agg #[.int .i64 kd,.string tn,.slice ta2 tn2 tc2,.int .i64 tat]] W' (VP (.bool true) W'))
  (hend:∀ (a:Act) (w:World),a.defers=a0.defers→(∀ k,k∈((List.range 175).filter fun i => !([131,132,133,134,135,136,137,138,139,140,141,142,143,144,145,146,147,148,149,150,151,152,153,154,155,156,157,158,159,160,161,162,163,164,165,166,167,168,169,170,171,172,173,174].contains i))→a.tmps[k]?=a0.tmps[k]?)→a.tmps.size=175→a.tmps[174]?=some (.bool false)→Below W.heap.size W w→Q .normal a w) :
  (Code.region 12 (regionOf Tryz.f16 12).toArray true).wp Tryz.prog Q a0 W:=by
 have hl:(regionOf Tryz.f16 12).length=44:=by kernel_rfl
 have hds:((List.range 44).all fun i=>((regionOf Tryz.f16 12).getD i default).dst.isSome)=true:=by kernel_rfl
 have hk6:6∈((List.range 175).filter fun i => !([131,132,133,134,135,136,137,138,139,140,141,142,143,144,145,146,147,148,149,150,151,152,153,154,155,156,157,158,159,160,161,162,163,164,165,166,167,168,169,170,171,172,173,174].contains i)):=by decide
 have hk7:7∈((List.range 175).filter fun i => !([131,132,133,134,135,136,137,138,139,140,141,142,143,144,145,146,147,148,149,150,151,152,153,154,155,156,157,158,159,160,161,162,163,164,165,166,167,168,169,170,171,172,173,174].contains i)):=by decide
 have hk8:8∈((List.range 175).filter fun i => !([131,132,133,134,135,136,137,138,139,140,141,142,143,144,145,146,147,148,149,150,151,152,153,154,155,156,157,158,159,160,161,162,163,164,165,166,167,168,169,170,171,172,173,174].contains i)):=by decide
 refine wp_region_any (by kernel_rfl) ?_
 refine seqP (l:=(regionOf Tryz.f16 12)) 175 ((List.range 175).filter fun i => !([131,132,133,134,135,136,137,138,139,140,141,142,143,144,145,146,147,148,149,150,151,152,153,154,155,156,157,158,159,160,161,162,163,164,165,166,167,168,169,170,171,172,173,174].contains i)) (fun j v=>∀ u,([.pointer (some ⟨qx,4,none⟩),.slice (some ⟨b1,o1,none⟩) np c1,.int .i64 (k:Int),.pointer (some ⟨b1,o1+k * 6,none⟩),.pointer (some ⟨b1,o1+k * 6,none⟩),.string nm,.pointer (some ⟨qy,4,none⟩),.slice (some ⟨b2,o2,none⟩) np c2,.int .i64 (k:Int),.pointer (some ⟨b2,o2+k * 6,none⟩),.pointer (some ⟨b2,o2+k * 6,none⟩),.string nm,.bool false,.bool false,.pointer (some ⟨qx,4,none⟩),.slice (some ⟨b1,o1,none⟩) np c1,.int .i64 (k:Int),.pointer (some ⟨b1,o1+k * 6,none⟩),.pointer (some ⟨b1,o1+k * 6+5,none⟩),.int .i64 pat,.pointer (some ⟨qy,4,none⟩),.slice (some ⟨b2,o2,none⟩) np c2,.int .i64 (k:Int),.pointer (some ⟨b2,o2+k * 6,none⟩),.pointer (some ⟨b2,o2+k * 6+5,none⟩),.int .i64 pat,.bool false,.bool false,.bool false,.pointer (some ⟨qx,4,none⟩),.slice (some ⟨b1,o1,none⟩) np c1,.int .i64 (k:Int),.pointer (some ⟨b1,o1+k * 6,none⟩),.pointer (some ⟨b1,o1+k * 6+1,none⟩),.agg #[.int .i64 kd,.string tn,.slice ta1 tn1 tc1,.int .i64 tat],.pointer (some ⟨qy,4,none⟩),.slice (some ⟨b2,o2,none⟩) np c2,.int .i64 (k:Int),.pointer (some ⟨b2,o2+k * 6,none⟩),.pointer (some ⟨b2,o2+k * 6+1,none⟩),.agg #[.int .i64 kd,.string tn,.slice ta2 tn2 tc2,.int .i64 tat],.bool true,.bool false,.bool false]:List Value)[j]?=some u→v=u) (fun j=>j == 41) (fun _ _ w=>Below W.heap.size W w) (by kernel_rfl) hN ?_ ?_ ?_ ?_ ?_ ?_ ?_
 ·intro i hi
  rw [hl]
  simp at hi
  omega
 ·exact (Below.refl _ W).drew
 ·intro L L' s s' w h hs
  exact hs
 ·intro i o ho hd
  have hi:i<44:=by rw [←hl];exact (List.getElem?_eq_some_iff.1 ho).1
  have he:(regionOf Tryz.f16 12).getD i default=o:=by simp [List.getD,ho]
  have:=List.all_eq_true.1 hds i (List.mem_range.2 hi)
  rw [he,hd] at this
  cases this
 ·intro i hi hni a w L hd hsz hk hp hB
  rw [hl] at hi
  have hii:i=0∨i=1∨i=2∨i=3∨i=4∨i=5∨i=6∨i=7∨i=8∨i=9∨i=10∨i=11∨i=12∨i=13∨i=14∨i=15∨i=16∨i=17∨i=18∨i=19∨i=20∨i=21∨i=22∨i=23∨i=24∨i=25∨i=26∨i=27∨i=28∨i=29∨i=30∨i=31∨i=32∨i=33∨i=34∨i=35∨i=36∨i=37∨i=38∨i=39∨i=40∨i=42∨i=43:=by simp at hni;omega
  rcases hii with rfl | rfl | rfl | rfl | rfl | rfl | rfl | rfl | rfl | rfl | rfl | rfl | rfl | rfl | rfl | rfl | rfl | rfl | rfl | rfl | rfl | rfl | rfl | rfl | rfl | rfl | rfl | rfl | rfl | rfl | rfl | rfl | rfl | rfl | rfl | rfl | rfl | rfl | rfl | rfl | rfl | rfl | rfl
  ·have e1:a.eval (.tmp 6) = .pointer (some ⟨qx,0,none⟩):=getD_of ((hk 6 hk6).trans h6)
   exact st_want (wnone rfl) (op_fieldAddr e1 (fa_de qx w) ⟨_,rfl,rfl,fun u hu=>(Option.some.inj hu)⟩)
  ·have e1:a.eval (.tmp 131) = .pointer (some ⟨qx,4,none⟩):=hp 0 (by kernel_rfl) _ rfl
   exact st_want (wnone rfl) (op_load e1 (ld_sl (hmx w hB)) ⟨_,rfl,rfl,fun u hu=>(Option.some.inj hu)⟩)
  ·exact st_want (wnone rfl) (op_move ⟨_,rfl,rfl,fun u hu=>(getD_of ((hk 8 hk8).trans h8)).trans (Option.some.inj hu)⟩)
  ·have e1:a.eval (.tmp 132) = .slice (some ⟨b1,o1,none⟩) np c1:=hp 1 (by kernel_rfl) _ rfl
   have e2:a.eval (.tmp 133) = .int .i64 (k:Int):=hp 2 (by kernel_rfl) _ rfl
   exact st_want (wnone rfl) (op_idx e1 e2 (ix_pm hkn hnp) ⟨_,rfl,rfl,fun u hu=>(Option.some.inj hu)⟩)
  ·have e1:a.eval (.tmp 134) = .pointer (some ⟨b1,o1+k * 6,none⟩):=hp 3 (by kernel_rfl) _ rfl
   exact st_want (wnone rfl) (op_fieldAddr e1 (fa_pm0 _ _ w) ⟨_,rfl,rfl,fun u hu=>(Option.some.inj hu)⟩)
  ·have e1:a.eval (.tmp 135) = .pointer (some ⟨b1,o1+k * 6,none⟩):=hp 4 (by kernel_rfl) _ rfl
   exact st_want (wnone rfl) (op_load e1 (ld_str ((hrx w hB) 0 _ rfl)) ⟨_,rfl,rfl,fun u hu=>(Option.some.inj hu)⟩)
  ·have e1:a.eval (.tmp 7) = .pointer (some ⟨qy,0,none⟩):=getD_of ((hk 7 hk7).trans h7)
   exact st_want (wnone rfl) (op_fieldAddr e1 (fa_de qy w) ⟨_,rfl,rfl,fun u hu=>(Option.some.inj hu)⟩)
  ·have e1:a.eval (.tmp 137) = .pointer (some ⟨qy,4,none⟩):=hp 6 (by kernel_rfl) _ rfl
   exact st_want (wnone rfl) (op_load e1 (ld_sl (hmy w hB)) ⟨_,rfl,rfl,fun u hu=>(Option.some.inj hu)⟩)
  ·exact st_want (wnone rfl) (op_move ⟨_,rfl,rfl,fun u hu=>(getD_of ((hk 8 hk8).trans h8)).trans (Option.some.inj hu)⟩)
  ·have e1:a.eval (.tmp 138) = .slice (some ⟨b2,o2,none⟩) np c2:=hp 7 (by kernel_rfl) _ rfl
   have e2:a.eval (.tmp 139) = .int .i64 (k:Int):=hp 8 (by kernel_rfl) _ rfl
   exact st_want (wnone rfl) (op_idx e1 e2 (ix_pm hkn hnp) ⟨_,rfl,rfl,fun u hu=>(Option.some.inj hu)⟩)
  ·have e1:a.eval (.tmp 140) = .pointer (some ⟨b2,o2+k * 6,none⟩):=hp 9 (by kernel_rfl) _ rfl
   exact st_want (wnone rfl) (op_fieldAddr e1 (fa_pm0 _ _ w) ⟨_,rfl,rfl,fun u hu=>(Option.some.inj hu)⟩)
  ·have e1:a.eval (.tmp 141) = .pointer (some ⟨b2,o2+k * 6,none⟩):=hp 10 (by kernel_rfl) _ rfl
   exact st_want (wnone rfl) (op_load e1 (ld_str ((hry w hB) 0 _ rfl)) ⟨_,rfl,rfl,fun u hu=>(Option.some.inj hu)⟩)
  ·have e1:a.eval (.tmp 136) = .string nm:=hp 5 (by kernel_rfl) _ rfl
   have e2:a.eval (.tmp 142) = .string nm:=hp 11 (by kernel_rfl) _ rfl
   exact st_want (wnone rfl) (op_neS e1 e2 ⟨_,rfl,rfl,fun u hu=>(Option.some.inj hu)⟩)
  ·have e1:a.eval (.tmp 143) = .bool false:=hp 12 (by kernel_rfl) _ rfl
   exact st_want (wnone rfl) (op_move ⟨_,rfl,rfl,fun u hu=>e1.trans (Option.some.inj hu)⟩)
  ·have e1:a.eval (.tmp 6) = .pointer (some ⟨qx,0,none⟩):=getD_of ((hk 6 hk6).trans h6)
   exact st_want (wanted_slot rfl (hp 13 (by kernel_rfl) _ rfl) (by kernel_rfl)) (op_fieldAddr e1 (fa_de qx w) ⟨_,rfl,rfl,fun u hu=>(Option.some.inj hu)⟩)
  ·have e1:a.eval (.tmp 145) = .pointer (some ⟨qx,4,none⟩):=hp 14 (by kernel_rfl) _ rfl
   exact st_want (wanted_slot rfl (hp 13 (by kernel_rfl) _ rfl) (by kernel_rfl)) (op_load e1 (ld_sl (hmx w hB)) ⟨_,rfl,rfl,fun u hu=>(Option.some.inj hu)⟩)
  ·exact st_want (wanted_slot rfl (hp 13 (by kernel_rfl) _ rfl) (by kernel_rfl)) (op_move ⟨_,rfl,rfl,fun u hu=>(getD_of ((hk 8 hk8).trans h8)).trans (Option.some.inj hu)⟩)
  ·have e1:a.eval (.tmp 146) = .slice (some ⟨b1,o1,none⟩) np c1:=hp 15 (by kernel_rfl) _ rfl
   have e2:a.eval (.tmp 147) = .int .i64 (k:Int):=hp 16 (by kernel_rfl) _ rfl
   exact st_want (wanted_slot rfl (hp 13 (by kernel_rfl) _ rfl) (by kernel_rfl)) (op_idx e1 e2 (ix_pm hkn hnp) ⟨_,rfl,rfl,fun u hu=>(Option.some.inj hu)⟩)
  ·have e1:a.eval (.tmp 148) = .pointer (some ⟨b1,o1+k * 6,none⟩):=hp 17 (by kernel_rfl) _ rfl
   exact st_want (wanted_slot rfl (hp 13 (by kernel_rfl) _ rfl) (by kernel_rfl)) (op_fieldAddr e1 (fa_pm2 _ _ w) ⟨_,rfl,rfl,fun u hu=>(Option.some.inj hu)⟩)
  ·have e1:a.eval (.tmp 149) = .pointer (some ⟨b1,o1+k * 6+5,none⟩):=hp 18 (by kernel_rfl) _ rfl
   exact st_want (wanted_slot rfl (hp 13 (by kernel_rfl) _ rfl) (by kernel_rfl)) (op_load e1 (ld_int ((hrx w hB) 5 _ rfl)) ⟨_,rfl,rfl,fun u hu=>(Option.some.inj hu)⟩)
  ·have e1:a.eval (.tmp 7) = .pointer (some ⟨qy,0,none⟩):=getD_of ((hk 7 hk7).trans h7)
   exact st_want (wanted_slot rfl (hp 13 (by kernel_rfl) _ rfl) (by kernel_rfl)) (op_fieldAddr e1 (fa_de qy w) ⟨_,rfl,rfl,fun u hu=>(Option.some.inj hu)⟩)
  ·have e1:a.eval (.tmp 151) = .pointer (some ⟨qy,4,none⟩):=hp 20 (by kernel_rfl) _ rfl
   exact st_want (wanted_slot rfl (hp 13 (by kernel_rfl) _ rfl) (by kernel_rfl)) (op_load e1 (ld_sl (hmy w hB)) ⟨_,rfl,rfl,fun u hu=>(Option.some.inj hu)⟩)
  ·exact st_want (wanted_slot rfl (hp 13 (by kernel_rfl) _ rfl) (by kernel_rfl)) (op_move ⟨_,rfl,rfl,fun u hu=>(getD_of ((hk 8 hk8).trans h8)).trans (Option.some.inj hu)⟩)
  ·have e1:a.eval (.tmp 152) = .slice (some ⟨b2,o2,none⟩) np c2:=hp 21 (by kernel_rfl) _ rfl
   have e2:a.eval (.tmp 153) = .int .i64 (k:Int):=hp 22 (by kernel_rfl) _ rfl
   exact st_want (wanted_slot rfl (hp 13 (by kernel_rfl) _ rfl) (by kernel_rfl)) (op_idx e1 e2 (ix_pm hkn hnp) ⟨_,rfl,rfl,fun u hu=>(Option.some.inj hu)⟩)
  ·have e1:a.eval (.tmp 154) = .pointer (some ⟨b2,o2+k * 6,none⟩):=hp 23 (by kernel_rfl) _ rfl
   exact st_want (wanted_slot rfl (hp 13 (by kernel_rfl) _ rfl) (by kernel_rfl)) (op_fieldAddr e1 (fa_pm2 _ _ w) ⟨_,rfl,rfl,fun u hu=>(Option.some.inj hu)⟩)
  ·have e1:a.eval (.tmp 155) = .pointer (some ⟨b2,o2+k * 6+5,none⟩):=hp 24 (by kernel_rfl) _ rfl
   exact st_want (wanted_slot rfl (hp 13 (by kernel_rfl) _ rfl) (by kernel_rfl)) (op_load e1 (ld_int ((hry w hB) 5 _ rfl)) ⟨_,rfl,rfl,fun u hu=>(Option.some.inj hu)⟩)
  ·have e1:a.eval (.tmp 150) = .int .i64 pat:=hp 19 (by kernel_rfl) _ rfl
   have e2:a.eval (.tmp 156) = .int .i64 pat:=hp 25 (by kernel_rfl) _ rfl
   exact st_want (wanted_slot rfl (hp 13 (by kernel_rfl) _ rfl) (by kernel_rfl)) (op_neI e1 e2 ⟨_,rfl,rfl,fun u hu=>(Option.some.inj hu)⟩)
  ·have e1:a.eval (.tmp 144) = .bool false:=hp 13 (by kernel_rfl) _ rfl
   have e2:a.eval (.tmp 157) = .bool false:=hp 26 (by kernel_rfl) _ rfl
   exact st_want (wnone rfl) (op_pick e1 ⟨_,rfl,rfl,fun u hu=>e2.trans (Option.some.inj hu)⟩)
  ·have e1:a.eval (.tmp 158) = .bool false:=hp 27 (by kernel_rfl) _ rfl
   exact st_want (wnone rfl) (op_move ⟨_,rfl,rfl,fun u hu=>e1.trans (Option.some.inj hu)⟩)
  ·have e1:a.eval (.tmp 6) = .pointer (some ⟨qx,0,none⟩):=getD_of ((hk 6 hk6).trans h6)
   exact st_want (wanted_slot rfl (hp 28 (by kernel_rfl) _ rfl) (by kernel_rfl)) (op_fieldAddr e1 (fa_de qx w) ⟨_,rfl,rfl,fun u hu=>(Option.some.inj hu)⟩)
  ·have e1:a.eval (.tmp 160) = .pointer (some ⟨qx,4,none⟩):=hp 29 (by kernel_rfl) _ rfl
   exact st_want (wanted_slot rfl (hp 28 (by kernel_rfl) _ rfl) (by kernel_rfl)) (op_load e1 (ld_sl (hmx w hB)) ⟨_,rfl,rfl,fun u hu=>(Option.some.inj hu)⟩)
  ·exact st_want (wanted_slot rfl (hp 28 (by kernel_rfl) _ rfl) (by kernel_rfl)) (op_move ⟨_,rfl,rfl,fun u hu=>(getD_of ((hk 8 hk8).trans h8)).trans (Option.some.inj hu)⟩)
  ·have e1:a.eval (.tmp 161) = .slice (some ⟨b1,o1,none⟩) np c1:=hp 30 (by kernel_rfl) _ rfl
   have e2:a.eval (.tmp 162) = .int .i64 (k:Int):=hp 31 (by kernel_rfl) _ rfl
   exact st_want (wanted_slot rfl (hp 28 (by kernel_rfl) _ rfl) (by kernel_rfl)) (op_idx e1 e2 (ix_pm hkn hnp) ⟨_,rfl,rfl,fun u hu=>(Option.some.inj hu)⟩)
  ·have e1:a.eval (.tmp 163) = .pointer (some ⟨b1,o1+k * 6,none⟩):=hp 32 (by kernel_rfl) _ rfl
   exact st_want (wanted_slot rfl (hp 28 (by kernel_rfl) _ rfl) (by kernel_rfl)) (op_fieldAddr e1 (fa_pm1 _ _ w) ⟨_,rfl,rfl,fun u hu=>(Option.some.inj hu)⟩)
  ·have e1:a.eval (.tmp 164) = .pointer (some ⟨b1,o1+k * 6+1,none⟩):=hp 33 (by kernel_rfl) _ rfl
   exact st_want (wanted_slot rfl (hp 28 (by kernel_rfl) _ rfl) (by kernel_rfl)) (op_load e1 (ld_ty (hrx w hB)) ⟨_,rfl,rfl,fun u hu=>(Option.some.inj hu)⟩)
  ·have e1:a.eval (.tmp 7) = .pointer (some ⟨qy,0,none⟩):=getD_of ((hk 7 hk7).trans h7)
   exact st_want (wanted_slot rfl (hp 28 (by kernel_rfl) _ rfl) (by kernel_rfl)) (op_fieldAddr e1 (fa_de qy w) ⟨_,rfl,rfl,fun u hu=>(Option.some.inj hu)⟩)
  ·have e1:a.eval (.tmp 166) = .pointer (some ⟨qy,4,none⟩):=hp 35 (by kernel_rfl) _ rfl
   exact st_want (wanted_slot rfl (hp 28 (by kernel_rfl) _ rfl) (by kernel_rfl)) (op_load e1 (ld_sl (hmy w hB)) ⟨_,rfl,rfl,fun u hu=>(Option.some.inj hu)⟩)
  ·exact st_want (wanted_slot rfl (hp 28 (by kernel_rfl) _ rfl) (by kernel_rfl)) (op_move ⟨_,rfl,rfl,fun u hu=>(getD_of ((hk 8 hk8).trans h8)).trans (Option.some.inj hu)⟩)
  ·have e1:a.eval (.tmp 167) = .slice (some ⟨b2,o2,none⟩) np c2:=hp 36 (by kernel_rfl) _ rfl
   have e2:a.eval (.tmp 168) = .int .i64 (k:Int):=hp 37 (by kernel_rfl) _ rfl
   exact st_want (wanted_slot rfl (hp 28 (by kernel_rfl) _ rfl) (by kernel_rfl)) (op_idx e1 e2 (ix_pm hkn hnp) ⟨_,rfl,rfl,fun u hu=>(Option.some.inj hu)⟩)
  ·have e1:a.eval (.tmp 169) = .pointer (some ⟨b2,o2+k * 6,none⟩):=hp 38 (by kernel_rfl) _ rfl
   exact st_want (wanted_slot rfl (hp 28 (by kernel_rfl) _ rfl) (by kernel_rfl)) (op_fieldAddr e1 (fa_pm1 _ _ w) ⟨_,rfl,rfl,fun u hu=>(Option.some.inj hu)⟩)
  ·have e1:a.eval (.tmp 170) = .pointer (some ⟨b2,o2+k * 6+1,none⟩):=hp 39 (by kernel_rfl) _ rfl
   exact st_want (wanted_slot rfl (hp 28 (by kernel_rfl) _ rfl) (by kernel_rfl)) (op_load e1 (ld_ty (hry w hB)) ⟨_,rfl,rfl,fun u hu=>(Option.some.inj hu)⟩)
  ·have e1:a.eval (.tmp 172) = .bool true:=hp 41 (by kernel_rfl) _ rfl
   exact st_want (wanted_slot rfl (hp 28 (by kernel_rfl) _ rfl) (by kernel_rfl)) (op_notB e1 ⟨_,rfl,rfl,fun u hu=>(Option.some.inj hu)⟩)
  ·have e1:a.eval (.tmp 159) = .bool false:=hp 28 (by kernel_rfl) _ rfl
   have e2:a.eval (.tmp 173) = .bool false:=hp 42 (by kernel_rfl) _ rfl
   exact st_want (wnone rfl) (op_pick e1 ⟨_,rfl,rfl,fun u hu=>e2.trans (Option.some.inj hu)⟩)
 ·intro i hi a w L hd hsz hk hp0 hLi hdown hB
  obtain rfl:i=41:=by simpa using hi
  have hp:∀ j,(preds ((regionOf Tryz.f16 12).getD 41 default)).contains j=true→∀ u,([.pointer (some ⟨qx,4,none⟩),.slice (some ⟨b1,o1,none⟩) np c1,.int .i64 (k:Int),.pointer (some ⟨b1,o1+k * 6,none⟩),.pointer (some ⟨b1,o1+k * 6,none⟩),.string nm,.pointer (some ⟨qy,4,none⟩),.slice (some ⟨b2,o2,none⟩) np c2,.int .i64 (k:Int),.pointer (some ⟨b2,o2+k * 6,none⟩),.pointer (some ⟨b2,o2+k * 6,none⟩),.string nm,.bool false,.bool false,.pointer (some ⟨qx,4,none⟩),.slice (some ⟨b1,o1,none⟩) np c1,.int .i64 (k:Int),.pointer (some ⟨b1,o1+k * 6,none⟩),.pointer (some ⟨b1,o1+k * 6+5,none⟩),.int .i64 pat,.pointer (some ⟨qy,4,none⟩),.slice (some ⟨b2,o2,none⟩) np c2,.int .i64 (k:Int),.pointer (some ⟨b2,o2+k * 6,none⟩),.pointer (some ⟨b2,o2+k * 6+5,none⟩),.int .i64 pat,.bool false,.bool false,.bool false,.pointer (some ⟨qx,4,none⟩),.slice (some ⟨b1,o1,none⟩) np c1,.int .i64 (k:Int),.pointer (some ⟨b1,o1+k * 6,none⟩),.pointer (some ⟨b1,o1+k * 6+1,none⟩),.agg #[.int .i64 kd,.string tn,.slice ta1 tn1 tc1,.int .i64 tat],.pointer (some ⟨qy,4,none⟩),.slice (some ⟨b2,o2,none⟩) np c2,.int .i64 (k:Int),.pointer (some ⟨b2,o2+k * 6,none⟩),.pointer (some ⟨b2,o2+k * 6+1,none⟩),.agg #[.int .i64 kd,.string tn,.slice ta2 tn2 tc2,.int .i64 tat],.bool true,.bool false,.bool false]:List Value)[j]?=some u→slotOf (regionOf Tryz.f16 12).toArray a j=u:=fun j hj=>(hp0 j hj).2
  have e1:a.tmps.getD 165 undef = .agg #[.int .i64 kd,.string tn,.slice ta1 tn1 tc1,.int .i64 tat]:=hp 34 (by kernel_rfl) _ rfl
  have e2:a.tmps.getD 171 undef = .agg #[.int .i64 kd,.string tn,.slice ta2 tn2 tc2,.int .i64 tat]:=hp 40 (by kernel_rfl) _ rfl
  have hargs:(#[Operand.tmp 165,Operand.tmp 171]).map a.eval = #[.agg #[.int .i64 kd,.string tn,.slice ta1 tn1 tc1,.int .i64 tat],.agg #[.int .i64 kd,.string tn,.slice ta2 tn2 tc2,.int .i64 tat]]:=by
   simp only [List.map_toArray,List.map_cons,List.map_nil,Act.eval]
   rw [e1,e2]
  refine st_want (wanted_slot rfl (hp 28 (by kernel_rfl) _ rfl) (by kernel_rfl)) (op_callP enter_htype ?_)
  rw [hargs]
  refine (hC w hB).mono ?_
  rintro e w' ⟨rfl,hb⟩
  exact .inl ⟨_,rfl,_,rfl,(fun _ u hu=>(Option.some.inj hu)),hB.trans (hb.mono hB.size)⟩
 ·intro a w hd hsz hk hp hB
  have e9:a.tmps.getD 174 undef = .bool false:=hp 43 (by rw [hl];decide) _ rfl
  have h1:174<a.tmps.size:=by omega
  rw [Array.getD_eq_getD_getElem?,Array.getElem?_eq_getElem h1] at e9
  exact hend a w hd hk hsz (by rw [Array.getElem?_eq_getElem h1];exact congrArg some e9) hB
end Go.Proofs.YtfkfnbehdcmgeaaGreatDoor
namespace Go.Proofs.YtfkfnbehdcmgeaaGreatDoor
open Go Go.RowKit
set_option maxRecDepth 100000 in
theorem act175 {a a0:Act} {y0 y1 y2 y3 y4 y5 y6 y7 y8 y9 y10 y11 y12 y13 y14 y15 y16 y17 y18 y19 y20 y21 y22 y23 y24 y25 y26 y27 y28 y29 y30 y31 y32 y33 y34 y35 y36 y37 y38 y39 y40 y41 y42 y43 y44 y45 y46 y47 y48 y49 y50 y51 y52 y53 y54 y55 y56 y57 y58 y59 y60 y61 y62 y63 y64 y65 y66 y67 y68 y69 y70 y71 y72 y73 y74 y75 y76 y77 y78 y79 y80 y81 y82 y83 y84 y85 y86 y87 y88 y89 y90 y91 y92 y93 y94 y95 y96 y97 y98 y99 y100 y101 y102 y103 y104 y105 y106 y107 y108 y109 y110 y111 y112 y113 y114 y115 y116 y117 y118 y119 y120 y121 y122 y123 y124 y125 y126 y127 y128 y129 y130 y131 y132 y133 y134 y135 y136 y137 y138 y139 y140 y141 y142 y143 y144 y145 y146 y147 y148 y149 y150 y151 y152 y153 y154 y155 y156 y157 y158 y159 y160 y161 y162 y163 y164 y165 y166 y167 y168 y169 y170 y171 y172 y173 y174:Value} (h0:a0.tmps=(List.toArray (y0::y1::y2::y3::y4::y5::y6::y7::y8::y9::y10::y11::y12::y13::y14::y15::y16::y17::y18::y19::y20::y21::y22::y23::y24::y25::y26::y27::y28::y29::y30::y31::y32::y33::y34::y35::y36::y37::y38::y39::y40::y41::y42::y43::y44::y45::y46::y47::y48::y49::y50::y51::y52::y53::y54::y55::y56::y57::y58::y59::y60::y61::y62::y63::y64::y65::y66::y67::y68::y69::y70::y71::y72::y73::y74::y75::y76::y77::y78::y79::y80::y81::y82::y83::y84::y85::y86::y87::y88::y89::y90::y91::y92::y93::y94::y95::y96::y97::y98::y99::y100::y101::y102::y103::y104::y105::y106::y107::y108::y109::y110::y111::y112::y113::y114::y115::y116::y117::y118::y119::y120::y121::y122::y123::y124::y125::y126::y127::y128::y129::y130::y131::y132::y133::y134::y135::y136::y137::y138::y139::y140::y141::y142::y143::y144::y145::y146::y147::y148::y149::y150::y151::y152::y153::y154::y155::y156::y157::y158::y159::y160::y161::y162::y163::y164::y165::y166::y167::y168::y169::y170::y171::y172::y173::y174::[]))) (hd:a.defers=a0.defers) (hn:a.tmps.size=175) (hk:∀ k,k∈((List.range 175).filter fun i => !([131,132,133,134,135,136,137,138,139,140,141,142,143,144,145,146,147,148,149,150,151,152,153,154,155,156,157,158,159,160,161,162,163,164,165,166,167,168,169,170,171,172,173,174].contains i))→a.tmps[k]?=a0.tmps[k]?):∃ x:Nat→Value,a=⟨(List.toArray (y0::y1::y2::y3::y4::y5::y6::y7::y8::y9::y10::y11::y12::y13::y14::y15::y16::y17::y18::y19::y20::y21::y22::y23::y24::y25::y26::y27::y28::y29::y30::y31::y32::y33::y34::y35::y36::y37::y38::y39::y40::y41::y42::y43::y44::y45::y46::y47::y48::y49::y50::y51::y52::y53::y54::y55::y56::y57::y58::y59::y60::y61::y62::y63::y64::y65::y66::y67::y68::y69::y70::y71::y72::y73::y74::y75::y76::y77::y78::y79::y80::y81::y82::y83::y84::y85::y86::y87::y88::y89::y90::y91::y92::y93::y94::y95::y96::y97::y98::y99::y100::y101::y102::y103::y104::y105::y106::y107::y108::y109::y110::y111::y112::y113::y114::y115::y116::y117::y118::y119::y120::y121::y122::y123::y124::y125::y126::y127::y128::y129::y130::x 131::x 132::x 133::x 134::x 135::x 136::x 137::x 138::x 139::x 140::x 141::x 142::x 143::x 144::x 145::x 146::x 147::x 148::x 149::x 150::x 151::x 152::x 153::x 154::x 155::x 156::x 157::x 158::x 159::x 160::x 161::x 162::x 163::x 164::x 165::x 166::x 167::x 168::x 169::x 170::x 171::x 172::x 173::x 174::[])),a0.defers⟩∧∀ i,x i=a.tmps.getD i undef:=by
 obtain ⟨x,e,hx⟩:=act_set (N:=175) (kept:=((List.range 175).filter fun i => !([131,132,133,134,135,136,137,138,139,140,141,142,143,144,145,146,147,148,149,150,151,152,153,154,155,156,157,158,159,160,161,162,163,164,165,166,167,168,169,170,171,172,173,174].contains i))) [131,132,133,134,135,136,137,138,139,140,141,142,143,144,145,146,147,148,149,150,151,152,153,154,155,156,157,158,159,160,161,162,163,164,165,166,167,168,169,170,171,172,173,174] (by decide) hd hn (by rw [h0];rfl) hk
 refine ⟨x,?_,hx⟩
 have e2:setAll x [131,132,133,134,135,136,137,138,139,140,141,142,143,144,145,146,147,148,149,150,151,152,153,154,155,156,157,158,159,160,161,162,163,164,165,166,167,168,169,170,171,172,173,174] (List.toArray (y0::y1::y2::y3::y4::y5::y6::y7::y8::y9::y10::y11::y12::y13::y14::y15::y16::y17::y18::y19::y20::y21::y22::y23::y24::y25::y26::y27::y28::y29::y30::y31::y32::y33::y34::y35::y36::y37::y38::y39::y40::y41::y42::y43::y44::y45::y46::y47::y48::y49::y50::y51::y52::y53::y54::y55::y56::y57::y58::y59::y60::y61::y62::y63::y64::y65::y66::y67::y68::y69::y70::y71::y72::y73::y74::y75::y76::y77::y78::y79::y80::y81::y82::y83::y84::y85::y86::y87::y88::y89::y90::y91::y92::y93::y94::y95::y96::y97::y98::y99::y100::y101::y102::y103::y104::y105::y106::y107::y108::y109::y110::y111::y112::y113::y114::y115::y116::y117::y118::y119::y120::y121::y122::y123::y124::y125::y126::y127::y128::y129::y130::y131::y132::y133::y134::y135::y136::y137::y138::y139::y140::y141::y142::y143::y144::y145::y146::y147::y148::y149::y150::y151::y152::y153::y154::y155::y156::y157::y158::y159::y160::y161::y162::y163::y164::y165::y166::y167::y168::y169::y170::y171::y172::y173::y174::[]))=(List.toArray (y0::y1::y2::y3::y4::y5::y6::y7::y8::y9::y10::y11::y12::y13::y14::y15::y16::y17::y18::y19::y20::y21::y22::y23::y24::y25::y26::y27::y28::y29::y30::y31::y32::y33::y34::y35::y36::y37::y38::y39::y40::y41::y42::y43::y44::y45::y46::y47::y48::y49::y50::y51::y52::y53::y54::y55::y56::y57::y58::y59::y60::y61::y62::y63::y64::y65::y66::y67::y68::y69::y70::y71::y72::y73::y74::y75::y76::y77::y78::y79::y80::y81::y82::y83::y84::y85::y86::y87::y88::y89::y90::y91::y92::y93::y94::y95::y96::y97::y98::y99::y100::y101::y102::y103::y104::y105::y106::y107::y108::y109::y110::y111::y112::y113::y114::y115::y116::y117::y118::y119::y120::y121::y122::y123::y124::y125::y126::y127::y128::y129::y130::x 131::x 132::x 133::x 134::x 135::x 136::x 137::x 138::x 139::x 140::x 141::x 142::x 143::x 144::x 145::x 146::x 147::x 148::x 149::x 150::x 151::x 152::x 153::x 154::x 155::x 156::x 157::x 158::x 159::x 160::x 161::x 162::x 163::x 164::x 165::x 166::x 167::x 168::x 169::x 170::x 171::x 172::x 173::x 174::[])):=by kernel_rfl
 rw [e,h0,e2]
end Go.Proofs.YtfkfnbehdcmgeaaGreatDoor
namespace Go.Proofs.YtfkfnbehdcmgeaaGreatDoor
open Go Go.RowKit
theorem LsP.ex {w:World} {P:Nat→Prop} {a:Option Addr} {n c:Nat} {b:Ex} (h:LsP w P (.slice a n c) b.l):IsEP w P (.agg #[.int .i64 b.op,.string b.name,.string b.num,.bool b.b,.slice a n c,.int .i64 0,.int .i64 b.at']) b:=by
 obtain ⟨op,nm,nu,bl,l,i⟩:=b
 obtain ⟨k,a',c',e,h2⟩:=h
 obtain ⟨rfl,rfl,rfl⟩:a=a'∧n=l.length∧c=c':=by simpa using e
 exact ⟨k,a,c,rfl,h2⟩
theorem fc22 {W:World} {q:Nat} {t:De} {x:DeV} (h:W.heap[q]?=some (.cells (deCells t x).toArray 56)):W.cell? ⟨q,0,none⟩=some (.bool t.cell)∧W.cell? ⟨q,1,none⟩=some (.string t.name)∧W.cell? ⟨q,2,none⟩=some (.string t.num)∧W.cell? ⟨q,3,none⟩=some (.bool t.again)∧W.cell? ⟨q,4,none⟩=some (.slice x.pa x.pn x.pc)∧W.cell? ⟨q,5,none⟩=some (.int .i64 t.eff)∧W.cell? ⟨q,6,none⟩=some (.int .i64 t.t.kind)∧W.cell? ⟨q,7,none⟩=some (.string t.t.name)∧W.cell? ⟨q,8,none⟩=some (.slice x.ta x.tn x.tc)∧W.cell? ⟨q,9,none⟩=some (.int .i64 t.t.at')∧W.cell? ⟨q,10,none⟩=some (.slice x.ra x.rn x.rc)∧W.cell? ⟨q,11,none⟩=some (.string t.res)∧W.cell? ⟨q,12,none⟩=some (.slice x.ea x.en x.ec)∧W.cell? ⟨q,13,none⟩=some (.slice x.ma x.mn x.mc)∧W.cell? ⟨q,14,none⟩=some (.int .i64 t.body.op)∧W.cell? ⟨q,15,none⟩=some (.string t.body.name)∧W.cell? ⟨q,16,none⟩=some (.string t.body.num)∧W.cell? ⟨q,17,none⟩=some (.bool t.body.b)∧W.cell? ⟨q,18,none⟩=some (.slice x.ba x.bn x.bc)∧W.cell? ⟨q,19,none⟩=some (.int .i64 0)∧W.cell? ⟨q,20,none⟩=some (.int .i64 t.body.at')∧W.cell? ⟨q,21,none⟩=some (.int .i64 t.at'):=
 ⟨(blk h).2.1 0 _ rfl,(blk h).2.1 1 _ rfl,(blk h).2.1 2 _ rfl,(blk h).2.1 3 _ rfl,(blk h).2.1 4 _ rfl,(blk h).2.1 5 _ rfl,(blk h).2.1 6 _ rfl,(blk h).2.1 7 _ rfl,(blk h).2.1 8 _ rfl,(blk h).2.1 9 _ rfl,(blk h).2.1 10 _ rfl,(blk h).2.1 11 _ rfl,(blk h).2.1 12 _ rfl,(blk h).2.1 13 _ rfl,(blk h).2.1 14 _ rfl,(blk h).2.1 15 _ rfl,(blk h).2.1 16 _ rfl,(blk h).2.1 17 _ rfl,(blk h).2.1 18 _ rfl,(blk h).2.1 19 _ rfl,(blk h).2.1 20 _ rfl,(blk h).2.1 21 _ rfl⟩
def DsP (w:World) (P:Nat→Prop) (v:Value) (l:List De):Prop:=RowP w 22 P v l.length fun j cs=>∀ t,l[j]?=some t→DeP w P cs t
theorem IsDs.toP {w:World} {lo:Nat} {v:Value} {l:List De} (h:IsDs w lo v l):DsP w (fun b=>lo≤b) v l:=by
 obtain ⟨a,c,e,h1,h2,h3⟩:=h
 refine ⟨a,c,e,h1,h2,fun h0 => ?_⟩
 obtain ⟨b,off,e2,h4,h5,h6⟩:=h3 h0
 refine ⟨b,off,e2,h4,h5,fun j hj => ?_⟩
 obtain ⟨cs,h7,h8⟩:=h6 j hj
 refine ⟨cs,h7,fun t ht => ?_⟩
 obtain ⟨x,e3,h9⟩:=h8 t ht
 exact ⟨x,e3,h9.toP⟩
set_option maxRecDepth 100000 in
set_option maxHeartbeats 8000000 in
theorem decls_nil (w:World) (a1 a2:Option Addr) (c1 c2:Nat):Calls Tryz.prog 16 #[.slice a1 0 c1,.slice a2 0 c2] w (VP (.bool true) w):=by
 unfold VP
 go_enter Tryz.func16,Tryz.ntmps16
 go_wp2_with fail
 go_loopw [5] (fun iv wr=>iv = .int .i64 (0:Nat)∧Below w.heap.size w wr) (fun iv _=>0)
 case atStart=>exact ⟨rfl,Below.refl _ _⟩
 case round =>
  obtain ⟨rfl,hb⟩:=hrel
  have HB:=gh hb
  clear hb
  go_wp2
  go_ret
  exact ⟨rfl,gf HB⟩
set_option maxRecDepth 100000 in
set_option maxHeartbeats 32000000 in
theorem decls_same {w:World} {va vb:Value} {l:List De} {P P':Nat→Prop} (ha:DsP w P va l) (hb:DsP w P' vb l):Calls Tryz.prog 16 #[va,vb] w (VP (.bool true) w):=by
 obtain ⟨a1,c1,rfl,hc1,hn1,h1⟩:=ha
 obtain ⟨a2,c2,rfl,hc2,hn2,h2⟩:=hb
 obtain ⟨n,hn⟩:∃ n,l.length=n:=⟨_,rfl⟩
 rw [hn] at hc1 hn1 h1 hc2 hn2 h2 ⊢
 by_cases h0:n=0
 ·subst h0
  exact decls_nil w a1 a2 c1 c2
 obtain ⟨b1,o1,rfl,hP1,hb1,hr1⟩:=h1 h0
 obtain ⟨b2,o2,rfl,hP2,hb2,hr2⟩:=h2 h0
 have g4:(n:Int)≤1000000:=by omega
 have HL:=gh (And.intro hr1 (And.intro hr2 (And.intro hb1 (And.intro hb2 hn1))))
 have HN:=gh hn
 unfold VP
 clear hc1 hn1 h1 hc2 hn2 h2 h0 hP1 hP2 hr1 hr2 hb1 hb2 hn
 go_enter Tryz.func16,Tryz.ntmps16
 generalize hQQ:bodyPost Tryz.prog Tryz.f16 (fun e w'=>e = .returned (.bool true)∧Below w.heap.size w w')=QQ
 have HQQ:=gh hQQ
 clear hQQ
 go_wp2_with fail
 go_loopw [5] (fun iv wr=>∃ j:Nat,j≤n∧iv = .int .i64 j∧Hid (Below w.heap.size w wr)) (fun iv _=>n - (intOf iv).toNat)
 case atStart=>exact ⟨0,Nat.zero_le _,rfl,Below.refl _ _⟩
 case round =>
  obtain ⟨j,hj,rfl,HB⟩:=hrel
  have g3:(0:Int)≤(j:Int):=by omega
  by_cases hjn:j<n
  rotate_left
  ·have g1:¬ ((j:Int)<(n:Int)):=by omega
   have g2:decide ((j:Int)<(n:Int))=false:=by simp;omega
   obtain rfl:j=n:=by omega
   clear hj hjn
   go_wp2
   rw [←gf HQQ]
   exact bodyPost_ret (res_t rfl rfl) rfl ⟨rfl,gf HB⟩
  ·obtain ⟨t,ht⟩:∃ t,l[j]?=some t:=⟨_,List.getElem?_eq_getElem (by rw [gf HN];exact hjn)⟩
   obtain ⟨hr1,hr2,hb1,hb2,hn1⟩:=gf HL
   obtain ⟨cs1,hg1,hd1⟩:=hr1 j hjn
   obtain ⟨cs2,hg2,hd2⟩:=hr2 j hjn
   obtain ⟨x1,rfl,hi1⟩:=hd1 t ht
   obtain ⟨x2,rfl,hi2⟩:=hd2 t ht
   have hbw:=gf HB
   have hw1:b1<wr.heap.size:=Nat.lt_of_lt_of_le hb1 hbw.size
   have hw2:b2<wr.heap.size:=Nat.lt_of_lt_of_le hb2 hbw.size
   have hq1:=range_same hg1 (hbw.block _ hb1)
   have hq2:=range_same hg2 (hbw.block _ hb2)
   have stA:∀ (R:Nat→Prop) (V:World),Below w.heap.size w V→StaysP (fun b=>R b∧b<w.heap.size) w V:=fun R V h=>⟨h.size,fun k hk _=>h.block k hk.2⟩
   have HIN:=gh (And.intro hi1 hi2)
   have HST:=gh stA
   have g1:(j:Int)<(n:Int):=by omega
   have HR:=gh (And.intro hq1 (And.intro hq2 (And.intro hw1 (And.intro hw2 hn1))))
   have HJ:=gh hjn
   clear hr1 hr2 hb1 hb2 hn1 hg1 hd1 hg2 hd2 hi1 hi2 hbw hw1 hw2 hq1 hq2 stA ht
   go_wp2_with fail
   refine decls_r6 (ix:=j) (t:=t) (x1:=x1) (x2:=x2) rfl rfl rfl rfl (gf HJ) (gf HR).2.2.2.2 (gf HR).1 (gf HR).2.1 (gf HR).2.2.1 (gf HR).2.2.2.1 ?_
   intro a6 w6 qx qy hd hk hsz h6 h7 hne hqx hqy hb6 hX hY
   obtain ⟨x,hae,hxx⟩:=act_set (N:=175) (kept:=((List.range 175).filter fun i => !([6,7,20,21,22,23,24,25,26,27].contains i))) [6,7,20,21,22,23,24,25,26,27] (by decide) hd hsz rfl hk
   have hx6:x 6 = .pointer (some ⟨qx,0,none⟩):=by rw [hxx,Array.getD_eq_getD_getElem?,h6];rfl
   have hx7:x 7 = .pointer (some ⟨qy,0,none⟩):=by rw [hxx,Array.getD_eq_getD_getElem?,h7];rfl
   subst hae
   have HB6:=gh ((gf HB).trans (hb6.mono (gf HB).size))
   have HX:=gh hX
   have HY:=gh hY
   clear hd hk hsz h6 h7 hne hqx hqy hb6 hX hY hxx HR
   simp only [setAll]
   rw [hx6,hx7]
   clear hx6 hx7
   have hin1:=(gf HIN).1.bnd
   have hin2:=(gf HIN).2.bnd
   have HCT:Hid (∀ V,Below w6.heap.size w6 V→Calls Tryz.prog 33 #[.agg #[.int .i64 t.t.kind,.string t.t.name,.slice x1.ta x1.tn x1.tc,.int .i64 t.t.at'],.agg #[.int .i64 t.t.kind,.string t.t.name,.slice x2.ta x2.tn x2.tc,.int .i64 t.t.at']] V (VP (.bool true) V)):=fun V hV=>by
    have hwV:=(gf HB6).trans (hV.mono (gf HB6).size)
    exact type_same (t:=t.t) ⟨_,_,_,rfl,hin1.ty.keep (gf HST _ V hwV) fun _ h=>h⟩ ⟨_,_,_,rfl,hin2.ty.keep (gf HST _ V hwV) fun _ h=>h⟩
   have HCB:Hid (∀ V,Below w6.heap.size w6 V→Calls Tryz.prog 19 #[.agg #[.int .i64 t.body.op,.string t.body.name,.string t.body.num,.bool t.body.b,.slice x1.ba x1.bn x1.bc,.int .i64 0,.int .i64 t.body.at'],.agg #[.int .i64 t.body.op,.string t.body.name,.string t.body.num,.bool t.body.b,.slice x2.ba x2.bn x2.bc,.int .i64 0,.int .i64 t.body.at']] V (VP (.bool true) V)):=fun V hV=>by
    have hwV:=(gf HB6).trans (hV.mono (gf HB6).size)
    exact help_same (LsP.ex (hin1.body.keep (gf HST _ V hwV) fun _ h=>h)) (LsP.ex (hin2.body.keep (gf HST _ V hwV) fun _ h=>h))
   have HCR:Hid (∀ V,Below w6.heap.size w6 V→Calls Tryz.prog 34 #[.slice x1.ra x1.rn x1.rc,.slice x2.ra x2.rn x2.rc] V (VP (.bool true) V)):=fun V hV=>by
    have hwV:=(gf HB6).trans (hV.mono (gf HB6).size)
    exact ls_same (l:=t.req) (hin1.req.keep (gf HST _ V hwV) fun _ h=>h) (hin2.req.keep (gf HST _ V hwV) fun _ h=>h)
   have HCE:Hid (∀ V,Below w6.heap.size w6 V→Calls Tryz.prog 34 #[.slice x1.ea x1.en x1.ec,.slice x2.ea x2.en x2.ec] V (VP (.bool true) V)):=fun V hV=>by
    have hwV:=(gf HB6).trans (hV.mono (gf HB6).size)
    exact ls_same (l:=t.ens) (hin1.ens.keep (gf HST _ V hwV) fun _ h=>h) (hin2.ens.keep (gf HST _ V hwV) fun _ h=>h)
   have HCM:Hid (∀ V,Below w6.heap.size w6 V→Calls Tryz.prog 34 #[.slice x1.ma x1.mn x1.mc,.slice x2.ma x2.mn x2.mc] V (VP (.bool true) V)):=fun V hV=>by
    have hwV:=(gf HB6).trans (hV.mono (gf HB6).size)
    exact ls_same (l:=t.mea) (hin1.mea.keep (gf HST _ V hwV) fun _ h=>h) (hin2.mea.keep (gf HST _ V hwV) fun _ h=>h)
   obtain ⟨pa1,pc1,ep1,kp1,kq1,hps1⟩:=hin1.ps
   obtain ⟨pa2,pc2,ep2,kp2,kq2,hps2⟩:=hin2.ps
   obtain ⟨epa1,epn1,epc1⟩:x1.pa=pa1∧x1.pn=t.ps.length∧x1.pc=pc1:=by simpa using ep1
   obtain ⟨epa2,epn2,epc2⟩:x2.pa=pa2∧x2.pn=t.ps.length∧x2.pc=pc2:=by simpa using ep2
   obtain ⟨np,hnp⟩:∃ np,t.ps.length=np:=⟨_,rfl⟩
   rw [hnp] at epn1 epn2 hps1 hps2 kq1
   have HPS:=gh (And.intro hps1 (And.intro hps2 (And.intro epa1 (And.intro epa2 (And.intro kq1 hnp)))))
   unfold VP at HCT HCB HCR HCE HCM
   clear hin1 hin2 ep1 ep2 kp1 kq1 kp2 kq2 hps1 hps2 epa1 epa2 epc1 epc2 hnp HIN
   obtain ⟨p0,p1,p2,p3,p4,p5,p6,p7,p8,p9,p10,p11,p12,p13,p14,p15,p16,p17,p18,p19,p20,p21⟩:=fc22 (gf HX)
   obtain ⟨q0,q1,q2,q3,q4,q5,q6,q7,q8,q9,q10,q11,q12,q13,q14,q15,q16,q17,q18,q19,q20,q21⟩:=fc22 (gf HY)
   rw [epn1] at p4
   rw [epn2] at q4
   have HB7:Hid (Below w6.heap.size w6 w6):=Below.refl _ _
   go_wp2_with fail
   refine (gf HCT _ (gf HB7)).mono ?_
   rintro e w71 ⟨rfl,hb⟩
   replace HB7:=gh ((gf HB7).trans (hb.mono (gf HB7).size))
   replace HX:=gh ((hb.block _ (blk (gf HX)).1).trans (gf HX))
   replace HY:=gh ((hb.block _ (blk (gf HY)).1).trans (gf HY))
   clear hb
   clear p0 p1 p2 p3 p4 p5 p6 p7 p8 p9 p10 p11 p12 p13 p14 p15 p16 p17 p18 p19 p20 p21 q0 q1 q2 q3 q4 q5 q6 q7 q8 q9 q10 q11 q12 q13 q14 q15 q16 q17 q18 q19 q20 q21
   obtain ⟨p0,p1,p2,p3,p4,p5,p6,p7,p8,p9,p10,p11,p12,p13,p14,p15,p16,p17,p18,p19,p20,p21⟩:=fc22 (gf HX)
   obtain ⟨q0,q1,q2,q3,q4,q5,q6,q7,q8,q9,q10,q11,q12,q13,q14,q15,q16,q17,q18,q19,q20,q21⟩:=fc22 (gf HY)
   rw [epn1] at p4
   rw [epn2] at q4
   go_wp2_with fail
   refine (gf HCR _ (gf HB7)).mono ?_
   rintro e w72 ⟨rfl,hb⟩
   replace HB7:=gh ((gf HB7).trans (hb.mono (gf HB7).size))
   replace HX:=gh ((hb.block _ (blk (gf HX)).1).trans (gf HX))
   replace HY:=gh ((hb.block _ (blk (gf HY)).1).trans (gf HY))
   clear hb HCR
   clear p0 p1 p2 p3 p4 p5 p6 p7 p8 p9 p10 p11 p12 p13 p14 p15 p16 p17 p18 p19 p20 p21 q0 q1 q2 q3 q4 q5 q6 q7 q8 q9 q10 q11 q12 q13 q14 q15 q16 q17 q18 q19 q20 q21
   obtain ⟨p0,p1,p2,p3,p4,p5,p6,p7,p8,p9,p10,p11,p12,p13,p14,p15,p16,p17,p18,p19,p20,p21⟩:=fc22 (gf HX)
   obtain ⟨q0,q1,q2,q3,q4,q5,q6,q7,q8,q9,q10,q11,q12,q13,q14,q15,q16,q17,q18,q19,q20,q21⟩:=fc22 (gf HY)
   rw [epn1] at p4
   rw [epn2] at q4
   go_wp2_with fail
   refine (gf HCE _ (gf HB7)).mono ?_
   rintro e w73 ⟨rfl,hb⟩
   replace HB7:=gh ((gf HB7).trans (hb.mono (gf HB7).size))
   replace HX:=gh ((hb.block _ (blk (gf HX)).1).trans (gf HX))
   replace HY:=gh ((hb.block _ (blk (gf HY)).1).trans (gf HY))
   clear hb HCE
   clear p0 p1 p2 p3 p4 p5 p6 p7 p8 p9 p10 p11 p12 p13 p14 p15 p16 p17 p18 p19 p20 p21 q0 q1 q2 q3 q4 q5 q6 q7 q8 q9 q10 q11 q12 q13 q14 q15 q16 q17 q18 q19 q20 q21
   obtain ⟨p0,p1,p2,p3,p4,p5,p6,p7,p8,p9,p10,p11,p12,p13,p14,p15,p16,p17,p18,p19,p20,p21⟩:=fc22 (gf HX)
   obtain ⟨q0,q1,q2,q3,q4,q5,q6,q7,q8,q9,q10,q11,q12,q13,q14,q15,q16,q17,q18,q19,q20,q21⟩:=fc22 (gf HY)
   rw [epn1] at p4
   rw [epn2] at q4
   go_wp2_with fail
   refine (gf HCM _ (gf HB7)).mono ?_
   rintro e w74 ⟨rfl,hb⟩
   replace HB7:=gh ((gf HB7).trans (hb.mono (gf HB7).size))
   replace HX:=gh ((hb.block _ (blk (gf HX)).1).trans (gf HX))
   replace HY:=gh ((hb.block _ (blk (gf HY)).1).trans (gf HY))
   clear hb HCM
   clear p0 p1 p2 p3 p4 p5 p6 p7 p8 p9 p10 p11 p12 p13 p14 p15 p16 p17 p18 p19 p20 p21 q0 q1 q2 q3 q4 q5 q6 q7 q8 q9 q10 q11 q12 q13 q14 q15 q16 q17 q18 q19 q20 q21
   obtain ⟨p0,p1,p2,p3,p4,p5,p6,p7,p8,p9,p10,p11,p12,p13,p14,p15,p16,p17,p18,p19,p20,p21⟩:=fc22 (gf HX)
   obtain ⟨q0,q1,q2,q3,q4,q5,q6,q7,q8,q9,q10,q11,q12,q13,q14,q15,q16,q17,q18,q19,q20,q21⟩:=fc22 (gf HY)
   rw [epn1] at p4
   rw [epn2] at q4
   go_wp2_with fail
   refine (gf HCB _ (gf HB7)).mono ?_
   rintro e w75 ⟨rfl,hb⟩
   replace HB7:=gh ((gf HB7).trans (hb.mono (gf HB7).size))
   replace HX:=gh ((hb.block _ (blk (gf HX)).1).trans (gf HX))
   replace HY:=gh ((hb.block _ (blk (gf HY)).1).trans (gf HY))
   clear hb HCB
   clear p0 p1 p2 p3 p4 p5 p6 p7 p8 p9 p10 p11 p12 p13 p14 p15 p16 p17 p18 p19 p20 p21 q0 q1 q2 q3 q4 q5 q6 q7 q8 q9 q10 q11 q12 q13 q14 q15 q16 q17 q18 q19 q20 q21
   obtain ⟨p0,p1,p2,p3,p4,p5,p6,p7,p8,p9,p10,p11,p12,p13,p14,p15,p16,p17,p18,p19,p20,p21⟩:=fc22 (gf HX)
   obtain ⟨q0,q1,q2,q3,q4,q5,q6,q7,q8,q9,q10,q11,q12,q13,q14,q15,q16,q17,q18,q19,q20,q21⟩:=fc22 (gf HY)
   rw [epn1] at p4
   rw [epn2] at q4
   have HBW:=gh ((gf HB6).trans ((gf HB7).mono (gf HB6).size))
   go_wp2_with fail
   go_loopw [8] (fun kv wr2=>∃ k:Nat,k≤np∧kv = .int .i64 k∧Hid (Below w75.heap.size w75 wr2)) (fun kv _=>np - (intOf kv).toNat)
   case atStart=>exact ⟨0,Nat.zero_le _,rfl,Below.refl _ _⟩
   case round =>
    obtain ⟨k,hk,rfl,HBK⟩:=hrel
    have g5:(0:Int)≤(k:Int):=by omega
    have hXk:=((gf HBK).block _ (blk (gf HX)).1).trans (gf HX)
    have hYk:=((gf HBK).block _ (blk (gf HY)).1).trans (gf HY)
    have HXK:=gh hXk
    have HYK:=gh hYk
    have m4:wr.cell? ⟨qx,4,none⟩=some (.slice x1.pa np x1.pc):=by rw [←epn1];exact (blk hXk).2.1 4 _ rfl
    have m5:wr.cell? ⟨qy,4,none⟩=some (.slice x2.pa np x2.pc):=by rw [←epn2];exact (blk hYk).2.1 4 _ rfl
    clear hXk hYk
    have gnp:(np:Int)≤1000000:=by have:=(gf HPS).2.2.2.2.1;omega
    by_cases hkn:k<np
    rotate_left
    ·have g6:¬ ((k:Int)<(np:Int)):=by omega
     have g7:decide ((k:Int)<(np:Int))=false:=by simp;omega
     have HFK:=gh ((gf HBW).trans ((gf HBK).mono (gf HBW).size))
     have hjn:=gf HJ
     clear hk hkn
     go_wp2
     exact ⟨⟨j+1,by omega,by simp,HFK⟩,by simp [intOf];omega⟩
    ·have g6:(k:Int)<(np:Int):=by omega
     obtain ⟨hps1,hps2,epa1,epa2,hnp6,hnp⟩:=gf HPS
     obtain ⟨pb1,po1,rfl,-,hpb1,hpr1⟩:=hps1 (by omega)
     obtain ⟨pb2,po2,rfl,-,hpb2,hpr2⟩:=hps2 (by omega)
     obtain ⟨ds1,hds1,hdm1⟩:=hpr1 k hkn
     obtain ⟨ds2,hds2,hdm2⟩:=hpr2 k hkn
     obtain ⟨y,hy⟩:∃ y,t.ps[k]?=some y:=⟨_,List.getElem?_eq_getElem (by rw [hnp];exact hkn)⟩
     obtain ⟨ta1,tn1,tc1,rfl,hls1⟩:=hdm1 y hy
     obtain ⟨ta2,tn2,tc2,rfl,hls2⟩:=hdm2 y hy
     have hBk:=(gf HBW).trans ((gf HBK).mono (gf HBW).size)
     have st:∀ (R:Nat→Prop) (V:World),Below wr.heap.size wr V→StaysP (fun b=>(R b∧b<w.heap.size)) w V:=fun R V h=>gf HST R V (hBk.trans (h.mono hBk.size))
     rw [epa1] at m4
     rw [epa2] at m5
     have HXk:=gh (And.intro m4 m5)
     have HRK:=gh (And.intro hBk (And.intro hpb1 (And.intro hpb2 (And.intro hds1 hds2))))
     have HTY:Hid (∀ V,Below wr.heap.size wr V→Calls Tryz.prog 33 #[.agg #[.int .i64 y.t.kind,.string y.t.name,.slice ta1 tn1 tc1,.int .i64 y.t.at'],.agg #[.int .i64 y.t.kind,.string y.t.name,.slice ta2 tn2 tc2,.int .i64 y.t.at']] V (VP (.bool true) V)):=fun V hV=>type_same (t:=y.t) ⟨_,_,_,rfl,hls1.keep (st _ V hV) fun _ h=>h⟩ ⟨_,_,_,rfl,hls2.keep (st _ V hV) fun _ h=>h⟩
     have HKN:=gh (And.intro hkn hnp6)
     clear hps1 hps2 epa1 epa2 hnp6 hnp hpb1 hpr1 hpb2 hpr2 hds1 hdm1 hds2 hdm2 hy hls1 hls2 hBk st hk hkn
     go_wp2_with fail
     refine decls_r12 (qx:=qx) (qy:=qy) (k:=k) (np:=np) rfl rfl rfl rfl (gf HKN).1 (gf HKN).2 (fun V hV=>(hV.cell (p:=⟨qx,4,none⟩) (blk (gf HXK)).1).trans (gf HXk).1) (fun V hV=>(hV.cell (p:=⟨qy,4,none⟩) (blk (gf HYK)).1).trans (gf HXk).2) (fun V hV=>range_same (gf HRK).2.2.2.1 (((gf HRK).1.trans (hV.mono (gf HRK).1.size)).block _ (gf HRK).2.1)) (fun V hV=>range_same (gf HRK).2.2.2.2 (((gf HRK).1.trans (hV.mono (gf HRK).1.size)).block _ (gf HRK).2.2.1)) (gf HTY) ?_
     intro a8 w8 hd hk2 hsz h174 hb8
     obtain ⟨z,hae,hzz⟩:=act175 rfl hd hsz hk2
     have hz174:z 174 = .bool false:=by rw [hzz,Array.getD_eq_getD_getElem?,h174];rfl
     subst hae
     have HFK:=gh ((gf HBK).trans (hb8.mono (gf HBK).size))
     have hkn:=(gf HKN).1
     clear hd hk2 hsz h174 hb8 hzz HTY HRK HXk m4 m5
     rw [hz174]
     clear hz174
     go_wp2
     exact ⟨⟨k+1,by omega,by simp,HFK⟩,by simp [intOf];omega⟩
end Go.Proofs.YtfkfnbehdcmgeaaGreatDoor
