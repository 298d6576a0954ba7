/- Package parse: small functions that make or ask. -/
import Derived.Test.YtfkfnbehdcmgeaaGreatDoorZAB
import Derived.WalkKit
import Derived.ProofKit
import Derived.Handy
import Derived.MapKept
import Derived.Deep.MidRow
import Derived.Deep.QuietTactic
import Derived.BigQuiet
import Derived.BigRegion
import Derived.WalkSmall
set_option linter.unusedVariables false
set_option linter.unusedSimpArgs false
namespace Go.Proofs.YtfkfnbehdcmgeaaGreatDoor
open Go Go.RowKit
def RdT (w:World) (v:Value) (l:List (Int×ByteArray×Int)):Prop:=
 ∃ a c,v = .slice a l.length c∧(l≠[]→∃ g,a=some ⟨g,0,none⟩∧g<w.heap.size∧∀ j x,l[j]?=some x→w.cell? ⟨g,j * 3,none⟩=some (.int .i64 x.1)∧w.cell? ⟨g,j * 3+1,none⟩=some (.string x.2.1)∧w.cell? ⟨g,j * 3+2,none⟩=some (.int .i64 x.2.2))
theorem RdT.below {w w':World} {v:Value} {l:List (Int×ByteArray×Int)} (h:RdT w v l) (hb:Below w.heap.size w w'):RdT w' v l:=by
 obtain ⟨a,c,rfl,h⟩:=h
 refine ⟨a,c,rfl,fun hl => ?_⟩
 obtain ⟨g,e,hg,hc⟩:=h hl
 refine ⟨g,e,Nat.lt_of_lt_of_le hg hb.size,fun j x hx => ?_⟩
 rw [hb.cell (p:=⟨g,j * 3,none⟩) hg,hb.cell (p:=⟨g,j * 3+1,none⟩) hg,hb.cell (p:=⟨g,j * 3+2,none⟩) hg]
 exact hc j x hx
def tcells (l:List (Int×ByteArray×Int)):List Value:=l.flatMap fun x=>[.int .i64 x.1,.string x.2.1,.int .i64 x.2.2]
theorem tcells_get:∀ (l:List (Int×ByteArray×Int)) (j:Nat) x,l[j]?=some x→(tcells l)[j * 3]?=some (.int .i64 x.1)∧(tcells l)[j * 3+1]?=some (.string x.2.1)∧(tcells l)[j * 3+2]?=some (.int .i64 x.2.2):=by
 intro l
 induction l with
 |nil=>intro j x h;cases h
 |cons y l ih =>
  intro j x h
  have e:tcells (y::l)=[.int .i64 y.1,.string y.2.1,.int .i64 y.2.2]++tcells l:=rfl
  cases j with
  |zero =>
   obtain rfl:y=x:=by simpa using h
   exact ⟨rfl,rfl,rfl⟩
  |succ j =>
   have:=ih j x (by simpa using h)
   rw [e,show (j+1) * 3=j * 3+3 by omega]
   exact this
theorem own_rdT {w:World} {B n:Nat} {v:Value} {l:List (Int×ByteArray×Int)} (h:w.ownsRow B 74 3 v n (tcells l)) (hn:n=l.length):RdT w v l:=by
 obtain ⟨h1,⟨rfl,h0⟩ | ⟨g,cap,cur,rfl,hB,hc,hle,hm,hsz,htk⟩⟩:=h
 ·subst hn
  have:l=[]:=List.length_eq_zero_iff.1 h0
  subst this
  exact ⟨none,0,rfl,fun h=>absurd rfl h⟩
 ·subst hn
  refine ⟨_,cap,rfl,fun _=>⟨g,rfl,(Array.getElem?_eq_some_iff.1 hc).1,fun j x hx => ?_⟩⟩
  have hk:∀ (i:Nat) u,(tcells l)[i]?=some u→w.cell? ⟨g,i,none⟩=some u:=fun i u hu=>by
   rw [←htk,List.getElem?_take] at hu
   split at hu
   ·exact (blk hc).2.1 i u (by rw [←Array.getElem?_toList];exact hu)
   ·cases hu
  have:=tcells_get l j x hx
  exact ⟨hk _ _ this.1,hk _ _ this.2.1,hk _ _ this.2.2⟩
def tkL (s:ByteArray):List (Int×ByteArray×Int):=(tk s).1.map (fun x=>(x.1,s.extract x.2.1 x.2.2,(x.2.1:Int)))++[(0,⟨#[]⟩,(s.size:Int))]
theorem toks_eq (s:ByteArray):∀ l:List (Int×Nat×Nat),toks s l=tcells (l.map (fun x=>(x.1,s.extract x.2.1 x.2.2,(x.2.1:Int)))):=by
 intro l
 induction l with
 |nil=>rfl
 |cons x l ih =>
  have e1:toks s (x::l)=tokC s x++toks s l:=rfl
  rw [e1,ih]
  rfl
theorem tcells_app (a b:List (Int×ByteArray×Int)):tcells (a++b)=tcells a++tcells b:=List.flatMap_append
theorem tkL_len (s:ByteArray):(tkL s).length=(tk s).1.length+1:=by simp [tkL]
theorem tkp_ok {s:ByteArray} {w w':World} {e:Ending} (h:TkP s (tk s) w e w') (hn:(tk s).2=none):Below w.heap.size w w'∧∃ v,e = .returned (.tuple #[v,.nilIface])∧RdT w' v (tkL s):=by
 obtain ⟨hb,⟨_,v,he,ho⟩ | ⟨a,n,b,hx,_⟩⟩:=h
 ·refine ⟨hb,v,he,own_rdT (B:=w.heap.size) (n:=(tk s).1.length+1) ?_ (tkL_len s).symm⟩
  unfold tkL
  rw [tcells_app,←toks_eq]
  exact ho
 ·rw [hn] at hx;cases hx
theorem tkp_err {s:ByteArray} {w w':World} {e:Ending} {a n:Nat} (h:TkP s (tk s) w e w') (hn:(tk s).2=some (a,n)):Below w.heap.size w w'∧∃ b,e = .returned (.tuple #[.slice none 0 0,.iface 61 (.pointer (some ⟨b,0,none⟩))])∧w'.heap[b]?=some (.cells #[.int .i64 a,.int .i64 n] 66):=by
 obtain ⟨hb,⟨hx,_⟩ | ⟨a2,n2,b,hx,h1,h2,h3⟩⟩:=h
 ·rw [hn] at hx;cases hx
 ·rw [hn] at hx
  obtain ⟨rfl,rfl⟩:a=a2∧n=n2:=by simpa using hx
  exact ⟨hb,b,h2,h3⟩
end Go.Proofs.YtfkfnbehdcmgeaaGreatDoor
namespace Go.Proofs.YtfkfnbehdcmgeaaGreatDoor
-- A token: its kind,its text,its place: (Int×ByteArray×Int) stands for it (gen.py writes it out)
structure Ex where
 op:Int
 name:ByteArray
 num:ByteArray
 b:Bool
 l:List Ex
 at':Int
-- (Except (Int×Int) (α×Nat)): what was read and the place behind it,or an error and its place (gen.py writes it out).
def thenR {α β:Type} (x:(Except (Int×Int) (α×Nat))) (f:α→Nat→(Except (Int×Int) (β×Nat))):(Except (Int×Int) (β×Nat)):=
 match x with
 |.error e => .error e
 |.ok (a,p)=>f a p
def Ru:Type:=Nat
def Ru.rE:Ru:=(0:Nat)
def Ru.rI:Ru:=(1:Nat)
def Ru.rU:Ru:=(2:Nat)
section
variable (ts:List (Int×ByteArray×Int))
def nx (p:Nat):(Int×ByteArray×Int):=ts.getD p (0,⟨#[]⟩,0)
def txt (p:Nat):ByteArray:=(nx ts p).2.1
def sees (p:Nat) (s:ByteArray):Bool:=decide (txt ts p=s)
def bad {α:Type} (p:Nat) (n:Int):(Except (Int×Int) (α×Nat)):=.error ((nx ts p).2.2,n)
def mustR (s:ByteArray) (p:Nat):(Except (Int×Int) (Unit×Nat)):=if sees ts p s then .ok ((),p+1) else bad ts p 150
def mustBeR (k:Int) (p:Nat):(Except (Int×Int) ((Int×ByteArray×Int)×Nat)):=if (nx ts p).1=k then .ok (nx ts p,p+1) else bad ts p 150
def begU (p:Nat):Bool:=decide ((nx ts p).1=1) || decide ((nx ts p).1=3) || ([⟨#[45]⟩,⟨#[110,111,116]⟩,⟨#[33]⟩,⟨#[111,108,100]⟩,⟨#[116,114,117,101]⟩,⟨#[102,97,108,115,101]⟩,⟨#[40]⟩]:List ByteArray).any (sees ts p)
def begE (p:Nat):Bool:=begU ts p || ([⟨#[105,102]⟩,⟨#[108,101,116]⟩,⟨#[116,114,121]⟩,⟨#[114,97,105,115,101]⟩,⟨#[97,115,115,101,114,116]⟩]:List ByteArray).any (sees ts p)
def madeR (op:Int) (l:List Ex) (i:Int):Ex:=.mk op ⟨#[]⟩ ⟨#[]⟩ false l i
def namedR (op:Int) (s:ByteArray) (l:List Ex) (i:Int):Ex:=.mk op s ⟨#[]⟩ false l i
def opOf (s:ByteArray):Int:=
 if s=⟨#[42]⟩ then 9 else if s=⟨#[43]⟩ then 10 else if s=⟨#[45]⟩ then 11 else if s=⟨#[61]⟩ then 12 else if s=⟨#[60,62]⟩ then 13 else if s=⟨#[60]⟩ then 14 else if s=⟨#[60,61]⟩ then 15 else if s=⟨#[62]⟩ then 16 else if s=⟨#[62,61]⟩ then 17 else if s=⟨#[38,38]⟩ then 18 else 19
def exprsL (E:Nat→(Except (Int×Int) (Ex×Nat))) (most:Nat):Nat→List Ex→Nat→(Except (Int×Int) ((List Ex)×Nat))
 |0,out,p => .ok (out,p)
 |n+1,out,p=>if sees ts p ⟨#[44]⟩ then (if out.length=most then bad ts p 152 else thenR (E (p+1)) fun x q=>exprsL E most n (out++[x]) q) else .ok (out,p)
def exprsR (E:Nat→(Except (Int×Int) (Ex×Nat))) (most:Nat) (p:Nat):(Except (Int×Int) ((List Ex)×Nat)):=thenR (E p) fun x q=>exprsL ts E most ts.length [x] q
def joinR (O:Nat→(Except (Int×Int) (Ex×Nat))) (out:Ex) (p:Nat):(Except (Int×Int) (Ex×Nat)):=thenR (O (p+1)) fun y q => .ok (madeR (opOf (txt ts p)) [out,y] (nx ts p).2.2,q)
def chainL (O:Nat→(Except (Int×Int) (Ex×Nat))) (signs:List ByteArray):Nat→Ex→Nat→(Except (Int×Int) (Ex×Nat))
 |0,out,p => .ok (out,p)
 |n+1,out,p=>if signs.any (sees ts p) then thenR (joinR ts O out p) fun y q=>chainL O signs n y q else .ok (out,p)
def chainR (O:Nat→(Except (Int×Int) (Ex×Nat))) (signs:List ByteArray) (p:Nat):(Except (Int×Int) (Ex×Nat)):=thenR (O p) fun x q=>chainL ts O signs ts.length x q
variable (g:Ru→Nat→Nat→(Except (Int×Int) (Ex×Nat))) (d:Nat)
def brackR (i:Int) (p:Nat):(Except (Int×Int) (Ex×Nat)):=if sees ts p ⟨#[41]⟩ then .ok (madeR 3 [] i,p+1) else thenR (g .rE d p) fun x q=>thenR (mustR ts ⟨#[41]⟩ q) fun _ r => .ok (x,r)
def callR (p:Nat):(Except (Int×Int) (Ex×Nat)):=thenR (mustR ts ⟨#[40]⟩ (p+1)) fun _ q=>if sees ts q ⟨#[41]⟩ then .ok (namedR 21 (txt ts p) [] (nx ts p).2.2,q+1) else thenR (exprsR ts (g .rE d) 8 q) fun l r=>thenR (mustR ts ⟨#[41]⟩ r) fun _ z => .ok (namedR 21 (txt ts p) l (nx ts p).2.2,z)
def primR (p:Nat):(Except (Int×Int) (Ex×Nat)):=
 if (nx ts p).1=3 then .ok (.mk 1 ⟨#[]⟩ (txt ts p) false [] (nx ts p).2.2,p+1)
 else if sees ts p ⟨#[116,114,117,101]⟩ then .ok (.mk 2 ⟨#[]⟩ ⟨#[]⟩ true [] (nx ts p).2.2,p+1)
 else if sees ts p ⟨#[102,97,108,115,101]⟩ then .ok (madeR 2 [] (nx ts p).2.2,p+1)
 else if sees ts p ⟨#[40]⟩ then brackR ts g d (nx ts p).2.2 (p+1)
 else if (nx ts p).1=1∧txt ts (p+1)=⟨#[40]⟩ then callR ts g d p
 else thenR (mustBeR ts 1 p) fun t q => .ok (namedR 4 t.2.1 [] (nx ts p).2.2,q)
def unaryR (p:Nat):(Except (Int×Int) (Ex×Nat)):=
 if sees ts p ⟨#[45]⟩ then thenR (g .rU d (p+1)) fun x q => .ok (madeR 7 [x] (nx ts p).2.2,q)
 else if sees ts p ⟨#[110,111,116]⟩ then thenR (g .rU d (p+1)) fun x q => .ok (madeR 8 [x] (nx ts p).2.2,q)
 else if sees ts p ⟨#[33]⟩ then thenR (mustBeR ts 1 (p+1)) fun t q => .ok (namedR 5 t.2.1 [] (nx ts p).2.2,q)
 else if sees ts p ⟨#[111,108,100]⟩ then thenR (mustBeR ts 1 (p+1)) fun t q => .ok (namedR 6 t.2.1 [] (nx ts p).2.2,q)
 else primR ts g d p
def termR (p:Nat):(Except (Int×Int) (Ex×Nat)):=chainR ts (unaryR ts g d) [⟨#[42]⟩] p
def sumR (p:Nat):(Except (Int×Int) (Ex×Nat)):=chainR ts (termR ts g d) [⟨#[43]⟩,⟨#[45]⟩] p
def cmpR (p:Nat):(Except (Int×Int) (Ex×Nat)):=thenR (sumR ts g d p) fun x q=>if ([⟨#[61]⟩,⟨#[60,62]⟩,⟨#[60]⟩,⟨#[60,61]⟩,⟨#[62]⟩,⟨#[62,61]⟩]:List ByteArray).any (sees ts q) then joinR ts (sumR ts g d) x q else .ok (x,q)
def andR (p:Nat):(Except (Int×Int) (Ex×Nat)):=chainR ts (cmpR ts g d) [⟨#[38,38]⟩] p
def orR (p:Nat):(Except (Int×Int) (Ex×Nat)):=chainR ts (andR ts g d) [⟨#[124,124]⟩] p
def impR (p:Nat):(Except (Int×Int) (Ex×Nat)):=thenR (orR ts g d p) fun x q=>if sees ts q ⟨#[61,61,62]⟩ then thenR (g .rI d (q+1)) fun y r => .ok (madeR 20 [x,y] (nx ts q).2.2,r) else .ok (x,q)
def partR (p:Nat):(Except (Int×Int) (Ex×Nat)):=
 if (nx ts p).1=1∧txt ts (p+1)=⟨#[58,61]⟩ then thenR (impR ts g d (p+2)) fun x q => .ok (namedR 25 (txt ts p) [x] (nx ts p).2.2,q)
 else if sees ts p ⟨#[114,97,105,115,101]⟩ then thenR (impR ts g d (p+1)) fun x q => .ok (madeR 26 [x] (nx ts p).2.2,q)
 else if sees ts p ⟨#[97,115,115,101,114,116]⟩ then thenR (impR ts g d (p+1)) fun x q => .ok (madeR 28 [x] (nx ts p).2.2,q)
 else impR ts g d p
def seqR (p:Nat):(Except (Int×Int) (Ex×Nat)):=thenR (partR ts g d p) fun x q=>if sees ts q ⟨#[59]⟩ then thenR (g .rE d (q+1)) fun y r => .ok (madeR 24 [x,y] (nx ts q).2.2,r) else .ok (x,q)
def branchR (p:Nat):(Except (Int×Int) (Ex×Nat)):=thenR (g .rE d (p+1)) fun a q=>thenR (mustR ts ⟨#[116,104,101,110]⟩ q) fun _ q=>thenR (g .rE d q) fun b q=>thenR (mustR ts ⟨#[101,108,115,101]⟩ q) fun _ q=>thenR (g .rE d q) fun c q => .ok (madeR 22 [a,b,c] (nx ts p).2.2,q)
def bindR (p:Nat):(Except (Int×Int) (Ex×Nat)):=thenR (mustBeR ts 1 (p+1)) fun n q=>thenR (mustR ts ⟨#[61]⟩ q) fun _ q=>thenR (g .rE d q) fun a q=>thenR (mustR ts ⟨#[105,110]⟩ q) fun _ q=>thenR (g .rE d q) fun b q => .ok (namedR 23 n.2.1 [a,b] (nx ts p).2.2,q)
def tryR (p:Nat):(Except (Int×Int) (Ex×Nat)):=thenR (g .rE d (p+1)) fun a q=>thenR (mustR ts ⟨#[119,105,116,104]⟩ q) fun _ q=>thenR (mustBeR ts 1 q) fun n q=>thenR (mustR ts ⟨#[45,62]⟩ q) fun _ q=>thenR (g .rE d q) fun b q => .ok (namedR 27 n.2.1 [a,b] (nx ts p).2.2,q)
def withinR (p:Nat):(Except (Int×Int) (Ex×Nat)):=
 if txt ts p=⟨#[105,102]⟩ then branchR ts g d p
 else if txt ts p=⟨#[108,101,116]⟩ then bindR ts g d p
 else if txt ts p=⟨#[116,114,121]⟩ then tryR ts g d p
 else seqR ts g d p
def begR (u:Nat) (p:Nat):Bool:=match u with
 |0=>begE ts p
 |_=>begU ts p
def ruleR (u:Nat) (p:Nat):(Except (Int×Int) (Ex×Nat)):=match u with
 |0=>withinR ts g d p
 |1=>impR ts g d p
 |_=>unaryR ts g d p
end
def gR (ts:List (Int×ByteArray×Int)):Nat→Ru→Nat→Nat→(Except (Int×Int) (Ex×Nat))
 |0,_,_,_ => .error (0,0)
 |f+1,u,d,p=>if begR ts u p∧d=200 then bad ts p 151 else ruleR ts (gR ts f) (d+1) u p
end Go.Proofs.YtfkfnbehdcmgeaaGreatDoor
namespace Go.Proofs.YtfkfnbehdcmgeaaGreatDoor
open Go Go.RowKit
theorem range_block {w:World} {q:Nat} {cs:List Value} {ty:TypeId} (h:w.heap[q]?=some (.cells cs.toArray ty)):w.rangeAt q 0 cs:=by
 intro j v hv
 have hv':cs.toArray[0+j]?=some v:=by simpa using hv
 simp only [World.cell?,h,hv']
 rfl
theorem res_row {P:Program} {W:World} {fn:Func} {tmps:Array Value} {t b o:Nat} {ty:TypeId} {cs:List Value} {d:TypeDesc} (hf:fn.results = #[.cell t ty]) (ht:tmps[t]?=some (.pointer (some ⟨b,o,none⟩))) (hr:W.rangeAt b o cs)
  (hu:P.underlying ty=some d) (hd:d.isRow=true) (hi:(P.info? ty).map (·.size)=some cs.length):(results fn tmps).run P W = .ok (.agg cs.toArray) W:=by
 have h:=run_loadVar_mid (P:=P) W b o ty cs d hr hu hd hi
 simp [results,hf,ht,asAddr,h]
theorem box_new (w:World) (cs:Array Value) (ty:TypeId):∃ w0,w.alloc (.cells cs ty)=w0∧Below w.heap.size w w0∧w0.heap.size=w.heap.size+1∧w0.heap[w.heap.size]?=some (.cells cs ty):=
 ⟨_,rfl,(Below.refl _ w).alloc (Nat.le_refl _) _,by simp,(MapKept.heap_alloc w (.cells cs ty)).1⟩
structure But (r:Nat) (w w':World):Prop where
 os:w'.os=w.os
 tape:w'.tape=w.tape
 output:w'.output=w.output
 size:w.heap.size≤w'.heap.size
 block:∀ k,k<w.heap.size→k≠r→w'.heap[k]?=w.heap[k]?
theorem But.refl (r:Nat) (w:World):But r w w:=⟨rfl,rfl,rfl,Nat.le_refl _,fun _ _ _=>rfl⟩
theorem But.trans {r:Nat} {a b c:World} (h:But r a b) (k:But r b c):But r a c:=
 ⟨k.os.trans h.os,k.tape.trans h.tape,k.output.trans h.output,Nat.le_trans h.size k.size,fun j hj hr=>(k.block j (Nat.lt_of_lt_of_le hj h.size) hr).trans (h.block j hj hr)⟩
theorem But.of {r:Nat} {w w':World} (h:Below w.heap.size w w'):But r w w':=⟨h.os,h.tape,h.output,h.size,fun k hk _=>h.block k hk⟩
theorem But.set {r:Nat} {w w':World} (h:But r w w') (o:Nat) (v:Value):But r w (w'.setCell ⟨r,o,none⟩ v):=
 ⟨h.os,h.tape,h.output,by simpa using h.size,fun k hk hr=>(Below.heap_setCell w' ⟨r,o,none⟩ v k hr).trans (h.block k hk hr)⟩
theorem range_same {w w':World} {b o:Nat} {cs:List Value} (h:w.rangeAt b o cs) (hb:w'.heap[b]?=w.heap[b]?):w'.rangeAt b o cs:=fun j v hv=>by
 rw [World.cell?_of_block (w:=w) (a:=⟨b,o+j,none⟩) hb]
 exact h j v hv
def RowX (w:World) (P:Nat→Prop) (a:Option Addr) (n c:Nat) (p:Nat→Nat→Nat→Prop):Prop:=n≤c∧n≤281474976710656∧(n≠0→∃ b off,a=some ⟨b,off,none⟩∧P b∧b<w.heap.size∧∀ j,j<n→p b (off+j * 7) j)
def ExAt (w:World) (P:Nat→Prop):Nat→Nat→Nat→Ex→Prop
 |0,_,_,_=>False
 |h+1,b,o,.mk op nm nu bl l i=>∃ a c,w.rangeAt b o [.int .i64 op,.string nm,.string nu,.bool bl,.slice a l.length c,.int .i64 0,.int .i64 i]∧RowX w P a l.length c fun b o j=>∀ t,l[j]?=some t→ExAt w P h b o t
def IsEP (w:World) (P:Nat→Prop) (v:Value):Ex→Prop
 |.mk op nm nu bl l i=>∃ h a c,v = .agg #[.int .i64 op,.string nm,.string nu,.bool bl,.slice a l.length c,.int .i64 0,.int .i64 i]∧RowX w P a l.length c fun b o j=>∀ t,l[j]?=some t→ExAt w P h b o t
def IsE (w:World) (lo:Nat) (v:Value) (t:Ex):Prop:=IsEP w (fun b=>lo≤b) v t
theorem RowX.mono {w w':World} {P P':Nat→Prop} {n c:Nat} {a:Option Addr} {p q:Nat→Nat→Nat→Prop} (h:RowX w P a n c p) (hs:w.heap.size≤w'.heap.size) (hl:∀ b,P b→P' b) (hp:∀ b o j,P b→b<w.heap.size→p b o j→q b o j):RowX w' P' a n c q:=
 ⟨h.1,h.2.1,fun h0=>by
  obtain ⟨b,off,e,hr,hb,hj⟩:=h.2.2 h0
  exact ⟨b,off,e,hl b hr,Nat.lt_of_lt_of_le hb hs,fun j hjn=>hp _ _ _ hr hb (hj j hjn)⟩⟩
def StaysP (P:Nat→Prop) (w w':World):Prop:=w.heap.size≤w'.heap.size∧∀ k,P k→k<w.heap.size→w'.heap[k]?=w.heap[k]?
def Stays (lo:Nat) (w w':World):Prop:=w.heap.size≤w'.heap.size∧∀ k,lo≤k→k<w.heap.size→w'.heap[k]?=w.heap[k]?
theorem Stays.trans {lo:Nat} {a b c:World} (h:Stays lo a b) (k:Stays lo b c):Stays lo a c:=⟨Nat.le_trans h.1 k.1,fun j hj hs=>(k.2 j hj (Nat.lt_of_lt_of_le hs h.1)).trans (h.2 j hj hs)⟩
theorem Stays.of {lo:Nat} {w w':World} (h:Below w.heap.size w w'):Stays lo w w':=⟨h.size,fun k _ hk=>h.block k hk⟩
theorem Stays.but {lo r:Nat} {w w':World} (h:But r w w') (hr:r<lo):Stays lo w w':=⟨h.size,fun k hl hk=>h.block k hk (by omega)⟩
theorem Stays.set {lo q:Nat} {w w':World} (h:Stays lo w w') (hq:q<lo) (o:Nat) (v:Value):Stays lo w (w'.setCell ⟨q,o,none⟩ v):=⟨by simpa using h.1,fun k hl hk=>(Below.heap_setCell w' ⟨q,o,none⟩ v k (by show k≠q;omega)).trans (h.2 k hl hk)⟩
theorem ExAt.keep {w w':World} {P P':Nat→Prop} (hb:StaysP P w w') (hl:∀ b,P b→P' b):∀ (h b o:Nat) (t:Ex),P b→b<w.heap.size→ExAt w P h b o t→ExAt w' P' h b o t
 |0,_,_,_,_,_,h=>h
 |h+1,b,o,.mk op nm nu bl l i,hr,hbl,hx=>by
  obtain ⟨a,c,h1,h2⟩:=hx
  exact ⟨a,c,range_same h1 (hb.2 b hr hbl),h2.mono hb.1 hl fun b o j hr hbl hj t ht=>ExAt.keep hb hl h b o t hr hbl (hj t ht)⟩
theorem ExAt.up {w:World} {P:Nat→Prop}:∀ (h k b o:Nat) (t:Ex),ExAt w P h b o t→h≤k→ExAt w P k b o t
 |0,_,_,_,_,h,_=>h.elim
 |h+1,0,_,_,_,_,hk=>absurd hk (by omega)
 |h+1,k+1,b,o,.mk op nm nu bl l i,hx,hk=>by
  obtain ⟨a,c,h1,h2⟩:=hx
  exact ⟨a,c,h1,h2.mono (Nat.le_refl _) (fun _ h=>h) fun b o j _ _ hj t ht=>ExAt.up h k b o t (hj t ht) (by omega)⟩
theorem IsEP.keep {w w':World} {P P':Nat→Prop} {v:Value} {t:Ex} (h:IsEP w P v t) (hb:StaysP P w w') (hl:∀ b,P b→P' b):IsEP w' P' v t:=by
 obtain ⟨op,nm,nu,bl,l,i⟩:=t
 obtain ⟨k,a,c,e,h2⟩:=h
 exact ⟨k,a,c,e,h2.mono hb.1 hl fun b o j hr hbl hj t ht=>ExAt.keep hb hl k b o t hr hbl (hj t ht)⟩
theorem IsE.keep {w w':World} {lo lo':Nat} {v:Value} {t:Ex} (h:IsE w lo v t) (hb:Stays lo w w') (hl:lo'≤lo):IsE w' lo' v t:=IsEP.keep h hb fun _ hb=>Nat.le_trans hl hb
structure TsOk (ts:List (Int×ByteArray×Int)):Prop where
 len:ts.length≤100000
 pos:0<ts.length
 txt:∀ (j:Nat) x,ts[j]?=some x→(x.2.1≠⟨#[]⟩∨x.1≠0)→j+1<ts.length
structure RD (w:World) (r:Nat) (ts:List (Int×ByteArray×Int)) (p d:Nat):Prop where
 cells:∃ g c,w.heap[r]?=some (.cells #[.slice (some ⟨g,0,none⟩) ts.length c,.int .i64 p,.int .i64 d] 91)∧g<r∧ts.length≤c∧∀ j x,ts[j]?=some x→w.rangeAt g (j * 3) [.int .i64 x.1,.string x.2.1,.int .i64 x.2.2]
 lt:p<ts.length
theorem RD.keep {w w':World} {r p d:Nat} {ts:List (Int×ByteArray×Int)} (h:RD w r ts p d) (hb:Below w.heap.size w w'):RD w' r ts p d:=by
 obtain ⟨⟨g,c,h1,h2,h3,h4⟩,h5⟩:=h
 have hr:=(Array.getElem?_eq_some_iff.1 h1).1
 exact ⟨⟨g,c,(hb.block r hr).trans h1,h2,h3,fun j x hx=>range_same (h4 j x hx) (hb.block g (by omega))⟩,h5⟩
theorem RD.set {w w':World} {r p d q e:Nat} {ts:List (Int×ByteArray×Int)} (h:RD w r ts p d) (hb:But r w w') (hq:q<ts.length) (hc:∀ g c,w.heap[r]?=some (.cells #[.slice (some ⟨g,0,none⟩) ts.length c,.int .i64 p,.int .i64 d] 91)→w'.heap[r]?=some (.cells #[.slice (some ⟨g,0,none⟩) ts.length c,.int .i64 q,.int .i64 e] 91)):RD w' r ts q e:=by
 obtain ⟨⟨g,c,h1,h2,h3,h4⟩,h5⟩:=h
 have hr:=(Array.getElem?_eq_some_iff.1 h1).1
 exact ⟨⟨g,c,hc g c h1,h2,h3,fun j x hx=>range_same (h4 j x hx) (hb.block g (by omega) (by omega))⟩,hq⟩
theorem nx_of {ts:List (Int×ByteArray×Int)} {p:Nat} (h:p<ts.length):ts[p]?=some (nx ts p):=by
 unfold nx
 rw [List.getD_eq_getElem?_getD,List.getElem?_eq_getElem h]
 rfl
end Go.Proofs.YtfkfnbehdcmgeaaGreatDoor
namespace Go.Proofs.YtfkfnbehdcmgeaaGreatDoor
open Go Go.RowKit
def tkV (x:(Int×ByteArray×Int)):Value:=.agg #[.int .i64 x.1,.string x.2.1,.int .i64 x.2.2]
def VP (v:Value) (w:World) (e:Ending) (w':World):Prop:=e = .returned v∧Below w.heap.size w w'
theorem RD.facts {w w':World} {r p d:Nat} {ts:List (Int×ByteArray×Int)} (h:RD w r ts p d) (hb:Below w.heap.size w w'):∃ g c,w'.cell? ⟨r,0,none⟩=some (.slice (some ⟨g,0,none⟩) ts.length c)∧w'.cell? ⟨r,1,none⟩=some (.int .i64 p)∧w'.cell? ⟨r,2,none⟩=some (.int .i64 d)∧ts.length≤c∧r<w'.heap.size∧w'.frozen? ⟨r,1,none⟩=false∧w'.frozen? ⟨r,2,none⟩=false∧∀ j x,ts[j]?=some x→w'.cell? ⟨g,j * 3,none⟩=some (.int .i64 x.1)∧w'.cell? ⟨g,j * 3+1,none⟩=some (.string x.2.1)∧w'.cell? ⟨g,j * 3+2,none⟩=some (.int .i64 x.2.2):=by
 obtain ⟨⟨g,c,h1,h2,h3,h4⟩,h5⟩:=h.keep hb
 exact ⟨g,c,(blk h1).2.1 0 _ rfl,(blk h1).2.1 1 _ rfl,(blk h1).2.1 2 _ rfl,h3,(blk h1).1,(blk h1).2.2 1,(blk h1).2.2 2,fun j x hx=>⟨h4 j x hx 0 _ rfl,h4 j x hx 1 _ rfl,h4 j x hx 2 _ rfl⟩⟩
theorem below_set {w A:World} {B q:Nat} (h:Below B w A) (hq:B≤q) (o:Nat) (v:Value):Below B w (A.setCell ⟨q,o,none⟩ v):=
 ⟨h.os,h.tape,h.output,by simpa using h.size,fun k hk=>(Below.heap_setCell A ⟨q,o,none⟩ v k (by show k≠q;omega)).trans (h.block k hk)⟩
theorem fill3 {w:World} {q:Nat} {a b c x y z:Value} {ty:TypeId} (h:w.heap[q]?=some (.cells #[a,b,c] ty)):(((w.setCell ⟨q,0,none⟩ x).setCell ⟨q,1,none⟩ y).setCell ⟨q,2,none⟩ z).heap[q]?=some (.cells #[x,y,z] ty):=set_block (set_block (set_block h _) _) _
theorem fill2 {w:World} {q:Nat} {a b x y:Value} {ty:TypeId} (h:w.heap[q]?=some (.cells #[a,b] ty)):((w.setCell ⟨q,0,none⟩ x).setCell ⟨q,1,none⟩ y).heap[q]?=some (.cells #[x,y] ty):=set_block (set_block h _) _
theorem but_new {r q:Nat} {w A:World} (h:But r w A) (hq:w.heap.size≤q) (o:Nat) (v:Value):But r w (A.setCell ⟨q,o,none⟩ v):=
 ⟨h.os,h.tape,h.output,by simpa using h.size,fun k hk hr=>(Below.heap_setCell A ⟨q,o,none⟩ v k (by show k≠q;omega)).trans (h.block k hk hr)⟩
theorem but_drew {r:Nat} {w A:World} (h:But r w A):But r w A.drew:=⟨h.os,h.tape,h.output,h.size,h.block⟩
theorem heap_set {A:World} {q k:Nat} (o:Nat) (v:Value) (h:k≠q):(A.setCell ⟨q,o,none⟩ v).heap[k]?=A.heap[k]?:=Below.heap_setCell A ⟨q,o,none⟩ v k h
theorem heap_drew (w:World):w.drew.heap=w.heap:=rfl
set_option maxRecDepth 100000 in
set_option maxHeartbeats 4000000 in
theorem next_any {w:World} {r p d:Nat} {ts:List (Int×ByteArray×Int)} (hR:RD w r ts p d) (hT:TsOk ts):Calls Tryz.prog 64 #[.pointer (some ⟨r,0,none⟩)] w (VP (tkV (nx ts p)) w):=by
 obtain ⟨A,eA,hbA,hsA,hhA⟩:=box_new w #[.int .i64 0,.string ⟨#[]⟩,.int .i64 0] 74
 obtain ⟨g,c,x0,x1,x2,hc,hr,f1,f2,ht⟩:=hR.facts hbA
 obtain ⟨t0,t1,t2⟩:=ht p _ (nx_of hR.lt)
 have hp:=hR.lt
 have hl:=hT.len
 have g1:(p:Int)<(ts.length:Int):=by omega
 have g2:(ts.length:Int)≤100000:=by omega
 have g3:(0:Int)≤(p:Int):=by omega
 skip
 have y0:A.cell? ⟨w.heap.size,0,none⟩=some (.int .i64 0):=(blk hhA).2.1 0 _ rfl
 have y1:A.cell? ⟨w.heap.size,1,none⟩=some (.string ⟨#[]⟩):=(blk hhA).2.1 1 _ rfl
 have y2:A.cell? ⟨w.heap.size,2,none⟩=some (.int .i64 0):=(blk hhA).2.1 2 _ rfl
 have z0:=(blk hhA).2.2 0
 have z1:=(blk hhA).2.2 1
 have z2:=(blk hhA).2.2 2
 have HE:=gh eA
 have HB:=gh (And.intro hbA hhA)
 unfold tkV VP
 obtain ⟨X,hX⟩:∃ X,nx ts p=X:=⟨_,rfl⟩
 obtain ⟨L,hL⟩:∃ L,ts.length=L:=⟨_,rfl⟩
 rw [hX] at t0 t1 t2 ⊢
 rw [hL] at x0 g1 g2
 clear hR hT eA hbA hsA hhA hX hL ht hc hp hl
 go_enter Tryz.func64,Tryz.ntmps64
 go_wp2_with fail
 rw [gf HE]
 go_region
 go_wp2
 obtain ⟨hbA,hhA⟩:=gf HB
 refine bodyPost_ret (res_row (cs:=[.int .i64 X.1,.string X.2.1,.int .i64 X.2.2]) rfl rfl (range_block (by rw [heap_drew];exact fill3 hhA)) rfl rfl rfl) rfl ?_
 exact ⟨rfl,(below_set (below_set (below_set hbA (Nat.le_refl _) _ _) (Nat.le_refl _) _ _) (Nat.le_refl _) _ _).drew⟩
set_option maxRecDepth 100000 in
set_option maxHeartbeats 4000000 in
theorem behind_any {w:World} {r p d:Nat} {ts:List (Int×ByteArray×Int)} (hR:RD w r ts p d) (hT:TsOk ts) (hp1:p+1<ts.length):Calls Tryz.prog 114 #[.pointer (some ⟨r,0,none⟩)] w (VP (tkV (nx ts (p+1))) w):=by
 obtain ⟨A,eA,hbA,hsA,hhA⟩:=box_new w #[.int .i64 0,.string ⟨#[]⟩,.int .i64 0] 74
 obtain ⟨g,c,x0,x1,x2,hc,hr,f1,f2,ht⟩:=hR.facts hbA
 obtain ⟨t0,t1,t2⟩:=ht (p+1) _ (nx_of hp1)
 have hp:=hp1
 have hl:=hT.len
 have g1:(p:Int)<(ts.length:Int):=by omega
 have g2:(ts.length:Int)≤100000:=by omega
 have g3:(0:Int)≤(p:Int):=by omega
 have g4:(p:Int)+1<(ts.length:Int):=by omega
 have y0:A.cell? ⟨w.heap.size,0,none⟩=some (.int .i64 0):=(blk hhA).2.1 0 _ rfl
 have y1:A.cell? ⟨w.heap.size,1,none⟩=some (.string ⟨#[]⟩):=(blk hhA).2.1 1 _ rfl
 have y2:A.cell? ⟨w.heap.size,2,none⟩=some (.int .i64 0):=(blk hhA).2.1 2 _ rfl
 have z0:=(blk hhA).2.2 0
 have z1:=(blk hhA).2.2 1
 have z2:=(blk hhA).2.2 2
 have HE:=gh eA
 have HB:=gh (And.intro hbA hhA)
 unfold tkV VP
 obtain ⟨X,hX⟩:∃ X,nx ts (p+1)=X:=⟨_,rfl⟩
 obtain ⟨L,hL⟩:∃ L,ts.length=L:=⟨_,rfl⟩
 rw [hX] at t0 t1 t2 ⊢
 rw [hL] at x0 g1 g2 g4
 clear hR hT eA hbA hsA hhA hX hL ht hc hp hl hp1
 go_enter Tryz.func114,Tryz.ntmps114
 go_wp2_with fail
 rw [gf HE]
 go_region
 go_wp2
 obtain ⟨hbA,hhA⟩:=gf HB
 refine bodyPost_ret (res_row (cs:=[.int .i64 X.1,.string X.2.1,.int .i64 X.2.2]) rfl rfl (range_block (by rw [heap_drew];exact fill3 hhA)) rfl rfl rfl) rfl ?_
 exact ⟨rfl,(below_set (below_set (below_set hbA (Nat.le_refl _) _ _) (Nat.le_refl _) _ _) (Nat.le_refl _) _ _).drew⟩
theorem toList_inj {x y:ByteArray} (h:x.toList=y.toList):x=y:=by
 rw [Lib.toList_data,Lib.toList_data] at h
 obtain ⟨a⟩:=x
 obtain ⟨b⟩:=y
 congr
 exact Array.toList_inj.1 h
theorem str_eq (a b:ByteArray):(a.toList == b.toList)=decide (a=b):=by
 rw [Bool.eq_iff_iff]
 simp only [beq_iff_eq,decide_eq_true_eq]
 exact ⟨toList_inj,fun h=>by rw [h]⟩
set_option maxRecDepth 100000 in
theorem fld0 (x y z:Value) (W:World):(Instr.field 74 (.agg #[x,y,z]) 0).run Tryz.prog W = .ok x W:=by rfl
set_option maxRecDepth 100000 in
theorem fld1 (x y z:Value) (W:World):(Instr.field 74 (.agg #[x,y,z]) 1).run Tryz.prog W = .ok y W:=by rfl
set_option maxRecDepth 100000 in
theorem fld2 (x y z:Value) (W:World):(Instr.field 74 (.agg #[x,y,z]) 2).run Tryz.prog W = .ok z W:=by rfl
set_option maxRecDepth 100000 in
set_option maxHeartbeats 4000000 in
theorem sees_any {w:World} {r p d:Nat} {ts:List (Int×ByteArray×Int)} (hR:RD w r ts p d) (hT:TsOk ts) (s:ByteArray):Calls Tryz.prog 63 #[.pointer (some ⟨r,0,none⟩),.string s] w (VP (.bool (sees ts p s)) w):=by
 have HN:=gh (next_any hR hT)
 unfold sees txt VP
 unfold tkV at HN
 obtain ⟨⟨k,T,i⟩,hX⟩:∃ X,nx ts p=X:=⟨_,rfl⟩
 rw [hX] at HN ⊢
 clear hR hT hX
 have h1:=fld1 (.int .i64 k) (.string T) (.int .i64 i)
 go_enter Tryz.func63,Tryz.ntmps63
 go_wp2_with fail
 refine (gf HN).mono ?_
 rintro e w2 ⟨rfl,hb⟩
 have HB:=gh hb
 clear hb HN
 go_wp2
 go_ret
 rw [str_eq]
 exact ⟨rfl,gf HB⟩
set_option maxRecDepth 100000 in
set_option maxHeartbeats 4000000 in
theorem refused_any {w:World} {r p d:Nat} {ts:List (Int×ByteArray×Int)} (hR:RD w r ts p d) (hT:TsOk ts) (n:Int):Calls Tryz.prog 44 #[.pointer (some ⟨r,0,none⟩),.int .i64 n] w (VP (.agg #[.int .i64 (nx ts p).2.2,.int .i64 n]) w):=by
 obtain ⟨A,eA,hbA,hsA,hhA⟩:=box_new w #[.int .i64 0,.int .i64 0] 89
 have HN:=gh (next_any (hR.keep hbA) hT)
 unfold VP
 unfold tkV at HN
 obtain ⟨⟨k,T,i⟩,hX⟩:∃ X,nx ts p=X:=⟨_,rfl⟩
 rw [hX] at HN ⊢
 have HA:=gh (And.intro hbA hhA)
 have HE:=gh eA
 clear hR hT hX eA hbA hsA hhA
 have h2:=fld2 (.int .i64 k) (.string T) (.int .i64 i)
 go_enter Tryz.func44,Tryz.ntmps44
 go_wp2_with fail
 rw [gf HE]
 refine (gf HN).mono ?_
 rintro e w2 ⟨rfl,hb⟩
 obtain ⟨hbA,hhA⟩:=gf HA
 have hh2:=(hb.block w.heap.size (Array.getElem?_eq_some_iff.1 hhA).1).trans hhA
 have x0:w2.cell? ⟨w.heap.size,0,none⟩=some (.int .i64 0):=(blk hh2).2.1 0 _ rfl
 have x1:w2.cell? ⟨w.heap.size,1,none⟩=some (.int .i64 0):=(blk hh2).2.1 1 _ rfl
 have f0:=(blk hh2).2.2 0
 have f1:=(blk hh2).2.2 1
 have HB:=gh (And.intro (hbA.trans (hb.mono hbA.size)) hh2)
 clear hb HN hbA hhA hh2
 go_wp2
 obtain ⟨hb,hh2⟩:=gf HB
 refine bodyPost_ret (res_row (cs:=[.int .i64 i,.int .i64 n]) rfl rfl (range_block (fill2 hh2)) rfl rfl rfl) rfl ?_
 exact ⟨rfl,below_set (below_set hb (Nat.le_refl _) _ _) (Nat.le_refl _) _ _⟩
set_option maxRecDepth 100000 in
set_option maxHeartbeats 4000000 in
theorem take_any {w:World} {r p d:Nat} {ts:List (Int×ByteArray×Int)} (hR:RD w r ts p d) (hT:TsOk ts) (hp:p+1<ts.length):Calls Tryz.prog 87 #[.pointer (some ⟨r,0,none⟩)] w fun e w'=>e = .returned (tkV (nx ts p))∧But r w w'∧RD w' r ts (p+1) d:=by
 obtain ⟨A,eA,hbA,hsA,hhA⟩:=box_new w #[.int .i64 0,.string ⟨#[]⟩,.int .i64 0] 74
 have HN:=gh (next_any (hR.keep hbA) hT)
 unfold tkV at HN ⊢
 obtain ⟨⟨k,T,i⟩,hX⟩:∃ X,nx ts p=X:=⟨_,rfl⟩
 rw [hX] at HN ⊢
 have HA:=gh (And.intro hbA (And.intro hhA (And.intro hR (And.intro hT hp))))
 have HE:=gh eA
 clear hR hT hX eA hbA hsA hhA hp
 go_enter Tryz.func87,Tryz.ntmps87
 go_wp2_with fail
 rw [gf HE]
 refine (gf HN).mono ?_
 rintro e w2 ⟨rfl,hb⟩
 obtain ⟨hbA,hhA,hR,hT,hp⟩:=gf HA
 have hh2:=(hb.block w.heap.size (Array.getElem?_eq_some_iff.1 hhA).1).trans hhA
 obtain ⟨B,eB,hbB,hsB,hhB⟩:=box_new w2 #[.int .i64 k,.string T,.int .i64 i] 74
 have hh3:=(hbB.block w.heap.size (Array.getElem?_eq_some_iff.1 hh2).1).trans hh2
 have hb03:Below w.heap.size w B:=hbA.trans ((hb.trans (hbB.mono hb.size)).mono hbA.size)
 have hRB:=hR.keep hb03
 obtain ⟨g,c,r0,r1,r2,-,hrl,f1,f2,-⟩:=hRB.facts (Below.refl _ _)
 have x0:B.cell? ⟨w.heap.size,0,none⟩=some (.int .i64 0):=(blk hh3).2.1 0 _ rfl
 have x1:B.cell? ⟨w.heap.size,1,none⟩=some (.string ⟨#[]⟩):=(blk hh3).2.1 1 _ rfl
 have x2:B.cell? ⟨w.heap.size,2,none⟩=some (.int .i64 0):=(blk hh3).2.1 2 _ rfl
 have z0:=(blk hh3).2.2 0
 have z1:=(blk hh3).2.2 1
 have z2:=(blk hh3).2.2 2
 have y0:B.cell? ⟨w2.heap.size,0,none⟩=some (.int .i64 k):=(blk hhB).2.1 0 _ rfl
 have y1:B.cell? ⟨w2.heap.size,1,none⟩=some (.string T):=(blk hhB).2.1 1 _ rfl
 have y2:B.cell? ⟨w2.heap.size,2,none⟩=some (.int .i64 i):=(blk hhB).2.1 2 _ rfl
 have hl:=hT.len
 have hrw:r≠w.heap.size:=by
  have:r<w.heap.size:=(by obtain ⟨⟨g,c,h1,-⟩,-⟩:=hR;exact (blk h1).1)
  omega
 have hrw2:r≠w2.heap.size:=by
  have:r<w.heap.size:=(by obtain ⟨⟨g,c,h1,-⟩,-⟩:=hR;exact (blk h1).1)
  have:=hbA.size
  have:=hb.size
  omega
 have hww:w.heap.size≠w2.heap.size:=by
  have:=hb.size
  have:=(blk hhA).1
  omega
 have g2:(p:Int)≤100000:=by omega
 have g3:(0:Int)≤(p:Int):=by omega
 have HB:=gh (And.intro hb03 (And.intro hh3 (And.intro hR (And.intro hp hrw))))
 have HEB:=gh eB
 rw [←eB] at r0 r1 r2 f1 f2 x0 x1 x2 z0 z1 z2 y0 y1 y2
 clear hb HN hbA hhA hR hT hp hh2 hbB hsB hhB hh3 hb03 hRB hl eB
 go_wp2
 rw [gf HEB]
 obtain ⟨hb03,hh3,hR,hp,hrw⟩:=gf HB
 refine bodyPost_ret (res_row (cs:=[.int .i64 k,.string T,.int .i64 i]) rfl rfl (range_block (fill3 ((heap_set _ _ (Ne.symm hrw)).trans hh3))) rfl rfl rfl) rfl ?_
 have hbu:=but_new (but_new (but_new ((But.of (r:=r) hb03).set 1 (.int .i64 ((p:Int)+1))) (Nat.le_refl _) 0 (.int .i64 k)) (Nat.le_refl _) 1 (.string T)) (Nat.le_refl _) 2 (.int .i64 i)
 refine ⟨rfl,hbu,hR.set hbu hp fun g c h => ?_⟩
 rw [heap_set _ _ hrw,heap_set _ _ hrw,heap_set _ _ hrw]
 exact set_block ((hb03.block r (blk h).1).trans h) _
end Go.Proofs.YtfkfnbehdcmgeaaGreatDoor
namespace Go.Proofs.YtfkfnbehdcmgeaaGreatDoor
open Go Go.RowKit
def Ref (i n:Int) (e:Ending):Prop:=e = .panicked [{ v:=.iface 89 (.agg #[.int .i64 i,.int .i64 n]),recovered:=false }]
def RP {α:Type} (Φ:World→Value→α→Prop) (x:(Except (Int×Int) (α×Nat))) (r:Nat) (ts:List (Int×ByteArray×Int)) (p d:Nat) (w:World) (e:Ending) (w':World):Prop:=But r w w'∧match x with
 |.ok (t,q)=>p≤q∧RD w' r ts q d∧∃ v,e = .returned v∧Φ w' v t
 |.error (i,n)=>Ref i n e
def TkOk (_:World) (v:Value) (t:(Int×ByteArray×Int)):Prop:=v=tkV t
def UnOk (_:World) (v:Value) (_:Unit):Prop:=v = .tuple #[]
theorem nx_txt {ts:List (Int×ByteArray×Int)} {p:Nat} (hT:TsOk ts) (hp:p<ts.length) (h:txt ts p≠⟨#[]⟩):p+1<ts.length:=hT.txt p _ (nx_of hp) (.inl h)
theorem nx_kind {ts:List (Int×ByteArray×Int)} {p:Nat} (hT:TsOk ts) (hp:p<ts.length) (h:(nx ts p).1≠0):p+1<ts.length:=hT.txt p _ (nx_of hp) (.inr h)
theorem sees_txt {ts:List (Int×ByteArray×Int)} {p:Nat} {s:ByteArray} (h:sees ts p s=true):txt ts p=s:=of_decide_eq_true h
set_option maxRecDepth 100000 in
set_option maxHeartbeats 4000000 in
theorem one_any {w:World} {r p d g c:Nat} {ts:List (Int×ByteArray×Int)} {l:List ByteArray} (hR:RD w r ts p d) (hT:TsOk ts) (hg:g<w.heap.size) (hl:l.length≤100) (hc:∀ (j:Nat) s,l[j]?=some s→w.cell? ⟨g,j,none⟩=some (.string s)):Calls Tryz.prog 43 #[.pointer (some ⟨r,0,none⟩),.slice (some ⟨g,0,none⟩) l.length c] w (VP (.bool (l.any (sees ts p))) w):=by
 have HA:=gh (And.intro hR (And.intro hT (And.intro hg (And.intro hl hc))))
 unfold VP
 obtain ⟨n,hn⟩:∃ n,l.length=n:=⟨_,rfl⟩
 obtain ⟨out,ho⟩:∃ out,l.any (sees ts p)=out:=⟨_,rfl⟩
 have hl':(n:Int)≤100:=by omega
 rw [hn,ho]
 have HN:=gh (And.intro hn ho)
 clear hR hT hg hl hc hn ho
 go_enter Tryz.func43,Tryz.ntmps43
 go_wp2_with fail
 go_loopw [9] (fun iv wr=>∃ i:Nat,i≤n∧iv = .int .i64 i∧Hid ((l.take i).any (sees ts p)=false)∧Hid (Below w.heap.size w wr)) (fun iv _=>n - (intOf iv).toNat)
 case atStart=>exact ⟨0,Nat.zero_le _,rfl,rfl,Below.refl _ _⟩
 case round =>
  obtain ⟨i,hi0,rfl,hR,hwr⟩:=hrel
  by_cases hi:i<n
  ·obtain ⟨hRD,hT,hg,hl,hc⟩:=gf HA
   obtain ⟨s,hs⟩:∃ s,l[i]?=some s:=⟨_,List.getElem?_eq_getElem (by rw [(gf HN).1];exact hi)⟩
   have x1:wr.cell? ⟨g,i,none⟩=some (.string s):=((gf hwr).cell (p:=⟨g,i,none⟩) hg).trans (hc i s hs)
   have g1:(i:Int)<(n:Int):=by omega
   have g3:(0:Int)≤(i:Int):=by omega
   have HS:=gh (sees_any (hRD.keep (gf hwr)) hT s)
   have HX:=gh hs
   obtain ⟨b,hb⟩:∃ b,sees ts p s=b:=⟨_,rfl⟩
   rw [hb] at HS
   have HBB:=gh hb
   clear hRD hT hg hl hc hs hb
   go_wp2_with fail
   refine (gf HS).mono ?_
   rintro e w2 ⟨rfl,hb2⟩
   have HW:=gh ((gf hwr).trans (hb2.mono (gf hwr).size))
   clear hb2 HS
   have hany:Hid ((l.take (i+1)).any (sees ts p)=b):=by
    show _=_
    rw [List.take_add_one,gf HX,List.any_append,gf hR]
    simp [gf HBB]
   cases b with
   |true =>
    go_wp2
    go_ret
    refine ⟨?_,gf HW⟩
    have h1:=gf hany
    have h2:l.any (sees ts p)=true:=by
     rw [List.any_eq_true] at h1 ⊢
     obtain ⟨x,hx,hx2⟩:=h1
     exact ⟨x,List.mem_of_mem_take hx,hx2⟩
    rw [(gf HN).2] at h2
    rw [h2]
    rfl
   |false =>
    go_wp2
    refine ⟨⟨i+1,by omega,by simp,hany,HW⟩,?_⟩
    simp [intOf]
    omega
  ·have gi:decide ((i:Int)<(n:Int))=false:=by simp;omega
   have g1:¬ ((i:Int)<(n:Int)):=by omega
   obtain rfl:i=n:=by omega
   have h2:=gf hR
   rw [←(gf HN).1,List.take_length,(gf HN).2] at h2
   subst h2
   have HW:=hwr
   clear hR hwr hi hi0
   go_wp2
   go_ret
   exact ⟨rfl,gf HW⟩
set_option maxRecDepth 100000 in
set_option maxHeartbeats 4000000 in
theorem takeIf_any {w:World} {r p d:Nat} {ts:List (Int×ByteArray×Int)} (hR:RD w r ts p d) (hT:TsOk ts) {s:ByteArray} (hs:s≠⟨#[]⟩):Calls Tryz.prog 65 #[.pointer (some ⟨r,0,none⟩),.string s] w fun e w'=>e = .returned (.bool (sees ts p s))∧But r w w'∧RD w' r ts (if sees ts p s then p+1 else p) d:=by
 have HS:=gh (sees_any hR hT s)
 obtain ⟨b,hb⟩:∃ b,sees ts p s=b:=⟨_,rfl⟩
 have hlen:b=true→p+1<ts.length:=fun h=>nx_txt hT hR.lt (by rw [sees_txt (hb.trans h)];exact hs)
 rw [hb] at HS ⊢
 have HA:=gh (And.intro hR (And.intro hT hlen))
 clear hR hT hs hb hlen
 go_enter Tryz.func65,Tryz.ntmps65
 go_wp2_with fail
 refine (gf HS).mono ?_
 rintro e w2 ⟨rfl,hb2⟩
 have HB:=gh hb2
 clear hb2 HS
 cases b with
 |false =>
  go_wp2
  go_ret
  exact ⟨rfl,But.of (gf HB),(gf HA).1.keep (gf HB)⟩
 |true =>
  have HT:=gh (take_any ((gf HA).1.keep (gf HB)) (gf HA).2.1 ((gf HA).2.2 rfl))
  go_wp2_with fail
  refine (gf HT).mono ?_
  rintro e w3 ⟨rfl,hb3,hR3⟩
  have HB3:=gh (And.intro hb3 hR3)
  clear hb3 hR3 HT
  go_wp2
  go_ret
  exact ⟨rfl,(But.of (gf HB)).trans (gf HB3).1,(gf HB3).2⟩
set_option maxRecDepth 100000 in
set_option maxHeartbeats 4000000 in
theorem must_any {w:World} {r p d:Nat} {ts:List (Int×ByteArray×Int)} (hR:RD w r ts p d) (hT:TsOk ts) {s:ByteArray} (hs:s≠⟨#[]⟩):Calls Tryz.prog 67 #[.pointer (some ⟨r,0,none⟩),.string s] w (RP UnOk (mustR ts s p) r ts p d w):=by
 have HS:=gh (takeIf_any hR hT hs)
 obtain ⟨b,hb⟩:∃ b,sees ts p s=b:=⟨_,rfl⟩
 obtain ⟨X,hX⟩:∃ X,mustR ts s p=X:=⟨_,rfl⟩
 rw [hX]
 unfold mustR at hX
 rw [hb] at HS hX
 replace hX:=gh hX
 have HT:=gh hT
 clear hR hT hs hb
 go_enter Tryz.func67,Tryz.ntmps67
 go_wp2_with fail
 refine (gf HS).mono ?_
 rintro e w2 ⟨rfl,hb2,hR2⟩
 have HB:=gh (And.intro hb2 hR2)
 clear hb2 hR2 HS
 cases b with
 |true =>
  go_wp2
  obtain rfl:=gf hX
  refine bodyPost_ret (results_none rfl _ _ _) rfl ?_
  exact ⟨(gf HB).1,Nat.le_succ _,(gf HB).2,_,rfl,rfl⟩
 |false =>
  have HRf:=gh (refused_any (gf HB).2 (gf HT) 150)
  go_wp2_with fail
  refine (gf HRf).mono ?_
  rintro e w3 ⟨rfl,hb3⟩
  have HB3:=gh hb3
  clear hb3 HRf
  go_wp2
  obtain rfl:=gf hX
  refine ⟨rfl,(gf HB).1.trans (But.of (gf HB3)),rfl⟩
set_option maxRecDepth 100000 in
set_option maxHeartbeats 4000000 in
theorem mustBe_any {w:World} {r p d:Nat} {ts:List (Int×ByteArray×Int)} (hR:RD w r ts p d) (hT:TsOk ts) {k:Int} (hk:k≠0):Calls Tryz.prog 88 #[.pointer (some ⟨r,0,none⟩),.int .i64 k] w (RP TkOk (mustBeR ts k p) r ts p d w):=by
 obtain ⟨A,eA,hbA,hsA,hhA⟩:=box_new w #[.int .i64 0,.string ⟨#[]⟩,.int .i64 0] 74
 have hRA:=hR.keep hbA
 have HS:=gh (next_any hRA hT)
 obtain ⟨X,hX⟩:∃ X,mustBeR ts k p=X:=⟨_,rfl⟩
 rw [hX]
 unfold mustBeR at hX
 have hlen:(nx ts p).1=k→p+1<ts.length:=fun h=>nx_kind hT hR.lt (by rw [h];exact hk)
 have HT:=gh (And.intro hRA (And.intro hT hlen))
 unfold tkV at HS
 obtain ⟨⟨kk,T,i⟩,hN⟩:∃ Y,nx ts p=Y:=⟨_,rfl⟩
 rw [hN] at HS
 have HA:=gh (And.intro hbA (And.intro hhA (And.intro hX hN)))
 have HE:=gh eA
 have h0:=fld0 (.int .i64 kk) (.string T) (.int .i64 i)
 clear hR hT hk hX hN hlen hRA eA hbA hsA hhA
 by_cases hkk:kk=k
 ·subst hkk
  go_enter Tryz.func88,Tryz.ntmps88
  go_wp2_with fail
  rw [gf HE]
  refine (gf HS).mono ?_
  rintro e w2 ⟨rfl,hb2⟩
  obtain ⟨hRA,hT,hlen⟩:=gf HT
  obtain ⟨hbA,hhA,hX,hN⟩:=gf HA
  have HTk:=gh (take_any (hRA.keep hb2) hT (hlen (by rw [hN])))
  have HB2:=gh hb2
  unfold tkV at HTk
  rw [hN] at HTk
  clear hb2 HS hRA hT hlen hbA hhA hX hN
  go_wp2_with fail
  refine (gf HTk).mono ?_
  rintro e w3 ⟨rfl,hb3,hR3⟩
  obtain ⟨hRA,hT,hlen⟩:=gf HT
  obtain ⟨hbA,hhA,hX,hN⟩:=gf HA
  have hrw:r<w.heap.size∧r<A.heap.size:=by
   obtain ⟨⟨g,c,h1,-⟩,-⟩:=hRA
   refine ⟨?_,(blk h1).1⟩
   rcases Nat.lt_or_ge r w.heap.size with h | h
   ·exact h
   ·have:=(blk h1).1
    have e:r=w.heap.size:=by
                    have:=(blk hhA).1;have hs:A.heap.size=w.heap.size+1:=by rw [←gf HE];simp
                    omega
    rw [e,hhA] at h1
    cases h1
  have hh3:=(hb3.block w.heap.size (Nat.lt_of_lt_of_le (blk hhA).1 (gf HB2).size) (by omega)).trans (((gf HB2).block w.heap.size (blk hhA).1).trans hhA)
  have x0:w3.cell? ⟨w.heap.size,0,none⟩=some (.int .i64 0):=(blk hh3).2.1 0 _ rfl
  have x1:w3.cell? ⟨w.heap.size,1,none⟩=some (.string ⟨#[]⟩):=(blk hh3).2.1 1 _ rfl
  have x2:w3.cell? ⟨w.heap.size,2,none⟩=some (.int .i64 0):=(blk hh3).2.1 2 _ rfl
  have z0:=(blk hh3).2.2 0
  have z1:=(blk hh3).2.2 1
  have z2:=(blk hh3).2.2 2
  have hbu:But r w w3:=(But.of hbA).trans ((But.of (gf HB2)).trans hb3)
  have HB3:=gh (And.intro hbu (And.intro hR3 (And.intro hh3 (And.intro hrw.1 hX))))
  clear hbA hhA hX hRA hT hlen hb3 hR3 hh3 hbu hrw HTk
  go_wp2
  obtain ⟨hbu,hR3,hh3,hrw,hX⟩:=gf HB3
  refine bodyPost_ret (res_row (cs:=[.int .i64 kk,.string T,.int .i64 i]) rfl rfl (range_block (fill3 hh3)) rfl rfl rfl) rfl ?_
  rw [hN,if_pos rfl] at hX
  obtain rfl:=hX
  have hb4:=but_new (but_new (but_new hbu (Nat.le_refl _) 0 (.int .i64 kk)) (Nat.le_refl _) 1 (.string T)) (Nat.le_refl _) 2 (.int .i64 i)
  refine ⟨hb4,Nat.le_succ _,?_,_,rfl,rfl⟩
  have hb5:But r w3 _:=⟨rfl,rfl,rfl,by simp,fun k hk hr=>rfl⟩
  obtain ⟨⟨g,c,h1,h2,h3,h4⟩,h5⟩:=hR3
  refine ⟨⟨g,c,?_,h2,h3,fun j x hx=>range_same (h4 j x hx) ?_⟩,h5⟩
  ·rw [heap_set _ _ (by omega),heap_set _ _ (by omega),heap_set _ _ (by omega)]
   exact h1
  ·rw [heap_set _ _ (by omega),heap_set _ _ (by omega),heap_set _ _ (by omega)]
 ·have g0:decide (kk=k)=false:=by simpa using hkk
  go_enter Tryz.func88,Tryz.ntmps88
  go_wp2_with fail
  rw [gf HE]
  refine (gf HS).mono ?_
  rintro e w2 ⟨rfl,hb2⟩
  obtain ⟨hRA,hT,hlen⟩:=gf HT
  have HRf:=gh (refused_any (hRA.keep hb2) hT 150)
  have HB2:=gh hb2
  clear hb2 HS hRA hT hlen
  go_wp2_with fail
  refine (gf HRf).mono ?_
  rintro e w3 ⟨rfl,hb3⟩
  have HB3:=gh hb3
  clear hb3 HRf
  go_wp2
  obtain ⟨hbA,hhA,hX,hN⟩:=gf HA
  rw [hN,if_neg hkk] at hX
  obtain rfl:=hX
  refine ⟨rfl,(But.of hbA).trans ((But.of (gf HB2)).trans (But.of (gf HB3))),?_⟩
  rfl
end Go.Proofs.YtfkfnbehdcmgeaaGreatDoor
namespace Go.Proofs.YtfkfnbehdcmgeaaGreatDoor
open Go Go.RowKit
theorem fill7 {w:World} {q:Nat} {a0 a1 a2 a3 a4 a5 a6 x0 x1 x2 x3 x4 x5 x6:Value} {ty:TypeId} (h:w.heap[q]?=some (.cells #[a0,a1,a2,a3,a4,a5,a6] ty)):(((((((w.setCell ⟨q,0,none⟩ x0).setCell ⟨q,1,none⟩ x1).setCell ⟨q,2,none⟩ x2).setCell ⟨q,3,none⟩ x3).setCell ⟨q,4,none⟩ x4).setCell ⟨q,5,none⟩ x5).setCell ⟨q,6,none⟩ x6).heap[q]?=some (.cells #[x0,x1,x2,x3,x4,x5,x6] ty):=by
 have h0:(w.setCell ⟨q,0,none⟩ x0).heap[q]?=some (.cells #[x0,a1,a2,a3,a4,a5,a6] ty):=set_block h x0
 have h1:((w.setCell ⟨q,0,none⟩ x0).setCell ⟨q,1,none⟩ x1).heap[q]?=some (.cells #[x0,x1,a2,a3,a4,a5,a6] ty):=set_block h0 x1
 have h2:(((w.setCell ⟨q,0,none⟩ x0).setCell ⟨q,1,none⟩ x1).setCell ⟨q,2,none⟩ x2).heap[q]?=some (.cells #[x0,x1,x2,a3,a4,a5,a6] ty):=set_block h1 x2
 have h3:((((w.setCell ⟨q,0,none⟩ x0).setCell ⟨q,1,none⟩ x1).setCell ⟨q,2,none⟩ x2).setCell ⟨q,3,none⟩ x3).heap[q]?=some (.cells #[x0,x1,x2,x3,a4,a5,a6] ty):=set_block h2 x3
 have h4:(((((w.setCell ⟨q,0,none⟩ x0).setCell ⟨q,1,none⟩ x1).setCell ⟨q,2,none⟩ x2).setCell ⟨q,3,none⟩ x3).setCell ⟨q,4,none⟩ x4).heap[q]?=some (.cells #[x0,x1,x2,x3,x4,a5,a6] ty):=set_block h3 x4
 have h5:((((((w.setCell ⟨q,0,none⟩ x0).setCell ⟨q,1,none⟩ x1).setCell ⟨q,2,none⟩ x2).setCell ⟨q,3,none⟩ x3).setCell ⟨q,4,none⟩ x4).setCell ⟨q,5,none⟩ x5).heap[q]?=some (.cells #[x0,x1,x2,x3,x4,x5,a6] ty):=set_block h4 x5
 have h6:(((((((w.setCell ⟨q,0,none⟩ x0).setCell ⟨q,1,none⟩ x1).setCell ⟨q,2,none⟩ x2).setCell ⟨q,3,none⟩ x3).setCell ⟨q,4,none⟩ x4).setCell ⟨q,5,none⟩ x5).setCell ⟨q,6,none⟩ x6).heap[q]?=some (.cells #[x0,x1,x2,x3,x4,x5,x6] ty):=set_block h5 x6
 exact h6
def zE:Array Value:=#[.int .i64 0,.string ⟨#[]⟩,.string ⟨#[]⟩,.bool false,.slice none 0 0,.int .i64 0,.int .i64 0]
theorem blk7 {w:World} {q:Nat} {x0 x1 x2 x3 x4 x5 x6:Value} {ty:TypeId} (h:w.heap[q]?=some (.cells #[x0,x1,x2,x3,x4,x5,x6] ty)):w.cell? ⟨q,0,none⟩=some x0∧w.cell? ⟨q,1,none⟩=some x1∧w.cell? ⟨q,2,none⟩=some x2∧w.cell? ⟨q,3,none⟩=some x3∧w.cell? ⟨q,4,none⟩=some x4∧w.cell? ⟨q,5,none⟩=some x5∧w.cell? ⟨q,6,none⟩=some x6:=⟨(blk h).2.1 0 _ rfl,(blk h).2.1 1 _ rfl,(blk h).2.1 2 _ rfl,(blk h).2.1 3 _ rfl,(blk h).2.1 4 _ rfl,(blk h).2.1 5 _ rfl,(blk h).2.1 6 _ rfl⟩
theorem frz7 {w:World} {q:Nat} {cs:Array Value} {ty:TypeId} (h:w.heap[q]?=some (.cells cs ty)):w.frozen? ⟨q,0,none⟩=false∧w.frozen? ⟨q,1,none⟩=false∧w.frozen? ⟨q,2,none⟩=false∧w.frozen? ⟨q,3,none⟩=false∧w.frozen? ⟨q,4,none⟩=false∧w.frozen? ⟨q,5,none⟩=false∧w.frozen? ⟨q,6,none⟩=false:=⟨(blk h).2.2 0,(blk h).2.2 1,(blk h).2.2 2,(blk h).2.2 3,(blk h).2.2 4,(blk h).2.2 5,(blk h).2.2 6⟩
theorem below7 {w A:World} {B q:Nat} (h:Below B w A) (hq:B≤q) (x0 x1 x2 x3 x4 x5 x6:Value):Below B w (((((((A.setCell ⟨q,0,none⟩ x0).setCell ⟨q,1,none⟩ x1).setCell ⟨q,2,none⟩ x2).setCell ⟨q,3,none⟩ x3).setCell ⟨q,4,none⟩ x4).setCell ⟨q,5,none⟩ x5).setCell ⟨q,6,none⟩ x6):=below_set (below_set (below_set (below_set (below_set (below_set (below_set h hq _ _) hq _ _) hq _ _) hq _ _) hq _ _) hq _ _) hq _ _
theorem but7 {w A:World} {r q:Nat} (h:But r w A) (hq:w.heap.size≤q) (x0 x1 x2 x3 x4 x5 x6:Value):But r w (((((((A.setCell ⟨q,0,none⟩ x0).setCell ⟨q,1,none⟩ x1).setCell ⟨q,2,none⟩ x2).setCell ⟨q,3,none⟩ x3).setCell ⟨q,4,none⟩ x4).setCell ⟨q,5,none⟩ x5).setCell ⟨q,6,none⟩ x6):=but_new (but_new (but_new (but_new (but_new (but_new (but_new h hq _ _) hq _ _) hq _ _) hq _ _) hq _ _) hq _ _) hq _ _
theorem stays7 {w A:World} {lo q:Nat} (h:Stays lo w A) (hq:q<lo) (x0 x1 x2 x3 x4 x5 x6:Value):Stays lo w (((((((A.setCell ⟨q,0,none⟩ x0).setCell ⟨q,1,none⟩ x1).setCell ⟨q,2,none⟩ x2).setCell ⟨q,3,none⟩ x3).setCell ⟨q,4,none⟩ x4).setCell ⟨q,5,none⟩ x5).setCell ⟨q,6,none⟩ x6):=((((((h.set hq _ _).set hq _ _).set hq _ _).set hq _ _).set hq _ _).set hq _ _).set hq _ _
theorem same7 {A:World} {q k:Nat} (h:k≠q) (x0 x1 x2 x3 x4 x5 x6:Value):(((((((A.setCell ⟨q,0,none⟩ x0).setCell ⟨q,1,none⟩ x1).setCell ⟨q,2,none⟩ x2).setCell ⟨q,3,none⟩ x3).setCell ⟨q,4,none⟩ x4).setCell ⟨q,5,none⟩ x5).setCell ⟨q,6,none⟩ x6).heap[k]?=A.heap[k]?:=by
 rw [heap_set _ _ h,heap_set _ _ h,heap_set _ _ h,heap_set _ _ h,heap_set _ _ h,heap_set _ _ h,heap_set _ _ h]
set_option maxRecDepth 100000 in
set_option maxHeartbeats 4000000 in
theorem made_any (op k i:Int) (T:ByteArray) (a:Option Addr) (n c:Nat) (w:World):Calls Tryz.prog 110 #[.int .i64 op,.agg #[.int .i64 k,.string T,.int .i64 i],.slice a n c] w (VP (.agg #[.int .i64 op,.string ⟨#[]⟩,.string ⟨#[]⟩,.bool false,.slice a n c,.int .i64 0,.int .i64 i]) w):=by
 unfold VP
 go_enter Tryz.func110,Tryz.ntmps110
 go_wp2
 obtain ⟨B,eB,hbB,hsB,hhB⟩:=box_new (w.alloc (.cells #[.int .i64 k,.string T,.int .i64 i] 74)) #[.int .i64 op,.string ⟨#[]⟩,.string ⟨#[]⟩,.bool false,.slice a n c,.int .i64 0,.int .i64 i] 36
 rw [eB]
 rw [World.size_alloc] at hhB
 refine bodyPost_ret (res_row (cs:=[.int .i64 op,.string ⟨#[]⟩,.string ⟨#[]⟩,.bool false,.slice a n c,.int .i64 0,.int .i64 i]) rfl rfl (range_block hhB) rfl rfl rfl) rfl ?_
 exact ⟨rfl,((Below.refl _ w).alloc (Nat.le_refl _) _).trans (hbB.mono (by simp))⟩
set_option maxRecDepth 100000 in
set_option maxHeartbeats 4000000 in
theorem named_any (op k i:Int) (T N:ByteArray) (a:Option Addr) (n c:Nat) (w:World):Calls Tryz.prog 111 #[.int .i64 op,.agg #[.int .i64 k,.string T,.int .i64 i],.string N,.slice a n c] w (VP (.agg #[.int .i64 op,.string N,.string ⟨#[]⟩,.bool false,.slice a n c,.int .i64 0,.int .i64 i]) w):=by
 unfold VP
 go_enter Tryz.func111,Tryz.ntmps111
 go_wp2
 obtain ⟨B,eB,hbB,hsB,hhB⟩:=box_new (w.alloc (.cells #[.int .i64 k,.string T,.int .i64 i] 74)) #[.int .i64 op,.string N,.string ⟨#[]⟩,.bool false,.slice a n c,.int .i64 0,.int .i64 i] 36
 rw [eB]
 rw [World.size_alloc] at hhB
 refine bodyPost_ret (res_row (cs:=[.int .i64 op,.string N,.string ⟨#[]⟩,.bool false,.slice a n c,.int .i64 0,.int .i64 i]) rfl rfl (range_block hhB) rfl rfl rfl) rfl ?_
 exact ⟨rfl,((Below.refl _ w).alloc (Nat.le_refl _) _).trans (hbB.mono (by simp))⟩
end Go.Proofs.YtfkfnbehdcmgeaaGreatDoor
