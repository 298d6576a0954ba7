/- Tokens of a text whose bytes a function tells. -/
import Derived.Test.YtfkfnbehdcmgeaaGreatDoorZAQ
import Derived.Test.YtfkfnbehdcmgeaaGreatDoorZAL
import Derived.Test.YtfkfnbehdcmgeaaGreatDoorZAC
set_option linter.unusedVariables false
set_option linter.unusedSimpArgs false
namespace Go.Proofs.YtfkfnbehdcmgeaaGreatDoor
structure TF where
 n:Nat→(Int×ByteArray×Int)
 len:Nat
section
variable (T:TF)
def txtF (p:Nat):ByteArray:=(T.n p).2.1
def seesF (p:Nat) (s:ByteArray):Bool:=decide (txtF T p=s)
def badF {α:Type} (p:Nat) (n:Int):(Except (Int×Int) (α×Nat)):=.error ((T.n p).2.2,n)
def mustRF (s:ByteArray) (p:Nat):(Except (Int×Int) (Unit×Nat)):=if seesF T p s then .ok ((),p+1) else badF T p 150
def mustBeRF (k:Int) (p:Nat):(Except (Int×Int) ((Int×ByteArray×Int)×Nat)):=if (T.n p).1=k then .ok (T.n p,p+1) else badF T p 150
def begUF (p:Nat):Bool:=decide ((T.n p).1=1) || decide ((T.n p).1=3) || ([⟨#[45]⟩,⟨#[110,111,116]⟩,⟨#[33]⟩,⟨#[111,108,100]⟩,⟨#[116,114,117,101]⟩,⟨#[102,97,108,115,101]⟩,⟨#[40]⟩]:List ByteArray).any (seesF T p)
def begEF (p:Nat):Bool:=begUF T p || ([⟨#[105,102]⟩,⟨#[108,101,116]⟩,⟨#[116,114,121]⟩,⟨#[114,97,105,115,101]⟩,⟨#[97,115,115,101,114,116]⟩]:List ByteArray).any (seesF T p)
def exprsLF (E:Nat→(Except (Int×Int) (Ex×Nat))) (most:Nat):Nat→List Ex→Nat→(Except (Int×Int) ((List Ex)×Nat))
 |0,out,p => .ok (out,p)
 |n+1,out,p=>if seesF T p ⟨#[44]⟩ then (if out.length=most then badF T p 152 else thenR (E (p+1)) fun x q=>exprsLF E most n (out++[x]) q) else .ok (out,p)
def exprsRF (E:Nat→(Except (Int×Int) (Ex×Nat))) (most:Nat) (p:Nat):(Except (Int×Int) ((List Ex)×Nat)):=thenR (E p) fun x q=>exprsLF T E most T.len [x] q
def joinRF (O:Nat→(Except (Int×Int) (Ex×Nat))) (out:Ex) (p:Nat):(Except (Int×Int) (Ex×Nat)):=thenR (O (p+1)) fun y q => .ok (madeR (opOf (txtF T p)) [out,y] (T.n p).2.2,q)
def chainLF (O:Nat→(Except (Int×Int) (Ex×Nat))) (signs:List ByteArray):Nat→Ex→Nat→(Except (Int×Int) (Ex×Nat))
 |0,out,p => .ok (out,p)
 |n+1,out,p=>if signs.any (seesF T p) then thenR (joinRF T O out p) fun y q=>chainLF O signs n y q else .ok (out,p)
def chainRF (O:Nat→(Except (Int×Int) (Ex×Nat))) (signs:List ByteArray) (p:Nat):(Except (Int×Int) (Ex×Nat)):=thenR (O p) fun x q=>chainLF T O signs T.len x q
variable (g:Ru→Nat→Nat→(Except (Int×Int) (Ex×Nat))) (d:Nat)
def brackRF (i:Int) (p:Nat):(Except (Int×Int) (Ex×Nat)):=if seesF T p ⟨#[41]⟩ then .ok (madeR 3 [] i,p+1) else thenR (g .rE d p) fun x q=>thenR (mustRF T ⟨#[41]⟩ q) fun _ r => .ok (x,r)
def callRF (p:Nat):(Except (Int×Int) (Ex×Nat)):=thenR (mustRF T ⟨#[40]⟩ (p+1)) fun _ q=>if seesF T q ⟨#[41]⟩ then .ok (namedR 21 (txtF T p) [] (T.n p).2.2,q+1) else thenR (exprsRF T (g .rE d) 8 q) fun l r=>thenR (mustRF T ⟨#[41]⟩ r) fun _ z => .ok (namedR 21 (txtF T p) l (T.n p).2.2,z)
def primRF (p:Nat):(Except (Int×Int) (Ex×Nat)):=
 if (T.n p).1=3 then .ok (.mk 1 ⟨#[]⟩ (txtF T p) false [] (T.n p).2.2,p+1)
 else if seesF T p ⟨#[116,114,117,101]⟩ then .ok (.mk 2 ⟨#[]⟩ ⟨#[]⟩ true [] (T.n p).2.2,p+1)
 else if seesF T p ⟨#[102,97,108,115,101]⟩ then .ok (madeR 2 [] (T.n p).2.2,p+1)
 else if seesF T p ⟨#[40]⟩ then brackRF T g d (T.n p).2.2 (p+1)
 else if (T.n p).1=1∧txtF T (p+1)=⟨#[40]⟩ then callRF T g d p
 else thenR (mustBeRF T 1 p) fun t q => .ok (namedR 4 t.2.1 [] (T.n p).2.2,q)
def unaryRF (p:Nat):(Except (Int×Int) (Ex×Nat)):=
 if seesF T p ⟨#[45]⟩ then thenR (g .rU d (p+1)) fun x q => .ok (madeR 7 [x] (T.n p).2.2,q)
 else if seesF T p ⟨#[110,111,116]⟩ then thenR (g .rU d (p+1)) fun x q => .ok (madeR 8 [x] (T.n p).2.2,q)
 else if seesF T p ⟨#[33]⟩ then thenR (mustBeRF T 1 (p+1)) fun t q => .ok (namedR 5 t.2.1 [] (T.n p).2.2,q)
 else if seesF T p ⟨#[111,108,100]⟩ then thenR (mustBeRF T 1 (p+1)) fun t q => .ok (namedR 6 t.2.1 [] (T.n p).2.2,q)
 else primRF T g d p
def termRF (p:Nat):(Except (Int×Int) (Ex×Nat)):=chainRF T (unaryRF T g d) [⟨#[42]⟩] p
def sumRF (p:Nat):(Except (Int×Int) (Ex×Nat)):=chainRF T (termRF T g d) [⟨#[43]⟩,⟨#[45]⟩] p
def cmpRF (p:Nat):(Except (Int×Int) (Ex×Nat)):=thenR (sumRF T g d p) fun x q=>if ([⟨#[61]⟩,⟨#[60,62]⟩,⟨#[60]⟩,⟨#[60,61]⟩,⟨#[62]⟩,⟨#[62,61]⟩]:List ByteArray).any (seesF T q) then joinRF T (sumRF T g d) x q else .ok (x,q)
def andRF (p:Nat):(Except (Int×Int) (Ex×Nat)):=chainRF T (cmpRF T g d) [⟨#[38,38]⟩] p
def orRF (p:Nat):(Except (Int×Int) (Ex×Nat)):=chainRF T (andRF T g d) [⟨#[124,124]⟩] p
def impRF (p:Nat):(Except (Int×Int) (Ex×Nat)):=thenR (orRF T g d p) fun x q=>if seesF T q ⟨#[61,61,62]⟩ then thenR (g .rI d (q+1)) fun y r => .ok (madeR 20 [x,y] (T.n q).2.2,r) else .ok (x,q)
def partRF (p:Nat):(Except (Int×Int) (Ex×Nat)):=
 if (T.n p).1=1∧txtF T (p+1)=⟨#[58,61]⟩ then thenR (impRF T g d (p+2)) fun x q => .ok (namedR 25 (txtF T p) [x] (T.n p).2.2,q)
 else if seesF T p ⟨#[114,97,105,115,101]⟩ then thenR (impRF T g d (p+1)) fun x q => .ok (madeR 26 [x] (T.n p).2.2,q)
 else if seesF T p ⟨#[97,115,115,101,114,116]⟩ then thenR (impRF T g d (p+1)) fun x q => .ok (madeR 28 [x] (T.n p).2.2,q)
 else impRF T g d p
def seqRF (p:Nat):(Except (Int×Int) (Ex×Nat)):=thenR (partRF T g d p) fun x q=>if seesF T q ⟨#[59]⟩ then thenR (g .rE d (q+1)) fun y r => .ok (madeR 24 [x,y] (T.n q).2.2,r) else .ok (x,q)
def branchRF (p:Nat):(Except (Int×Int) (Ex×Nat)):=thenR (g .rE d (p+1)) fun a q=>thenR (mustRF T ⟨#[116,104,101,110]⟩ q) fun _ q=>thenR (g .rE d q) fun b q=>thenR (mustRF T ⟨#[101,108,115,101]⟩ q) fun _ q=>thenR (g .rE d q) fun c q => .ok (madeR 22 [a,b,c] (T.n p).2.2,q)
def bindRF (p:Nat):(Except (Int×Int) (Ex×Nat)):=thenR (mustBeRF T 1 (p+1)) fun n q=>thenR (mustRF T ⟨#[61]⟩ q) fun _ q=>thenR (g .rE d q) fun a q=>thenR (mustRF T ⟨#[105,110]⟩ q) fun _ q=>thenR (g .rE d q) fun b q => .ok (namedR 23 n.2.1 [a,b] (T.n p).2.2,q)
def tryRF (p:Nat):(Except (Int×Int) (Ex×Nat)):=thenR (g .rE d (p+1)) fun a q=>thenR (mustRF T ⟨#[119,105,116,104]⟩ q) fun _ q=>thenR (mustBeRF T 1 q) fun n q=>thenR (mustRF T ⟨#[45,62]⟩ q) fun _ q=>thenR (g .rE d q) fun b q => .ok (namedR 27 n.2.1 [a,b] (T.n p).2.2,q)
def withinRF (p:Nat):(Except (Int×Int) (Ex×Nat)):=
 if txtF T p=⟨#[105,102]⟩ then branchRF T g d p
 else if txtF T p=⟨#[108,101,116]⟩ then bindRF T g d p
 else if txtF T p=⟨#[116,114,121]⟩ then tryRF T g d p
 else seqRF T g d p
def begRF (u:Nat) (p:Nat):Bool:=match u with
 |0=>begEF T p
 |_=>begUF T p
def ruleRF (u:Nat) (p:Nat):(Except (Int×Int) (Ex×Nat)):=match u with
 |0=>withinRF T g d p
 |1=>impRF T g d p
 |_=>unaryRF T g d p
end
def gRF (T:TF):Nat→Ru→Nat→Nat→(Except (Int×Int) (Ex×Nat))
 |0,_,_,_ => .error (0,0)
 |f+1,u,d,p=>if begRF T u p∧d=200 then badF T p 151 else ruleRF T (gRF T f) (d+1) u p
section
variable (T:TF)
def exRF (p:Nat):(Except (Int×Int) (Ex×Nat)):=gRF T T.len .rE 0 p
def endRF (p:Nat):(Except (Int×Int) (Unit×Nat)):=if (T.n p).1=0 then .ok ((),p) else badF T p 150
def refRF (p:Nat):(Except (Int×Int) (Ty×Nat)):=thenR (mustBeRF T 1 (p+1)) fun n q=>thenR (mustRF T ⟨#[58]⟩ q) fun _ q=>thenR (mustRF T ⟨#[105,110,116]⟩ q) fun _ q=>thenR (mustRF T ⟨#[124]⟩ q) fun _ q=>thenR (exRF T q) fun x q=>thenR (mustRF T ⟨#[125]⟩ q) fun _ q => .ok (.mk 1 n.2.1 [x] (T.n p).2.2,q)
def typeRF (p:Nat):(Except (Int×Int) (Ty×Nat)):=if seesF T p ⟨#[123]⟩ then refRF T p else if kindD (txtF T p)=0 then badF T p 150 else .ok (.mk (kindD (txtF T p)) ⟨#[]⟩ [] (T.n p).2.2,p+1)
def effRF (p:Nat):(Except (Int×Int) (Int×Nat)):=if effD (txtF T p)=0 then badF T p 150 else .ok (effD (txtF T p),p+1)
def paramRF (p:Nat):(Except (Int×Int) (Pm×Nat)):=thenR (mustRF T ⟨#[40]⟩ p) fun _ q=>thenR (mustBeRF T 1 q) fun n q=>thenR (mustRF T ⟨#[58]⟩ q) fun _ q=>thenR (typeRF T q) fun t q=>thenR (mustRF T ⟨#[41]⟩ q) fun _ q => .ok (.mk n.2.1 t n.2.2,q)
def paramsLF:Nat→List Pm→Nat→(Except (Int×Int) ((List Pm)×Nat))
 |0,out,p => .ok (out,p)
 |n+1,out,p=>if seesF T p ⟨#[40]⟩ then (if out.length=8 then badF T p 152 else thenR (paramRF T p) fun x q=>paramsLF n (out++[x]) q) else .ok (out,p)
def paramsRF (p:Nat):(Except (Int×Int) ((List Pm)×Nat)):=paramsLF T T.len [] p
def reqRF (p:Nat):(Except (Int×Int) ((List Ex)×Nat)):=if seesF T p ⟨#[114,101,113,117,105,114,101,115]⟩ then thenR (exRF T (p+1)) fun x q => .ok ([x],q) else .ok ([],p)
def ensRF (p:Nat):(Except (Int×Int) ((ByteArray×List Ex)×Nat)):=if seesF T p ⟨#[101,110,115,117,114,101,115]⟩ then thenR (mustBeRF T 1 (p+1)) fun n q=>thenR (mustRF T ⟨#[46]⟩ q) fun _ q=>thenR (exRF T q) fun x q => .ok ((n.2.1,[x]),q) else .ok ((⟨#[]⟩,[]),p)
def meaRF (p:Nat):(Except (Int×Int) ((List Ex)×Nat)):=if seesF T p ⟨#[100,101,99,114,101,97,115,101,115]⟩ then exprsRF T (exRF T) 65536 (p+1) else .ok ([],p)
def contRF (p:Nat):(Except (Int×Int) ((List Ex×ByteArray×List Ex×List Ex)×Nat)):=thenR (reqRF T p) fun a q=>thenR (ensRF T q) fun b q=>thenR (meaRF T q) fun c q => .ok ((a,b.1,b.2,c),q)
def defRF (p:Nat):(Except (Int×Int) (De×Nat)):=
 thenR (mustBeRF T 1 (if seesF T p ⟨#[114,101,99]⟩ then p+1 else p)) fun n q=>thenR (paramsRF T q) fun ps q=>thenR (mustRF T ⟨#[58]⟩ q) fun _ q=>thenR (effRF T q) fun e q=>thenR (typeRF T q) fun t q=>thenR (contRF T q) fun c q=>thenR (mustRF T ⟨#[105,115]⟩ q) fun _ q=>thenR (exRF T q) fun x q=>thenR (mustRF T ⟨#[59,59]⟩ q) fun _ q =>
  .ok (.mk false n.2.1 ⟨#[]⟩ (seesF T p ⟨#[114,101,99]⟩) ps e t c.1 c.2.1 c.2.2.1 c.2.2.2 x n.2.2,q)
def cellRF (p:Nat):(Except (Int×Int) (De×Nat)):=
 thenR (mustBeRF T 1 p) fun n q=>thenR (mustRF T ⟨#[58,61]⟩ q) fun _ q=>thenR (mustBeRF T 3 (if seesF T q ⟨#[45]⟩ then q+1 else q)) fun k z=>thenR (mustRF T ⟨#[59,59]⟩ z) fun _ z =>
  .ok (.mk true n.2.1 (cellN (seesF T q ⟨#[45]⟩) k.2.1) false [] 0 zTy [] ⟨#[]⟩ [] [] zEx n.2.2,z)
def declRF (p:Nat):(Except (Int×Int) (De×Nat)):=if seesF T p ⟨#[114,101,102]⟩ then cellRF T (p+1) else thenR (mustRF T ⟨#[108,101,116]⟩ p) fun _ q=>defRF T q
def progLF:Nat→List De→Nat→(Except (Int×Int) ((List De)×Nat))
 |0,out,p => .ok (out,p)
 |n+1,out,p=>if ([⟨#[114,101,102]⟩,⟨#[108,101,116]⟩]:List ByteArray).any (seesF T p) then (if out.length=100 then badF T p 152 else thenR (declRF T p) fun x q=>progLF n (out++[x]) q) else .ok (out,p)
def progRF (p:Nat):(Except (Int×Int) ((List De)×Nat)):=thenR (progLF T T.len [] p) fun l q=>thenR (endRF T q) fun _ z => .ok (l,z)
def tDF (st:PS):(Int×ByteArray×Int):=if st.e=0 then T.n st.i else zTk
def stepDF (st:PS):PS:=if st.e=0∧st.i+1<T.len then ⟨st.i+1,st.e,st.a⟩ else st
def isDF (s:ByteArray) (st:PS):Bool:=decide (st.e=0) && (decide ((T.n st.i).1=2) || decide ((T.n st.i).1=4)) && decide ((T.n st.i).2.1=s)
def eatDF (s:ByteArray) (st:PS):PS:=if isDF T s st then stepDF T st else st
def mustDF (s:ByteArray) (st:PS):PS:=if isDF T s st then stepDF T st else st.fail (tDF T st).2.2 150
def nameDF (st:PS):(Int×ByteArray×Int)×PS:=if (tDF T st).1=1 then (tDF T st,stepDF T st) else (zTk,st.fail (tDF T st).2.2 150)
variable (g:Ru→PS→Ex×PS)
def argsDF (most:Nat):Nat→List Ex→PS→List Ex×PS
 |0,l,st=>(l,st)
 |n+1,l,st=>if isDF T ⟨#[44]⟩ st then (if l.length=most then (l,st.fail (tDF T st).2.2 152) else match g .rE (stepDF T st) with | (x,s)=>argsDF most n (l++[x]) s) else (l,mustDF T ⟨#[41]⟩ st)
def callDF (n:(Int×ByteArray×Int)) (st:PS):Ex×PS:=
 if isDF T ⟨#[41]⟩ st then (namedR 21 n.2.1 [] n.2.2,stepDF T st)
 else match g .rE st with | (x,s)=>match argsDF T g 8 8 [x] s with | (l,s')=>(namedR 21 n.2.1 l n.2.2,s')
def primDF (st:PS):Ex×PS:=
 if st.e≠0 then (zEx,st)
 else if (tDF T st).1=3 then (.mk 1 ⟨#[]⟩ (tDF T st).2.1 false [] (tDF T st).2.2,stepDF T st)
 else if isDF T ⟨#[116,114,117,101]⟩ st then (.mk 2 ⟨#[]⟩ ⟨#[]⟩ true [] (tDF T st).2.2,stepDF T st)
 else if isDF T ⟨#[102,97,108,115,101]⟩ st then (madeR 2 [] (tDF T st).2.2,stepDF T st)
 else if isDF T ⟨#[40]⟩ st then
  (if isDF T ⟨#[41]⟩ (stepDF T st) then (madeR 3 [] (tDF T st).2.2,stepDF T (stepDF T st))
   else match g .rE (stepDF T st) with | (x,s)=>(x,mustDF T ⟨#[41]⟩ s))
 else if isDF T ⟨#[40]⟩ (nameDF T st).2 then callDF T g (nameDF T st).1 (stepDF T (nameDF T st).2)
 else (namedR 4 (nameDF T st).1.2.1 [] (nameDF T st).1.2.2,(nameDF T st).2)
def unaryDF (st:PS):Ex×PS:=
 if isDF T ⟨#[45]⟩ st then (match g .rU (stepDF T st) with | (x,s)=>(madeR 7 [x] (tDF T st).2.2,s))
 else if isDF T ⟨#[110,111,116]⟩ st then (match g .rU (stepDF T st) with | (x,s)=>(madeR 8 [x] (tDF T st).2.2,s))
 else if isDF T ⟨#[33]⟩ st then (namedR 5 (nameDF T (stepDF T st)).1.2.1 [] (tDF T st).2.2,(nameDF T (stepDF T st)).2)
 else if isDF T ⟨#[111,108,100]⟩ st then (namedR 6 (nameDF T (stepDF T st)).1.2.1 [] (tDF T st).2.2,(nameDF T (stepDF T st)).2)
 else primDF T g st
def signDF:List (ByteArray×Int)→PS→Option Int
 |[],_=>none
 |(s,o)::l,st=>if isDF T s st then some o else signDF l st
def chDF (O:PS→Ex×PS) (signs:List (ByteArray×Int)) (once:Bool):Nat→Ex→PS→Ex×PS
 |0,a,st=>(a,st)
 |n+1,a,st=>match signDF T signs st with
  |none=>(a,st)
  |some o=>match O (stepDF T st) with | (b,s)=>if once then (madeR o [a,b] (tDF T st).2.2,s) else chDF O signs once n (madeR o [a,b] (tDF T st).2.2) s
def levDF (O:PS→Ex×PS) (signs:List (ByteArray×Int)) (once:Bool) (st:PS):Ex×PS:=match O st with | (x,s)=>chDF T O signs once T.len x s
def leftDF:Nat→PS→Ex×PS
 |0,st=>unaryDF T g st
 |k+1,st=>levDF T (leftDF k) (sgD (4 - k)) (decide (k=2)) st
def impDF (st:PS):Ex×PS:=
 match leftDF T g 5 st with | (x,s)=>if isDF T ⟨#[61,61,62]⟩ s then (match g .rI (stepDF T s) with | (y,s')=>(madeR 20 [x,y] (tDF T s).2.2,s')) else (x,s)
def partDF (st:PS):Ex×PS:=
 if st.e=0∧(tDF T st).1=1∧(T.n (st.i+1)).1=4∧(T.n (st.i+1)).2.1=⟨#[58,61]⟩ then
  (match impDF T g (stepDF T (stepDF T st)) with | (x,s)=>(namedR 25 (tDF T st).2.1 [x] (tDF T st).2.2,s))
 else if isDF T ⟨#[114,97,105,115,101]⟩ st then (match impDF T g (stepDF T st) with | (x,s)=>(madeR 26 [x] (tDF T st).2.2,s))
 else if isDF T ⟨#[97,115,115,101,114,116]⟩ st then (match impDF T g (stepDF T st) with | (x,s)=>(madeR 28 [x] (tDF T st).2.2,s))
 else impDF T g st
def ifDF (at':Int) (st:PS):Ex×PS:=
 match g .rE st with | (a,s1)=>match g .rE (mustDF T ⟨#[116,104,101,110]⟩ s1) with | (b,s2)=>match g .rE (mustDF T ⟨#[101,108,115,101]⟩ s2) with | (c,s3)=>(madeR 22 [a,b,c] at',s3)
def letDF (at':Int) (st:PS):Ex×PS:=
 match nameDF T st with | (n,s0)=>match g .rE (mustDF T ⟨#[61]⟩ s0) with | (a,s1)=>match g .rE (mustDF T ⟨#[105,110]⟩ s1) with | (b,s2)=>(namedR 23 n.2.1 [a,b] at',s2)
def tryDF (at':Int) (st:PS):Ex×PS:=
 match g .rE st with | (a,s1)=>match nameDF T (mustDF T ⟨#[119,105,116,104]⟩ s1) with | (n,s2)=>match g .rE (mustDF T ⟨#[45,62]⟩ s2) with | (b,s3)=>(namedR 27 n.2.1 [a,b] at',s3)
def innerDF (st:PS):Ex×PS:=
 if isDF T ⟨#[105,102]⟩ st then ifDF T g (tDF T st).2.2 (stepDF T st)
 else if isDF T ⟨#[108,101,116]⟩ st then letDF T g (tDF T st).2.2 (stepDF T st)
 else if isDF T ⟨#[116,114,121]⟩ st then tryDF T g (tDF T st).2.2 (stepDF T st)
 else match partDF T g st with | (x,s)=>if isDF T ⟨#[59]⟩ s then (match g .rE (stepDF T s) with | (y,s')=>(madeR 24 [x,y] (tDF T s).2.2,s')) else (x,s)
def ruleDF (u:Nat) (st:PS):Ex×PS:=match u with
 |0=>innerDF T g st
 |1=>impDF T g st
 |_=>unaryDF T g st
end
def gDF (T:TF):Nat→Ru→PS→Ex×PS
 |0,_,st=>(zEx,st.fail (tDF T st).2.2 151)
 |f+1,u,st=>if st.e=0 then ruleDF T (gDF T f) u st else (zEx,st)
section
variable (T:TF)
def exDF (st:PS):Ex×PS:=gDF T 200 .rE st
def typDF (st:PS):Ty×PS:=
 let i:=(tDF T st).2.2
 if isDF T ⟨#[105,110,116]⟩ st then (.mk 1 ⟨#[]⟩ [] i,stepDF T st)
 else if isDF T ⟨#[98,111,111,108]⟩ st then (.mk 2 ⟨#[]⟩ [] i,stepDF T st)
 else if isDF T ⟨#[117,110,105,116]⟩ st then (.mk 3 ⟨#[]⟩ [] i,stepDF T st)
 else
  let n:=nameDF T (mustDF T ⟨#[123]⟩ st)
  let x:=exDF T (mustDF T ⟨#[124]⟩ (mustDF T ⟨#[105,110,116]⟩ (mustDF T ⟨#[58]⟩ n.2)))
  (.mk 1 n.1.2.1 [x.1] i,mustDF T ⟨#[125]⟩ x.2)
def paramDF (st:PS):Pm×PS:=
 let n:=nameDF T (stepDF T st)
 let t:=typDF T (mustDF T ⟨#[58]⟩ n.2)
 (.mk n.1.2.1 t.1 n.1.2.2,mustDF T ⟨#[41]⟩ t.2)
def paramsDF:Nat→List Pm→PS→List Pm×PS×Bool
 |0,l,st=>(l,st,false)
 |n+1,l,st=>if isDF T ⟨#[40]⟩ st then (if l.length=8 then (l,st.fail (tDF T st).2.2 152,true) else paramsDF n (l++[(paramDF T st).1]) (paramDF T st).2) else (l,st,false)
def effD'F (st:PS):Int×PS:=match signDF T effsD st with
 |some o=>(o,stepDF T st)
 |none=>(0,st.fail (tDF T st).2.2 150)
def reqDF (st:PS):List Ex×PS:=if isDF T ⟨#[114,101,113,117,105,114,101,115]⟩ st then ([(exDF T (stepDF T st)).1],(exDF T (stepDF T st)).2) else ([],st)
def ensDF (st:PS):(ByteArray×List Ex)×PS:=
 if isDF T ⟨#[101,110,115,117,114,101,115]⟩ st then
  let n:=nameDF T (stepDF T st)
  let x:=exDF T (mustDF T ⟨#[46]⟩ n.2)
  ((n.1.2.1,[x.1]),x.2)
 else ((⟨#[]⟩,[]),st)
def meaLF:Nat→List Ex→PS→List Ex×PS
 |0,l,st=>(l,st)
 |n+1,l,st=>if isDF T ⟨#[44]⟩ st then meaLF n (l++[(exDF T (stepDF T st)).1]) (exDF T (stepDF T st)).2 else (l,st)
def meaDF (st:PS):List Ex×PS:=if isDF T ⟨#[100,101,99,114,101,97,115,101,115]⟩ st then meaLF T T.len [(exDF T (stepDF T st)).1] (exDF T (stepDF T st)).2 else ([],st)
def cellDF (st:PS):De×PS:=
 let n:=nameDF T st
 let s1:=mustDF T ⟨#[58,61]⟩ n.2
 let s2:=eatDF T ⟨#[45]⟩ s1
 let t:=tDF T s2
 let s3:=stepDF T (if t.1=3 then s2 else s2.fail t.2.2 150)
 (.mk true n.1.2.1 (cellN (isDF T ⟨#[45]⟩ s1) t.2.1) false [] 0 zTy [] ⟨#[]⟩ [] [] zEx n.1.2.2,mustDF T ⟨#[59,59]⟩ s3)
def defDF (st:PS):De×PS:=
 let again:=isDF T ⟨#[114,101,99]⟩ st
 let n:=nameDF T (eatDF T ⟨#[114,101,99]⟩ st)
 let ps:=paramsDF T T.len [] n.2
 if ps.2.2 then (.mk false n.1.2.1 ⟨#[]⟩ again ps.1 0 zTy [] ⟨#[]⟩ [] [] zEx n.1.2.2,ps.2.1)
 else
  let e:=effD'F T (mustDF T ⟨#[58]⟩ ps.2.1)
  let t:=typDF T e.2
  let a:=reqDF T t.2
  let b:=ensDF T a.2
  let c:=meaDF T b.2
  let x:=exDF T (mustDF T ⟨#[105,115]⟩ c.2)
  (.mk false n.1.2.1 ⟨#[]⟩ again ps.1 e.1 t.1 a.1 b.1.1 b.1.2 c.1 x.1 n.1.2.2,mustDF T ⟨#[59,59]⟩ x.2)
def declDF (st:PS):De×PS:=if isDF T ⟨#[114,101,102]⟩ st then cellDF T (stepDF T st) else defDF T (mustDF T ⟨#[108,101,116]⟩ st)
def progLDF:Nat→List De→PS→List De×PS
 |0,l,st=>(l,st)
 |n+1,l,st =>
  if st.e=0∧(tDF T st).1≠0 then
   (if (isDF T ⟨#[114,101,102]⟩ st || isDF T ⟨#[108,101,116]⟩ st)∧l.length=100 then (l,st.fail (tDF T st).2.2 152) else match declDF T st with | (d,s)=>progLDF n (l++[d]) s)
  else (l,st)
def progDF:Except (Int×Int) (List De):=
 let x:=progLDF T (T.len+1) [] ⟨0,0,0⟩
 if x.2.e=0 then .ok x.1 else .error (x.2.a,x.2.e)
end
def ofT (ts:List (Int×ByteArray×Int)):TF:=⟨nx ts,ts.length⟩
end Go.Proofs.YtfkfnbehdcmgeaaGreatDoor
namespace Go.Proofs.YtfkfnbehdcmgeaaGreatDoor
section
variable (ts:List (Int×ByteArray×Int))
theorem txt_F:txtF (ofT ts)=txt ts:=by
 funext p
 unfold txtF txt
 try rfl
theorem sees_F:seesF (ofT ts)=sees ts:=by
 funext p s
 unfold seesF sees
 simp only [txt_F]
 try rfl
theorem bad_F {α:Type}:badF (α:=α) (ofT ts)=bad (α:=α) ts:=rfl
theorem mustR_F:mustRF (ofT ts)=mustR ts:=by
 funext s p
 unfold mustRF mustR
 simp only [sees_F,bad_F]
 try rfl
theorem mustBeR_F:mustBeRF (ofT ts)=mustBeR ts:=by
 funext k p
 unfold mustBeRF mustBeR
 simp only [bad_F]
 try rfl
theorem begU_F:begUF (ofT ts)=begU ts:=by
 funext p
 unfold begUF begU
 simp only [sees_F]
 try rfl
theorem begE_F:begEF (ofT ts)=begE ts:=by
 funext p
 unfold begEF begE
 simp only [sees_F,begU_F]
 try rfl
theorem exprsL_F (E:Nat→(Except (Int×Int) (Ex×Nat))) (most:Nat):∀ n,exprsLF (ofT ts) E most n=exprsL ts E most n
 |0=>rfl
 |n+1=>by
  funext out p
  unfold exprsLF exprsL
  rw [exprsL_F E most n]
  simp only [sees_F,bad_F]
theorem exprsR_F:exprsRF (ofT ts)=exprsR ts:=by
 funext E most p
 unfold exprsRF exprsR
 simp only [exprsL_F]
 try rfl
theorem joinR_F:joinRF (ofT ts)=joinR ts:=by
 funext O out p
 unfold joinRF joinR
 simp only [txt_F]
 try rfl
theorem chainL_F (O:Nat→(Except (Int×Int) (Ex×Nat))) (signs:List ByteArray):∀ n,chainLF (ofT ts) O signs n=chainL ts O signs n
 |0=>rfl
 |n+1=>by
  funext out p
  unfold chainLF chainL
  rw [chainL_F O signs n]
  simp only [sees_F,joinR_F]
theorem chainR_F:chainRF (ofT ts)=chainR ts:=by
 funext O signs p
 unfold chainRF chainR
 simp only [chainL_F]
 try rfl
theorem brackR_F (g:Ru→Nat→Nat→(Except (Int×Int) (Ex×Nat))) (d:Nat):brackRF (ofT ts) g d=brackR ts g d:=by
 funext i p
 unfold brackRF brackR
 simp only [sees_F,mustR_F]
 try rfl
theorem callR_F (g:Ru→Nat→Nat→(Except (Int×Int) (Ex×Nat))) (d:Nat):callRF (ofT ts) g d=callR ts g d:=by
 funext p
 unfold callRF callR
 simp only [txt_F,sees_F,mustR_F,exprsR_F]
 try rfl
theorem primR_F (g:Ru→Nat→Nat→(Except (Int×Int) (Ex×Nat))) (d:Nat):primRF (ofT ts) g d=primR ts g d:=by
 funext p
 unfold primRF primR
 simp only [txt_F,sees_F,mustBeR_F,brackR_F,callR_F]
 try rfl
theorem unaryR_F (g:Ru→Nat→Nat→(Except (Int×Int) (Ex×Nat))) (d:Nat):unaryRF (ofT ts) g d=unaryR ts g d:=by
 funext p
 unfold unaryRF unaryR
 simp only [sees_F,mustBeR_F,primR_F]
 try rfl
theorem termR_F (g:Ru→Nat→Nat→(Except (Int×Int) (Ex×Nat))) (d:Nat):termRF (ofT ts) g d=termR ts g d:=by
 funext p
 unfold termRF termR
 simp only [chainR_F,unaryR_F]
 try rfl
theorem sumR_F (g:Ru→Nat→Nat→(Except (Int×Int) (Ex×Nat))) (d:Nat):sumRF (ofT ts) g d=sumR ts g d:=by
 funext p
 unfold sumRF sumR
 simp only [chainR_F,termR_F]
 try rfl
theorem cmpR_F (g:Ru→Nat→Nat→(Except (Int×Int) (Ex×Nat))) (d:Nat):cmpRF (ofT ts) g d=cmpR ts g d:=by
 funext p
 unfold cmpRF cmpR
 simp only [sees_F,joinR_F,sumR_F]
 try rfl
theorem andR_F (g:Ru→Nat→Nat→(Except (Int×Int) (Ex×Nat))) (d:Nat):andRF (ofT ts) g d=andR ts g d:=by
 funext p
 unfold andRF andR
 simp only [chainR_F,cmpR_F]
 try rfl
theorem orR_F (g:Ru→Nat→Nat→(Except (Int×Int) (Ex×Nat))) (d:Nat):orRF (ofT ts) g d=orR ts g d:=by
 funext p
 unfold orRF orR
 simp only [chainR_F,andR_F]
 try rfl
theorem impR_F (g:Ru→Nat→Nat→(Except (Int×Int) (Ex×Nat))) (d:Nat):impRF (ofT ts) g d=impR ts g d:=by
 funext p
 unfold impRF impR
 simp only [sees_F,orR_F]
 try rfl
theorem partR_F (g:Ru→Nat→Nat→(Except (Int×Int) (Ex×Nat))) (d:Nat):partRF (ofT ts) g d=partR ts g d:=by
 funext p
 unfold partRF partR
 simp only [txt_F,sees_F,impR_F]
 try rfl
theorem seqR_F (g:Ru→Nat→Nat→(Except (Int×Int) (Ex×Nat))) (d:Nat):seqRF (ofT ts) g d=seqR ts g d:=by
 funext p
 unfold seqRF seqR
 simp only [sees_F,partR_F]
 try rfl
theorem branchR_F (g:Ru→Nat→Nat→(Except (Int×Int) (Ex×Nat))) (d:Nat):branchRF (ofT ts) g d=branchR ts g d:=by
 funext p
 unfold branchRF branchR
 simp only [mustR_F]
 try rfl
theorem bindR_F (g:Ru→Nat→Nat→(Except (Int×Int) (Ex×Nat))) (d:Nat):bindRF (ofT ts) g d=bindR ts g d:=by
 funext p
 unfold bindRF bindR
 simp only [mustR_F,mustBeR_F]
 try rfl
theorem tryR_F (g:Ru→Nat→Nat→(Except (Int×Int) (Ex×Nat))) (d:Nat):tryRF (ofT ts) g d=tryR ts g d:=by
 funext p
 unfold tryRF tryR
 simp only [mustR_F,mustBeR_F]
 try rfl
theorem withinR_F (g:Ru→Nat→Nat→(Except (Int×Int) (Ex×Nat))) (d:Nat):withinRF (ofT ts) g d=withinR ts g d:=by
 funext p
 unfold withinRF withinR
 simp only [txt_F,seqR_F,branchR_F,bindR_F,tryR_F]
 try rfl
theorem begR_F:begRF (ofT ts)=begR ts:=by
 funext u p
 unfold begRF begR
 simp only [begU_F,begE_F]
 try rfl
theorem ruleR_F (g:Ru→Nat→Nat→(Except (Int×Int) (Ex×Nat))) (d:Nat):ruleRF (ofT ts) g d=ruleR ts g d:=by
 funext u p
 unfold ruleRF ruleR
 simp only [unaryR_F,impR_F,withinR_F]
 try rfl
theorem gR_F:∀ f,gRF (ofT ts) f=gR ts f
 |0=>rfl
 |f+1=>by
  funext u d p
  unfold gRF gR
  rw [gR_F f,ruleR_F,begR_F]
  rfl
theorem exR_F:exRF (ofT ts)=exR ts:=by
 funext p
 unfold exRF exR
 simp only [gR_F]
 try rfl
theorem endR_F:endRF (ofT ts)=endR ts:=by
 funext p
 unfold endRF endR
 simp only [bad_F]
 try rfl
theorem refR_F:refRF (ofT ts)=refR ts:=by
 funext p
 unfold refRF refR
 simp only [mustR_F,mustBeR_F,exR_F]
 try rfl
theorem typeR_F:typeRF (ofT ts)=typeR ts:=by
 funext p
 unfold typeRF typeR
 simp only [txt_F,sees_F,bad_F,refR_F]
 try rfl
theorem effR_F:effRF (ofT ts)=effR ts:=by
 funext p
 unfold effRF effR
 simp only [txt_F,bad_F]
 try rfl
theorem paramR_F:paramRF (ofT ts)=paramR ts:=by
 funext p
 unfold paramRF paramR
 simp only [mustR_F,mustBeR_F,typeR_F]
 try rfl
theorem paramsL_F:∀ n,paramsLF (ofT ts) n=paramsL ts n
 |0=>rfl
 |n+1=>by
  funext out p
  unfold paramsLF paramsL
  rw [paramsL_F n]
  simp only [sees_F,bad_F,paramR_F]
theorem paramsR_F:paramsRF (ofT ts)=paramsR ts:=by
 funext p
 unfold paramsRF paramsR
 simp only [paramsL_F]
 try rfl
theorem reqR_F:reqRF (ofT ts)=reqR ts:=by
 funext p
 unfold reqRF reqR
 simp only [sees_F,exR_F]
 try rfl
theorem ensR_F:ensRF (ofT ts)=ensR ts:=by
 funext p
 unfold ensRF ensR
 simp only [sees_F,mustR_F,mustBeR_F,exR_F]
 try rfl
theorem meaR_F:meaRF (ofT ts)=meaR ts:=by
 funext p
 unfold meaRF meaR
 simp only [sees_F,exprsR_F,exR_F]
 try rfl
theorem contR_F:contRF (ofT ts)=contR ts:=by
 funext p
 unfold contRF contR
 simp only [reqR_F,ensR_F,meaR_F]
 try rfl
theorem defR_F:defRF (ofT ts)=defR ts:=by
 funext p
 unfold defRF defR
 simp only [sees_F,mustR_F,mustBeR_F,exR_F,typeR_F,effR_F,paramsR_F,contR_F]
 try rfl
theorem cellR_F:cellRF (ofT ts)=cellR ts:=by
 funext p
 unfold cellRF cellR
 simp only [sees_F,mustR_F,mustBeR_F]
 try rfl
theorem declR_F:declRF (ofT ts)=declR ts:=by
 funext p
 unfold declRF declR
 simp only [sees_F,mustR_F,defR_F,cellR_F]
 try rfl
theorem progL_F:∀ n,progLF (ofT ts) n=progL ts n
 |0=>rfl
 |n+1=>by
  funext out p
  unfold progLF progL
  rw [progL_F n]
  simp only [sees_F,bad_F,declR_F]
theorem progR_F:progRF (ofT ts)=progR ts:=by
 funext p
 unfold progRF progR
 simp only [endR_F,progL_F]
 try rfl
theorem tD_F:tDF (ofT ts)=tD ts:=by
 funext st
 unfold tDF tD
 try rfl
theorem stepD_F:stepDF (ofT ts)=stepD ts:=by
 funext st
 unfold stepDF stepD
 try rfl
theorem isD_F:isDF (ofT ts)=isD ts:=by
 funext s st
 unfold isDF isD
 try rfl
theorem eatD_F:eatDF (ofT ts)=eatD ts:=by
 funext s st
 unfold eatDF eatD
 simp only [stepD_F,isD_F]
 try rfl
theorem mustD_F:mustDF (ofT ts)=mustD ts:=by
 funext s st
 unfold mustDF mustD
 simp only [tD_F,stepD_F,isD_F]
 try rfl
theorem nameD_F:nameDF (ofT ts)=nameD ts:=by
 funext st
 unfold nameDF nameD
 simp only [tD_F,stepD_F]
 try rfl
theorem argsD_F (g:Ru→PS→Ex×PS) (most:Nat):∀ n,argsDF (ofT ts) g most n=argsD ts g most n
 |0=>rfl
 |n+1=>by
  funext l st
  unfold argsDF argsD
  rw [argsD_F g most n]
  simp only [tD_F,stepD_F,isD_F,mustD_F]
theorem callD_F (g:Ru→PS→Ex×PS):callDF (ofT ts) g=callD ts g:=by
 funext n st
 unfold callDF callD
 simp only [stepD_F,isD_F,argsD_F]
 try rfl
theorem primD_F (g:Ru→PS→Ex×PS):primDF (ofT ts) g=primD ts g:=by
 funext st
 unfold primDF primD
 simp only [tD_F,stepD_F,isD_F,mustD_F,nameD_F,callD_F]
 try rfl
theorem unaryD_F (g:Ru→PS→Ex×PS):unaryDF (ofT ts) g=unaryD ts g:=by
 funext st
 unfold unaryDF unaryD
 simp only [tD_F,stepD_F,isD_F,nameD_F,primD_F]
 try rfl
theorem signD_F:∀ l,signDF (ofT ts) l=signD ts l
 |[]=>rfl
 |(s,o)::l=>by
  funext st
  unfold signDF signD
  rw [signD_F l]
  rfl
theorem chD_F (O:PS→Ex×PS) (signs:List (ByteArray×Int)) (once:Bool):∀ n,chDF (ofT ts) O signs once n=chD ts O signs once n
 |0=>rfl
 |n+1=>by
  funext a st
  unfold chDF chD
  rw [chD_F O signs once n]
  simp only [tD_F,stepD_F,signD_F]
  cases signD ts signs st <;> rfl
theorem levD_F:levDF (ofT ts)=levD ts:=by
 funext O signs once st
 unfold levDF levD
 simp only [chD_F]
 try rfl
theorem leftD_F (g:Ru→PS→Ex×PS):∀ k,leftDF (ofT ts) g k=leftD ts g k
 |0=>by
  funext st
  unfold leftDF leftD
  rw [unaryD_F]
 |k+1=>by
  funext st
  unfold leftDF leftD
  rw [leftD_F g k,levD_F]
theorem impD_F (g:Ru→PS→Ex×PS):impDF (ofT ts) g=impD ts g:=by
 funext st
 unfold impDF impD
 simp only [tD_F,stepD_F,isD_F,leftD_F]
 try rfl
theorem partD_F (g:Ru→PS→Ex×PS):partDF (ofT ts) g=partD ts g:=by
 funext st
 unfold partDF partD
 simp only [tD_F,stepD_F,isD_F,impD_F]
 try rfl
theorem ifD_F (g:Ru→PS→Ex×PS):ifDF (ofT ts) g=ifD ts g:=by
 funext at' st
 unfold ifDF ifD
 simp only [mustD_F]
 try rfl
theorem letD_F (g:Ru→PS→Ex×PS):letDF (ofT ts) g=letD ts g:=by
 funext at' st
 unfold letDF letD
 simp only [mustD_F,nameD_F]
 try rfl
theorem tryD_F (g:Ru→PS→Ex×PS):tryDF (ofT ts) g=tryD ts g:=by
 funext at' st
 unfold tryDF tryD
 simp only [mustD_F,nameD_F]
 try rfl
theorem innerD_F (g:Ru→PS→Ex×PS):innerDF (ofT ts) g=innerD ts g:=by
 funext st
 unfold innerDF innerD
 simp only [tD_F,stepD_F,isD_F,partD_F,ifD_F,letD_F,tryD_F]
 try rfl
theorem ruleD_F (g:Ru→PS→Ex×PS):ruleDF (ofT ts) g=ruleD ts g:=by
 funext u st
 unfold ruleDF ruleD
 simp only [unaryD_F,impD_F,innerD_F]
 try rfl
theorem gD_F:∀ f,gDF (ofT ts) f=gD ts f
 |0=>rfl
 |f+1=>by
  funext u st
  unfold gDF gD
  rw [gD_F f,ruleD_F]
theorem exD_F:exDF (ofT ts)=exD ts:=by
 funext st
 unfold exDF exD
 simp only [gD_F]
 try rfl
theorem typD_F:typDF (ofT ts)=typD ts:=by
 funext st
 unfold typDF typD
 simp only [tD_F,stepD_F,isD_F,mustD_F,nameD_F,exD_F]
 try rfl
theorem paramD_F:paramDF (ofT ts)=paramD ts:=by
 funext st
 unfold paramDF paramD
 simp only [stepD_F,mustD_F,nameD_F,typD_F]
 try rfl
theorem paramsD_F:∀ n,paramsDF (ofT ts) n=paramsD ts n
 |0=>rfl
 |n+1=>by
  funext l st
  unfold paramsDF paramsD
  rw [paramsD_F n]
  simp only [tD_F,isD_F,paramD_F]
theorem effD'_F:effD'F (ofT ts)=effD' ts:=by
 funext st
 unfold effD'F effD'
 simp only [tD_F,stepD_F,signD_F]
 try rfl
theorem reqD_F:reqDF (ofT ts)=reqD ts:=by
 funext st
 unfold reqDF reqD
 simp only [stepD_F,isD_F,exD_F]
 try rfl
theorem ensD_F:ensDF (ofT ts)=ensD ts:=by
 funext st
 unfold ensDF ensD
 simp only [stepD_F,isD_F,mustD_F,nameD_F,exD_F]
 try rfl
theorem meaL_F:∀ n,meaLF (ofT ts) n=meaL ts n
 |0=>rfl
 |n+1=>by
  funext l st
  unfold meaLF meaL
  rw [meaL_F n]
  simp only [stepD_F,isD_F,exD_F]
theorem meaD_F:meaDF (ofT ts)=meaD ts:=by
 funext st
 unfold meaDF meaD
 simp only [stepD_F,isD_F,exD_F,meaL_F]
 try rfl
theorem cellD_F:cellDF (ofT ts)=cellD ts:=by
 funext st
 unfold cellDF cellD
 simp only [tD_F,stepD_F,isD_F,eatD_F,mustD_F,nameD_F]
 try rfl
theorem defD_F:defDF (ofT ts)=defD ts:=by
 funext st
 unfold defDF defD
 simp only [isD_F,eatD_F,mustD_F,nameD_F,exD_F,typD_F,paramsD_F,effD'_F,reqD_F,ensD_F,meaD_F]
 try rfl
theorem declD_F:declDF (ofT ts)=declD ts:=by
 funext st
 unfold declDF declD
 simp only [stepD_F,isD_F,mustD_F,cellD_F,defD_F]
 try rfl
theorem progLD_F:∀ n,progLDF (ofT ts) n=progLD ts n
 |0=>rfl
 |n+1=>by
  funext l st
  unfold progLDF progLD
  rw [progLD_F n]
  simp only [tD_F,isD_F,declD_F]
theorem progD_F:progDF (ofT ts)=progD ts:=by
 unfold progDF progD
 simp only [progLD_F]
 try rfl
end
end Go.Proofs.YtfkfnbehdcmgeaaGreatDoor
namespace Go.Proofs.YtfkfnbehdcmgeaaGreatDoor
open Go Go.RowKit
section
variable (B:Nat→Nat) (n:Nat)
def neF:Nat→Nat→Nat
 |0,i=>i
 |f+1,i=>if i<n then (if isLe (B i) || isDi (B i) then neF f (i+1) else i) else i
def deF:Nat→Nat→Nat
 |0,i=>i
 |f+1,i=>if i<n then (if isDi (B i) then deF f (i+1) else i) else i
def cmF:Nat→Nat→Bool→Nat×Nat
 |0,_,_=>(0,2)
 |f+1,i,star=>if i<n then (if star && B i == 41 then (i+1,0) else cmF f (i+1) (B i == 42)) else (0,2)
def fitsF:Nat→List Nat→Bool
 |_,[]=>true
 |i,c::l=>decide (i<n) && B i == c && fitsF (i+1) l
def sgnF (i:Nat):Nat:=((signL.find? fun l=>fitsF B n i l).map List.length).getD 0
def pcF (i j:Nat):List Nat:=(List.range (j - i)).map fun q=>B (i+q)
def isWdF (i j:Nat):Bool:=wordL.any fun l=>pcF B i j == l.map UInt8.toNat
def rdNameF (i:Nat):Int×Nat×Option (Nat×Nat):=
 if 40<neF B n (n - i) i - i then (0,0,some (i,141))
 else if isWdF B i (neF B n (n - i) i) then (2,neF B n (n - i) i,none) else (1,neF B n (n - i) i,none)
def rdNumF (i:Nat):Int×Nat×Option (Nat×Nat):=
 if (B i == 48 && decide (1<deF B n (n - i) i - i))=true then (0,0,some (i,140))
 else if 400<deF B n (n - i) i - i then (0,0,some (i,141)) else (3,deF B n (n - i) i,none)
def rdCmtF (i:Nat):Int×Nat×Option (Nat×Nat):=
 if (cmF B n (n - (i+2)) (i+2) false).2=0 then (-1,(cmF B n (n - (i+2)) (i+2) false).1,none)
 else if (cmF B n (n - (i+2)) (i+2) false).2=1 then (0,0,some ((cmF B n (n - (i+2)) (i+2) false).1,140)) else (0,0,some (i,140))
def rdSignF (i:Nat):Int×Nat×Option (Nat×Nat):=
 if sgnF B n i=0 then (0,0,some (i,140)) else (4,i+sgnF B n i,none)
def rdF (i:Nat):Int×Nat×Option (Nat×Nat):=
 if isBl (B i) then (-1,i+1,none)
 else if isLe (B i) then rdNameF B n i
 else if isDi (B i) then rdNumF B n i
 else if fitsF B n i [40,42] then rdCmtF B n i
 else rdSignF B n i
def lxF:Nat→Nat→List (Int×Nat×Nat)×Option (Nat×Nat)
 |0,_=>([],none)
 |f+1,i=>if i<n then
   (match rdF B n i with
    |(_,_,some e)=>([],some e)
    |(k,j,none)=>match lxF f j with
     |(l,e)=>(if k = -1 then l else (k,i,j)::l,e))
  else ([],none)
end
theorem esz (s:ByteArray) (i j:Nat) (h1:i≤j) (h2:j≤s.size):(s.extract i j).size=j - i:=by
 rw [ByteArray.size_extract]
 omega
theorem u8_map:∀ (l m:List UInt8),l.map UInt8.toNat=m.map UInt8.toNat→l=m
 |[],[],_=>rfl
 |[],y::m,h=>by simp at h
 |x::l,[],h=>by simp at h
 |x::l,y::m,h=>by
  simp only [List.map_cons,List.cons.injEq] at h
  rw [UInt8.toNat_inj.1 h.1,u8_map l m h.2]
section
variable {s:ByteArray} {B:Nat→Nat} (hB:∀ i,i<s.size→By s i=B i∧B i<128)
include hB
theorem asc_F {i:Nat} (hi:i<s.size):rn s i=B i∧wd s i=1∧noR s i=false:=by
 obtain ⟨h1,h2⟩:=hB i hi
 have h3:By s i<128:=by omega
 exact ⟨(rn_ascii s i h3).1.trans h1,(rn_ascii s i h3).2,noR_ascii s i h3⟩
theorem ne_F:∀ f i,nameEnd s f i=neF B s.size f i
 |0,_=>rfl
 |f+1,i=>by
  unfold nameEnd neF
  split
  ·rename_i hi
   obtain ⟨h1,h2,h3⟩:=asc_F hB hi
   unfold inName
   rw [h1,h2,h3,ne_F f (i+1)]
   simp
  ·rfl
theorem de_F:∀ f i,digEnd s f i=deF B s.size f i
 |0,_=>rfl
 |f+1,i=>by
  unfold digEnd deF
  split
  ·rename_i hi
   rw [(asc_F hB hi).1,de_F f (i+1)]
  ·rfl
theorem cm_F:∀ f i b,cmt s f i b=cmF B s.size f i b
 |0,_,_=>rfl
 |f+1,i,b=>by
  unfold cmt cmF
  split
  ·rename_i hi
   obtain ⟨h1,h2,h3⟩:=asc_F hB hi
   rw [h1,h2,h3,cm_F f (i+1)]
   simp
  ·rfl
theorem fits_F:∀ (l:List Nat) i,fits s i l=fitsF B s.size i l
 |[],_=>rfl
 |c::l,i=>by
  unfold fits fitsF
  rw [fits_F l (i+1)]
  by_cases hi:i<s.size
  ·rw [(hB i hi).1]
  ·simp [hi]
theorem sgn_F (i:Nat):sgn s i=sgnF B s.size i:=by
 unfold sgn sgnF
 rw [show (fun l=>fits s i l)=(fun l=>fitsF B s.size i l) from funext fun l=>fits_F hB l i]
omit hB in
theorem ne_le (B:Nat→Nat) (n:Nat):∀ f i,i≤neF B n f i∧(i≤n→neF B n f i≤n)
 |0,i=>⟨Nat.le_refl _,fun h=>h⟩
 |f+1,i=>by
  unfold neF
  split
  ·rename_i hi
   split
   ·have:=ne_le B n f (i+1)
    exact ⟨by omega,fun _=>this.2 (by omega)⟩
   ·exact ⟨Nat.le_refl _,fun h=>h⟩
  ·exact ⟨Nat.le_refl _,fun h=>h⟩
theorem ext_F (i j:Nat) (hij:i≤j) (hj:j≤s.size):(s.extract i j).data.toList.map UInt8.toNat=pcF B i j:=by
 apply List.ext_getElem?
 intro q
 have h2:(s.extract i j).data.toList.length=j - i:=by
  have:=esz s i j hij hj
  rw [Array.length_toList]
  exact this
 by_cases hq:q<j - i
 ·have h1:q<(s.extract i j).data.toList.length:=by omega
  unfold pcF
  rw [List.getElem?_map,List.getElem?_map,List.getElem?_range hq,List.getElem?_eq_getElem h1]
  simp only [Option.map_some,Option.some.injEq]
  rw [←(hB (i+q) (by omega)).1]
  unfold By
  rw [get_lt s (i+q) (by omega)]
  have:=ByteArray.getElem_extract (start:=i) (stop:=j) (b:=s) (i:=q) (h:=by have:=esz s i j hij hj;omega)
  rw [←this]
  simp [ByteArray.getElem_eq_getElem_data]
 ·rw [List.getElem?_eq_none (by rw [List.length_map,h2];omega),List.getElem?_eq_none (by unfold pcF;simp;omega)]
theorem isWd_F (i j:Nat) (hij:i≤j) (hj:j≤s.size):isWd (s.extract i j)=isWdF B i j:=by
 unfold isWd isWdF
 congr 1
 funext l
 rw [←ext_F hB i j hij hj,Bool.eq_iff_iff]
 simp only [beq_iff_eq]
 exact ⟨fun h=>by rw [h],fun h=>u8_map _ _ h⟩
theorem rd_F {i:Nat} (hi:i<s.size):rd s i=rdF B s.size i:=by
 obtain ⟨h1,h2,h3⟩:=asc_F hB hi
 unfold rd rdF
 rw [h1,h3,fits_F hB]
 have a1:rdName s i=rdNameF B s.size i:=by
  unfold rdName rdNameF
  rw [ne_F hB]
  have:=ne_le B s.size (s.size - i) i
  rw [isWd_F hB i _ this.1 (this.2 (by omega))]
 have a2:rdNum s i=rdNumF B s.size i:=by
  unfold rdNum rdNumF
  rw [de_F hB,(hB i hi).1]
 have a3:rdCmt s i=rdCmtF B s.size i:=by
  unfold rdCmt rdCmtF
  rw [cm_F hB]
 have a4:rdSign s i=rdSignF B s.size i:=by
  unfold rdSign rdSignF
  rw [sgn_F hB]
 rw [a1,a2,a3,a4]
 rfl
theorem lx_F:∀ f i,lx s f i=lxF B s.size f i
 |0,_=>rfl
 |f+1,i=>by
  unfold lx lxF
  split
  ·rename_i hi
   rw [rd_F hB hi]
   rcases rdF B s.size i with ⟨k,j,_ | e⟩
   ·simp only
    rw [lx_F f j]
   ·rfl
  ·rfl
end
def NF (M:Nat→(Int×ByteArray×Int)) (m n:Nat) (p:Nat):(Int×ByteArray×Int):=if p<m then M p else (0,⟨#[]⟩,if p=m then (n:Int) else 0)
def ckL (B:Nat→Nat) (M:Nat→(Int×ByteArray×Int)) (m n:Nat):List (Int×Nat×Nat)→Nat→Bool
 |[],p=>p == m
 |(k,i,j)::l,p=>decide ((M p).1=k) && decide ((M p).2.2=(i:Int)) && ((M p).2.1.data.toList.map UInt8.toNat == pcF B i j) && decide (i≤j) && decide (j≤n) && ckL B M m n l (p+1)
def ckTok (B:Nat→Nat) (M:Nat→(Int×ByteArray×Int)) (m n:Nat):Bool:=match lxF B n n 0 with
 |(l,none)=>ckL B M m n l 0
 |(_,some _)=>false
theorem ckL_ok {s:ByteArray} {B:Nat→Nat} {M:Nat→(Int×ByteArray×Int)} {m:Nat} (hB:∀ i,i<s.size→By s i=B i∧B i<128):∀ (l:List (Int×Nat×Nat)) (p:Nat),ckL B M m s.size l p=true→p+l.length=m∧∀ q,(l.map (fun x=>(x.1,s.extract x.2.1 x.2.2,(x.2.1:Int))))[q]?=if q<l.length then some (M (p+q)) else none
 |[],p,h=>by
  unfold ckL at h
  exact ⟨by simpa using h,fun q=>by simp⟩
 |(k,i,j)::l,p,h=>by
  unfold ckL at h
  simp only [Bool.and_eq_true,decide_eq_true_eq,beq_iff_eq] at h
  obtain ⟨⟨⟨⟨⟨h1,h2⟩,h3⟩,h4⟩,h5⟩,h6⟩:=h
  obtain ⟨h7,h8⟩:=ckL_ok hB l (p+1) h6
  refine ⟨by simp only [List.length_cons];omega,fun q => ?_⟩
  cases q with
  |zero =>
   have e:s.extract i j=(M p).2.1:=by
    have:=ext_F hB i j h4 h5
    rw [←h3] at this
    have h9:=u8_map _ _ this
    apply ByteArray.ext
    apply Array.ext'
    exact h9
   simp only [List.map_cons,List.getElem?_cons_zero,List.length_cons,Nat.zero_lt_succ,if_true,Nat.add_zero]
   rw [e,←h1,←h2]
  |succ q =>
   simp only [List.map_cons,List.getElem?_cons_succ,List.length_cons]
   rw [h8 q,show p+1+q=p+(q+1) by omega]
   by_cases hq:q<l.length
   ·rw [if_pos hq,if_pos (by omega)]
   ·rw [if_neg hq,if_neg (by omega)]
theorem tk_F {s:ByteArray} {B:Nat→Nat} {M:Nat→(Int×ByteArray×Int)} {m n:Nat} (hB:∀ i,i<s.size→By s i=B i∧B i<128) (hn:s.size=n) (hs:n≤65536) (h:ckTok B M m n=true):(tk s).2=none∧ofT (tkL s)=⟨NF M m n,m+1⟩:=by
 subst hn
 have e:tk s=lxF B s.size s.size 0:=by
  unfold tk
  rw [if_neg (by omega),lx_F hB]
 unfold ckTok at h
 split at h
 ·rename_i l hl
  obtain ⟨h1,h2⟩:=ckL_ok hB l 0 h
  have hm:l.length=m:=by omega
  have e1:(tk s).1=l:=by rw [e,hl]
  have e2:(tk s).2=none:=by rw [e,hl]
  refine ⟨e2,?_⟩
  unfold ofT tkL
  rw [e1]
  congr 1
  ·funext p
   unfold nx NF
   rw [List.getD_eq_getElem?_getD]
   by_cases hp:p<m
   ·rw [List.getElem?_append_left (by simp;omega),h2 p,if_pos (by omega),if_pos hp,Nat.zero_add]
    rfl
   ·rw [List.getElem?_append_right (by simp;omega),if_neg hp,List.length_map,hm]
    by_cases hq:p=m
    ·subst hq
     simp
    ·rw [if_neg hq,List.getElem?_eq_none (by simp;omega)]
     rfl
  ·simp [hm]
 ·cases h
end Go.Proofs.YtfkfnbehdcmgeaaGreatDoor
