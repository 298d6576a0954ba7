/- Places; slices of bytes that are made and filled; the document's words. -/
import Derived.Test.YtfkfnbehdcmgeaaGreatDoorZAA
import Derived.Laws.AppendOwn
import Derived.LaidEql
import Derived.Stop.Asserts
import Derived.RowKitTokens
import Derived.BigRegion
import Derived.BigQuiet
import Derived.Deep.QuietTactic
import Derived.Lib.Walk
set_option linter.unusedVariables false
set_option linter.unusedSimpArgs false
namespace Go.Proofs.YtfkfnbehdcmgeaaGreatDoor
open Go Go.RowKit
theorem open_rest (s:ByteArray) (i:Nat) (w:World):Calls Tryz.prog 84 #[.string (s.extract i s.size),.string ⟨#[40,42]⟩] w fun e w'=>e = .returned (.bool (fits s i [40,42]))∧w'=w:=by
 have h:=Tryz.strings_HasPrefix (s.extract i s.size) ⟨#[40,42]⟩ w
 rw [hasPrefix_rest] at h
 exact h
theorem fits_two (s:ByteArray) (i a b:Nat) (h:fits s i [a,b]=true):i+2≤s.size:=by
 unfold fits at h
 simp [fits] at h
 omega
set_option maxRecDepth 100000 in
set_option maxHeartbeats 16000000 in
theorem read_any (s:ByteArray) (i:Nat) (hi:i<s.size) (hs:s.size≤65536) (w:World) (hG:SG w):Calls Tryz.prog 62 #[.string s,.int .i64 i,.int .i32 (rn s i)] w (RdP (rd s i) w):=by
 have hiz:(i:Int)≤(s.size:Int):=by omega
 have cR:=noRune_at s i
 have cB:=isBlank_any (rn s i)
 have cL:=isLetter_any (rn s i)
 have cD:=isDigit_any (rn s i)
 have cO:=open_rest s i
 have cN:=readName_any s i hi hs w
 have cM:=readNumber_any s i hi hs w
 have cS:=readSign_any s i hi hs w hG
 have cC:=fun h=>readComment_any s i h hs w
 have hG:=gh hG
 unfold rd
 obtain ⟨r,hr⟩:∃ r,rn s i=r:=⟨_,rfl⟩
 rw [hr] at cR cB cL cD ⊢
 have hr:=gh hr
 cases h0:noR s i with
 |true =>
  rw [if_pos rfl]
  rw [h0] at cR
  go_enter Tryz.func62,Tryz.ntmps62
  go_wp2_with (first | (refine (cR _).mono ?_;rintro e w2 ⟨rfl,rfl⟩) | (refine (refuse_any _ _ _).mono ?_;rintro e w3 ⟨rfl,rfl⟩))
  go_ret3
  exact RdP.err (Below.refl _ _)
 |false =>
  rw [if_neg Bool.false_ne_true]
  rw [h0] at cR
  cases h1:isBl r with
  |true =>
   rw [if_pos rfl]
   rw [h1] at cB
   go_enter Tryz.func62,Tryz.ntmps62
   go_wp2_with (first | (refine (cR _).mono ?_;rintro e w2 ⟨rfl,rfl⟩) | (refine (cB _).mono ?_;rintro e w3 ⟨rfl,rfl⟩))
   go_ret3
   exact RdP.ok2 (Below.refl _ _) (by omega) rfl
  |false =>
   rw [if_neg Bool.false_ne_true]
   rw [h1] at cB
   cases h2:isLe r with
   |true =>
    rw [if_pos rfl]
    rw [h2] at cL
    go_enter Tryz.func62,Tryz.ntmps62
    go_wp2_with (first | (refine (cR _).mono ?_;rintro e w2 ⟨rfl,rfl⟩) | (refine (cB _).mono ?_;rintro e w3 ⟨rfl,rfl⟩) | (refine (cL _).mono ?_;rintro e w3 ⟨rfl,rfl⟩) | (refine cN.mono ?_;rintro e w4 ⟨hb,⟨hx,rfl⟩ | ⟨a,n,b,hx,hbb,rfl,hc⟩⟩))
    ·go_ret3
     exact ⟨hb,.inl ⟨hx,rfl⟩⟩
    ·go_ret3
     exact ⟨hb,.inr ⟨a,n,b,hx,hbb,rfl,hc⟩⟩
   |false =>
    rw [if_neg Bool.false_ne_true]
    rw [h2] at cL
    cases h3:isDi r with
    |true =>
     rw [if_pos rfl]
     rw [h3] at cD
     go_enter Tryz.func62,Tryz.ntmps62
     go_wp2_with (first | (refine (cR _).mono ?_;rintro e w2 ⟨rfl,rfl⟩) | (refine (cB _).mono ?_;rintro e w3 ⟨rfl,rfl⟩) | (refine (cL _).mono ?_;rintro e w3 ⟨rfl,rfl⟩) | (refine (cD _).mono ?_;rintro e w3 ⟨rfl,rfl⟩) | (refine cM.mono ?_;rintro e w4 ⟨hb,⟨hx,rfl⟩ | ⟨a,n,b,hx,hbb,rfl,hc⟩⟩))
     ·go_ret3
      exact ⟨hb,.inl ⟨hx,rfl⟩⟩
     ·go_ret3
      exact ⟨hb,.inr ⟨a,n,b,hx,hbb,rfl,hc⟩⟩
    |false =>
     rw [if_neg Bool.false_ne_true]
     rw [h3] at cD
     cases h4:fits s i [40,42] with
     |true =>
      rw [if_pos rfl]
      rw [h4] at cO
      have cC:=cC (fits_two s i 40 42 h4)
      go_enter Tryz.func62,Tryz.ntmps62
      go_wp2_with (first | (refine (cR _).mono ?_;rintro e w2 ⟨rfl,rfl⟩) | (refine (cB _).mono ?_;rintro e w3 ⟨rfl,rfl⟩) | (refine (cL _).mono ?_;rintro e w3 ⟨rfl,rfl⟩) | (refine (cD _).mono ?_;rintro e w3 ⟨rfl,rfl⟩) | (refine (cO _).mono ?_;rintro e w3 ⟨rfl,rfl⟩) | (refine cC.mono ?_;rintro e w4 ⟨hb,⟨hx,rfl⟩ | ⟨a,n,b,hx,hbb,rfl,hc⟩⟩))
      ·go_ret3
       exact ⟨hb,.inl ⟨hx,rfl⟩⟩
      ·go_ret3
       exact ⟨hb,.inr ⟨a,n,b,hx,hbb,rfl,hc⟩⟩
     |false =>
      rw [if_neg Bool.false_ne_true]
      rw [h4] at cO
      go_enter Tryz.func62,Tryz.ntmps62
      go_wp2_with (first | (refine (cR _).mono ?_;rintro e w2 ⟨rfl,rfl⟩) | (refine (cB _).mono ?_;rintro e w3 ⟨rfl,rfl⟩) | (refine (cL _).mono ?_;rintro e w3 ⟨rfl,rfl⟩) | (refine (cD _).mono ?_;rintro e w3 ⟨rfl,rfl⟩) | (refine (cO _).mono ?_;rintro e w3 ⟨rfl,rfl⟩) | (refine cS.mono ?_;rintro e w4 ⟨hb,⟨hx,rfl⟩ | ⟨a,n,b,hx,hbb,rfl,hc⟩⟩))
      ·go_ret3
       exact ⟨hb,.inl ⟨hx,rfl⟩⟩
      ·go_ret3
       exact ⟨hb,.inr ⟨a,n,b,hx,hbb,rfl,hc⟩⟩
def adv (s:ByteArray):Nat→Nat→Nat
 |0,p=>p
 |k+1,p=>adv s k (p+wd s p)
def Reach (s:ByteArray) (p q:Nat):Prop:=∃ k,adv s k p=q
theorem Reach.refl (s:ByteArray) (p:Nat):Reach s p p:=⟨0,rfl⟩
theorem Reach.step {s:ByteArray} {p q:Nat} (h:Reach s (p+wd s p) q):Reach s p q:=by
 obtain ⟨k,h⟩:=h
 exact ⟨k+1,h⟩
theorem adv_le (s:ByteArray):∀ k p,p≤adv s k p:=by
 intro k
 induction k with
 |zero=>intro p;exact Nat.le_refl _
 |succ k ih=>intro p;unfold adv;have:=ih (p+wd s p);omega
theorem Reach.le {s:ByteArray} {p q:Nat} (h:Reach s p q):p≤q:=by
 obtain ⟨k,rfl⟩:=h
 exact adv_le s k p
theorem Reach.next {s:ByteArray} {p q:Nat} (h:Reach s p q) (hlt:p<q):Reach s (p+wd s p) q:=by
 obtain ⟨k,h⟩:=h
 cases k with
 |zero=>exact absurd h (by unfold adv;omega)
 |succ k=>exact ⟨k,h⟩
theorem reach_ascii {s:ByteArray} {p q:Nat} (hb:By s p<128) (h:Reach s (p+1) q):Reach s p q:=by
 apply Reach.step
 rw [(rn_ascii s p hb).2]
 exact h
theorem reach_name (s:ByteArray):∀ f p,Reach s p (nameEnd s f p):=by
 intro f
 induction f with
 |zero=>intro p;exact Reach.refl s p
 |succ f ih =>
  intro p
  unfold nameEnd
  by_cases h0:p<s.size
  ·rw [if_pos h0]
   cases inName s p with
   |true=>rw [if_pos rfl];exact Reach.step (ih _)
   |false=>rw [if_neg Bool.false_ne_true];exact Reach.refl s p
  ·rw [if_neg h0];exact Reach.refl s p
theorem reach_dig (s:ByteArray):∀ f p,Reach s p (digEnd s f p):=by
 intro f
 induction f with
 |zero=>intro p;exact Reach.refl s p
 |succ f ih =>
  intro p
  unfold digEnd
  by_cases h0:p<s.size
  ·rw [if_pos h0]
   cases hd:isDi (rn s p) with
   |true =>
    rw [if_pos rfl]
    apply Reach.step
    rw [isDi_wd s p hd]
    exact ih _
   |false=>rw [if_neg Bool.false_ne_true];exact Reach.refl s p
  ·rw [if_neg h0];exact Reach.refl s p
theorem reach_cmt (s:ByteArray):∀ f p b,(cmt s f p b).2=0→Reach s p (cmt s f p b).1∧(cmt s f p b).1≤s.size:=by
 intro f
 induction f with
 |zero=>intro p b h;unfold cmt at h;exact absurd h (by decide)
 |succ f ih =>
  intro p b h
  unfold cmt at h ⊢
  by_cases h0:p<s.size
  ·rw [if_pos h0] at h ⊢
   cases hn:noR s p with
   |true=>rw [hn,if_pos rfl] at h;exact absurd h (by simp)
   |false =>
    rw [hn,if_neg Bool.false_ne_true] at h
    rw [if_neg Bool.false_ne_true]
    cases hc:(b && rn s p == 41) with
    |true =>
     rw [if_pos rfl]
     have h41:rn s p=41:=by simp at hc;exact hc.2
     refine ⟨?_,by simp only;omega⟩
     apply Reach.step
     rw [(rn_low s p (by omega)).2]
     exact Reach.refl s _
    |false =>
     rw [hc,if_neg Bool.false_ne_true] at h
     rw [if_neg Bool.false_ne_true]
     have:=ih _ _ h
     exact ⟨Reach.step this.1,this.2⟩
  ·rw [if_neg h0] at h;exact absurd h (by simp)
theorem reach_fits (s:ByteArray):∀ (l:List Nat) p,(∀ c∈l,c<128)→fits s p l=true→Reach s p (p+l.length)∧(l≠[]→p+l.length≤s.size):=by
 intro l
 induction l with
 |nil=>intro p _ _;exact ⟨Reach.refl s p,fun h=>absurd rfl h⟩
 |cons c l ih =>
  intro p hc h
  unfold fits at h
  simp only [Bool.and_eq_true,decide_eq_true_eq,beq_iff_eq] at h
  obtain ⟨⟨h0,h1⟩,h2⟩:=h
  have:=ih (p+1) (fun x hx=>hc x (List.mem_cons_of_mem _ hx)) h2
  rw [List.length_cons,show p+(l.length+1)=p+1+l.length by omega]
  refine ⟨reach_ascii (by rw [h1];exact hc c (List.mem_cons_self ..)) this.1,fun _ => ?_⟩
  cases l with
  |nil=>simp;omega
  |cons d l=>exact this.2 (by simp)
theorem sgn_fits (s:ByteArray) (i:Nat) (h:sgn s i≠0):∃ l∈signL,fits s i l=true∧sgn s i=l.length:=by
 unfold sgn at h ⊢
 cases hf:signL.find? (fun l=>fits s i l) with
 |none=>rw [hf] at h;exact absurd rfl h
 |some l=>exact ⟨l,List.mem_of_find?_eq_some hf,List.find?_some hf,rfl⟩
theorem sign_ascii:∀ l∈signL,(∀ c∈l,c<128)∧l≠[]:=by decide
theorem rd_reach (s:ByteArray) (i:Nat) (hi:i<s.size) (h:(rd s i).2.2=none):Reach s (i+wd s i) (rd s i).2.1∧(rd s i).2.1≤s.size∧i<(rd s i).2.1:=by
 have key:∀ j,Reach s i j→i<j→j≤s.size→Reach s (i+wd s i) j∧j≤s.size∧i<j:=fun j h1 h2 h3=>⟨h1.next h2,h3,h2⟩
 unfold rd at h ⊢
 cases h0:noR s i with
 |true=>rw [h0,if_pos rfl] at h;cases h
 |false =>
  rw [h0,if_neg Bool.false_ne_true] at h
  rw [if_neg Bool.false_ne_true]
  cases h1:isBl (rn s i) with
  |true =>
   rw [if_pos rfl]
   refine key _ ?_ (Nat.lt_succ_self _) hi
   have hl:rn s i<128:=by unfold isBl at h1;simp at h1;omega
   apply Reach.step
   rw [(rn_low s i hl).2]
   exact Reach.refl s _
  |false =>
   rw [h1,if_neg Bool.false_ne_true] at h
   rw [if_neg Bool.false_ne_true]
   cases h2:isLe (rn s i) with
   |true =>
    rw [h2,if_pos rfl] at h
    rw [if_pos rfl]
    have hy:inName s i=true:=by unfold inName;rw [h0,h2];rfl
    have hk:i<nameEnd s (s.size - i) i:=by
     obtain ⟨g,hg⟩:∃ g,s.size - i=g+1:=⟨s.size - i - 1,by omega⟩
     rw [hg]
     unfold nameEnd
     rw [if_pos hi,if_pos hy]
     have:=nameEnd_le s g (i+wd s i) (wd_le s i hi)
     have:=wd_pos s i
     omega
    have hq:=key _ (reach_name s (s.size - i) i) hk (nameEnd_le s (s.size - i) i (by omega)).2
    unfold rdName at h ⊢
    by_cases h3:40<nameEnd s (s.size - i) i - i
    ·rw [if_pos h3] at h;cases h
    ·rw [if_neg h3]
     cases isWd (s.extract i (nameEnd s (s.size - i) i)) with
     |true=>rw [if_pos rfl];exact hq
     |false=>rw [if_neg Bool.false_ne_true];exact hq
   |false =>
    rw [h2,if_neg Bool.false_ne_true] at h
    rw [if_neg Bool.false_ne_true]
    cases h3:isDi (rn s i) with
    |true =>
     rw [h3,if_pos rfl] at h
     rw [if_pos rfl]
     have hk:i<digEnd s (s.size - i) i:=by
      obtain ⟨g,hg⟩:∃ g,s.size - i=g+1:=⟨s.size - i - 1,by omega⟩
      rw [hg]
      unfold digEnd
      rw [if_pos hi,if_pos h3]
      have:=digEnd_le s g (i+1) hi
      omega
     have hq:=key _ (reach_dig s (s.size - i) i) hk (digEnd_le s (s.size - i) i (by omega)).2
     unfold rdNum at h ⊢
     by_cases h4:(By s i == 48 && decide (1<digEnd s (s.size - i) i - i))=true
     ·rw [if_pos h4] at h;cases h
     ·rw [if_neg h4] at h ⊢
      by_cases h5:400<digEnd s (s.size - i) i - i
      ·rw [if_pos h5] at h;cases h
      ·rw [if_neg h5];exact hq
    |false =>
     rw [h3,if_neg Bool.false_ne_true] at h
     rw [if_neg Bool.false_ne_true]
     cases h4:fits s i [40,42] with
     |true =>
      rw [h4,if_pos rfl] at h
      rw [if_pos rfl]
      unfold rdCmt at h ⊢
      by_cases h5:(cmt s (s.size - (i+2)) (i+2) false).2=0
      ·rw [if_pos h5]
       have hc:=reach_cmt s _ _ _ h5
       have h40:By s i=40∧By s (i+1)=42:=by
        unfold fits at h4
        simp [fits] at h4
        exact ⟨h4.1.2,h4.2.2⟩
       have hle:=hc.1.le
       exact key _ (reach_ascii (by omega) (reach_ascii (by omega) hc.1)) (show i<(cmt s (s.size - (i+2)) (i+2) false).1 by omega) hc.2
      ·rw [if_neg h5] at h
       split at h <;> cases h
     |false =>
      rw [h4,if_neg Bool.false_ne_true] at h
      rw [if_neg Bool.false_ne_true]
      unfold rdSign at h ⊢
      by_cases h5:sgn s i=0
      ·rw [if_pos h5] at h;cases h
      ·rw [if_neg h5]
       obtain ⟨l,hl,hf,e⟩:=sgn_fits s i h5
       have hr:=reach_fits s l i (sign_ascii l hl).1 hf
       rw [←e] at hr
       exact key _ hr.1 (show i<i+sgn s i by omega) (hr.2 (sign_ascii l hl).2)
theorem lx_end (s:ByteArray) (f i:Nat) (h:¬ i<s.size):lx s f i=([],none):=by
 cases f with
 |zero=>rfl
 |succ f=>unfold lx;rw [if_neg h]
theorem lx_err (s:ByteArray) {f i:Nat} {e:Nat×Nat} (hf:s.size≤i+f) (hi:i<s.size) (h:(rd s i).2.2=some e):lx s f i=([],some e):=by
 obtain ⟨g,rfl⟩:∃ g,f=g+1:=⟨f - 1,by omega⟩
 unfold lx
 rw [if_pos hi,h]
theorem lx_gap (s:ByteArray) {f i:Nat} (hf:s.size≤i+f) (hi:i<s.size) (h:(rd s i).2.2=none) (hk:(rd s i).1 = -1):lx s f i=lx s (f - 1) (rd s i).2.1:=by
 obtain ⟨g,rfl⟩:∃ g,f=g+1:=⟨f - 1,by omega⟩
 conv=>lhs;unfold lx
 rw [if_pos hi,h]
 simp only [hk,if_true]
 rfl
theorem lx_tok (s:ByteArray) {f i:Nat} (hf:s.size≤i+f) (hi:i<s.size) (h:(rd s i).2.2=none) (hk:(rd s i).1 ≠ -1):lx s f i=(((rd s i).1,i,(rd s i).2.1)::(lx s (f - 1) (rd s i).2.1).1,(lx s (f - 1) (rd s i).2.1).2):=by
 obtain ⟨g,rfl⟩:∃ g,f=g+1:=⟨f - 1,by omega⟩
 conv=>lhs;unfold lx
 rw [if_pos hi,h]
 simp only [hk,if_false]
 rfl
def tk (s:ByteArray):List (Int×Nat×Nat)×Option (Nat×Nat):=if 65536<s.size then ([],some (65536,141)) else lx s s.size 0
theorem lx_len (s:ByteArray):∀ f i,(lx s f i).1.length≤f:=by
 intro f
 induction f with
 |zero=>intro i;exact Nat.le_refl _
 |succ f ih =>
  intro i
  unfold lx
  by_cases hi:i<s.size
  ·rw [if_pos hi]
   cases (rd s i).2.2 with
   |some e=>simp
   |none =>
    simp only
    have:=ih (rd s i).2.1
    split
    ·omega
    ·simp;omega
  ·rw [if_neg hi];simp
def tokC (s:ByteArray) (x:Int×Nat×Nat):List Value:=[.int .i64 x.1,.string (s.extract x.2.1 x.2.2),.int .i64 x.2.1]
def toks (s:ByteArray) (l:List (Int×Nat×Nat)):List Value:=l.flatMap (tokC s)
theorem toks_app (s:ByteArray) (l:List (Int×Nat×Nat)) (x:Int×Nat×Nat):toks s (l++[x])=toks s l++tokC s x:=by
 unfold toks
 rw [List.flatMap_append]
 simp
theorem own_nil (w:World) (B k:Nat) (t:TypeId):w.ownsRow B t k (.slice none 0 0) 0 []:=⟨by simp,.inl ⟨rfl,rfl⟩⟩
theorem own_same {w w':World} {B e size n:Nat} {v:Value} {xs:List Value} (h:w.ownsRow B e size v n xs) (hb:Below w.heap.size w w'):w'.ownsRow B e size v n xs:=by
 obtain ⟨h1,h2 | ⟨g,cap,cur,e1,e2,e3,e4⟩⟩:=h
 ·exact ⟨h1,.inl h2⟩
 ·exact ⟨h1,.inr ⟨g,cap,cur,e1,e2,by rw [hb.block g (Array.getElem?_eq_some_iff.1 e3).1];exact e3,e4⟩⟩
theorem own_iter {w:World} {B e size n k p:Nat} {s:ByteArray} {v:Value} {xs:List Value} (h:w.ownsRow B e size v n xs) (hk:k<B):(w.iterAt k s p).ownsRow B e size v n xs:=by
 obtain ⟨h1,h2 | ⟨g,cap,cur,e1,e2,e3,e4⟩⟩:=h
 ·exact ⟨h1,.inl h2⟩
 ·exact ⟨h1,.inr ⟨g,cap,cur,e1,e2,by rw [Lib.iterAt_other w k g s p (by omega)];exact e3,e4⟩⟩
theorem app_run {ops:Array Oper} {rest:List Oper} {o:Oper} {a:Act} {Q:Exit→Act→World→Prop} {w w':World} {v u v':Value} (s x:Operand) (t:TypeId) (ho:o.op = .call { callee:=.builtin .append,args:=#[s,x],argTypes:=#[t,t] }) (hs:a.eval s=v) (hx:a.eval x=u) (hw:Region.wanted o (yielded ops a.tmps)=true) (hr:(Builtin.append_ #[t,t] o.type #[v,u]).run Tryz.prog w = .ok v' w') (h:wpList Tryz.prog ops Q rest (a.put o.dst v') w'):wpList Tryz.prog ops Q (o::rest) a w:=by
 unfold wpList
 rw [if_pos hw]
 left
 unfold Oper.wp execOp
 simp only [ho,resolve,invoke,builtin,Sem.run_bind,Sem.run_pure,Result.andThen_ok,List.map_toArray,List.map_cons,List.map_nil,hs,hx,hr]
 exact h
theorem app_tok {w:World} {B n:Nat} {v:Value} {xs:List Value} {b:Nat} (k:Int) (t:ByteArray) (i:Int) (ty:TypeId) (hown:w.ownsRow B 74 3 v n xs) (hn:n≤100000) (hB:B≤w.heap.size)
  (h0:w.cell? ⟨b,0,none⟩=some (.int .i64 k)) (h1:w.cell? ⟨b,1,none⟩=some (.string t)) (h2:w.cell? ⟨b,2,none⟩=some (.int .i64 i)) :
  ∃ v' w',(Builtin.append_ #[67,67] ty #[v,.slice (some ⟨b,0,none⟩) 1 1]).run Tryz.prog w = .ok v' w'∧w'.ownsRow B 74 3 v' (n+1) (xs++[.int .i64 k,.string t,.int .i64 i])∧w.grownBy w' v.ownBlock:=by
 obtain ⟨v',w',hr,ho,hg,_⟩:=run_append_own (P:=Tryz.prog) w B 67 ty 74 Tryz.t74 (.agg #[.int .i64 0,.string ⟨#[]⟩,.int .i64 0]) 3 32 Tryz.underlying67 (by kernel_rfl) (by kernel_rfl) (by kernel_rfl) (by kernel_rfl) rfl (by decide) v n xs hown ⟨b,0,none⟩ 1 1 [.int .i64 k,.string t,.int .i64 i] rfl (fun j u hj=>by
   match j,hj with
   |0,hj=>obtain rfl:=Option.some.inj hj;exact h0
   |1,hj=>obtain rfl:=Option.some.inj hj;exact h1
   |2,hj=>obtain rfl:=Option.some.inj hj;exact h2
   |j+3,hj=>cases hj) (fun u hu=>by
   simp at hu
   rcases hu with rfl | rfl | rfl <;> rfl) (by unfold maxLen;omega) (by omega) hB
 exact ⟨v',w',hr,ho,hg⟩
def TkP (s:ByteArray) (r:List (Int×Nat×Nat)×Option (Nat×Nat)) (w:World) (e:Ending) (w':World):Prop:=
 Below w.heap.size w w'∧((r.2=none∧∃ v,e = .returned (.tuple #[v,.nilIface])∧w'.ownsRow w.heap.size 74 3 v (r.1.length+1) (toks s r.1++[.int .i64 0,.string ⟨#[]⟩,.int .i64 s.size])) ∨
  ∃ (a n b:Nat),r.2=some (a,n)∧w.heap.size≤b∧e = .returned (.tuple #[.slice none 0 0,.iface 61 (.pointer (some ⟨b,0,none⟩))])∧w'.heap[b]?=some (.cells #[.int .i64 a,.int .i64 n] 66))
def TkI (s:ByteArray) (r:List (Int×Nat×Nat)×Option (Nat×Nat)) (w:World) (ov:Value) (wr:World) (pos nxt fuel:Nat) (done:List (Int×Nat×Nat)):Prop:=
 wr.heap[w.heap.size]?=some (.stringIter s pos)∧Below w.heap.size w wr∧wr.ownsRow (w.heap.size+1) 74 3 ov done.length (toks s done)∧done++(lx s fuel nxt).1=r.1∧(lx s fuel nxt).2=r.2∧s.size≤nxt+fuel∧Reach s pos nxt∧nxt≤s.size
theorem rdp_ok {k:Int} {j:Nat} {w w':World} {e:Ending} (h:RdP (k,j,none) w e w'):Below w.heap.size w w'∧e = .returned (.tuple #[.int .i64 k,.int .i64 j,.pointer none]):=by
 obtain ⟨hb,⟨_,h⟩ | ⟨a,n,b,hx,_⟩⟩:=h
 ·exact ⟨hb,h⟩
 ·cases hx
theorem rdp_err {k:Int} {j a n:Nat} {w w':World} {e:Ending} (h:RdP (k,j,some (a,n)) w e w'):Below w.heap.size w w'∧∃ b,w.heap.size≤b∧e = .returned (.tuple #[.int .i64 0,.int .i64 0,.pointer (some ⟨b,0,none⟩)])∧w'.heap[b]?=some (.cells #[.int .i64 a,.int .i64 n] 66):=by
 obtain ⟨hb,⟨h,_⟩ | ⟨a2,n2,b,hx,h1,h2,h3⟩⟩:=h
 ·cases h
 ·obtain ⟨rfl,rfl⟩:a=a2∧n=n2:=by simpa using hx
  exact ⟨hb,b,h1,h2,h3⟩
theorem tok_new {w:World} {B n:Nat} {v:Value} {xs:List Value} (k:Int) (t:ByteArray) (i:Int) (ty:TypeId) (hown:w.ownsRow B 74 3 v n xs) (hn:n≤100000) (hB:B≤w.heap.size) :
  ∃ v' w',(Builtin.append_ #[67,67] ty #[v,.slice (some ⟨w.heap.size,0,none⟩) 1 1]).run Tryz.prog (w.alloc (.cells #[.int .i64 k,.string t,.int .i64 i] 74)) = .ok v' w'∧w'.ownsRow B 74 3 v' (n+1) (xs++[.int .i64 k,.string t,.int .i64 i])∧Below B w w':=by
 have hb:=heap_new w (.cells #[.int .i64 k,.string t,.int .i64 i] 74)
 obtain ⟨v',w',h1,h2,h3⟩:=app_tok k t i ty (hown.alloc (.cells #[.int .i64 k,.string t,.int .i64 i] 74)) hn (by simp;omega) (b:=w.heap.size) (by simp only [World.cell?,hb];rfl) (by simp only [World.cell?,hb];rfl) (by simp only [World.cell?,hb];rfl)
 refine ⟨v',w',h1,h2,((Below.refl B w).alloc hB _).grown h3 (by simp;omega) fun b e => ?_⟩
 exact (hown.lt b e).1
set_option maxRecDepth 100000 in
set_option maxHeartbeats 16000000 in
theorem tokens_any (s:ByteArray) (w:World) (hG:SG w):Calls Tryz.prog 41 #[.string s] w (TkP s (tk s) w):=by
 by_cases hs:65536<s.size
 ·have hsz:(65536:Int)<(s.size:Int):=by omega
  unfold tk
  rw [if_pos hs]
  go_enter Tryz.func41,Tryz.ntmps41
  go_wp2
  go_ret2
  exact ⟨(Below.refl _ _).alloc (Nat.le_refl _) _,.inr ⟨65536,141,_,rfl,Nat.le_refl _,rfl,heap_new _ _⟩⟩
 have hsz:¬ (65536:Int)<(s.size:Int):=by omega
 have hr:tk s=lx s s.size 0:=by unfold tk;rw [if_neg hs]
 obtain ⟨r,hr2⟩:∃ r,tk s=r:=⟨_,rfl⟩
 rw [hr2]
 rw [hr2] at hr
 have hlen:r.1.length≤65536:=by have:=lx_len s s.size 0;rw [hr];omega
 replace hr:=gh hr
 clear hr2
 replace hs:s.size≤65536:=by omega
 have h1w:=SG.lt hG
 go_enter Tryz.func41,Tryz.ntmps41
 go_wp2
 go_loopw [4,5] (fun ov nv wr=>∃ (pos nxt fuel:Nat) (done:List (Int×Nat×Nat)),nv = .int .i64 nxt∧TkI s r w ov wr pos nxt fuel done) (fun _ _ wr=>s.size - wr.iterPos w.heap.size)
 case atStart =>
  refine ⟨0,0,s.size,[],rfl,World.iter_heap w s 0,(Below.refl _ w).alloc (Nat.le_refl _) _,own_nil _ _ _ _,?_,?_,by omega,Reach.refl s 0,by omega⟩
  ·rw [gf hr];rfl
  ·rw [gf hr]
 case round =>
  obtain ⟨pos,nxt,fuel,done,rfl,hit,hbw,hown,hd1,hd2,hfu,hre,hnx⟩:=hrel
  have hsz2:w.heap.size<wr.heap.size:=(Array.getElem?_eq_some_iff.1 hit).1
  have hposle:pos≤nxt:=hre.le
  have hmeas:wr.iterPos w.heap.size=pos:=by unfold World.iterPos;rw [hit]
  replace hmeas:=gh hmeas
  by_cases hp:pos<s.size
  ·have hn:∀ ty,(Instr.next (.pointer (some ⟨w.heap.size,0,none⟩)) true ty).run Tryz.prog wr = .ok (.tuple #[.bool true,.int .i64 pos,.int .i32 (rn s pos)]) (wr.iterAt w.heap.size s (pos+wd s pos)):=fun ty=>Lib.run_next_any_at wr w.heap.size s pos ty hit hp
   have hit2:=gh (Lib.iterAt_heap wr w.heap.size s pos (pos+wd s pos) hit)
   have hbw2:=gh (Lib.below_iterAt hbw (k:=w.heap.size) (Nat.le_refl _) s (pos+wd s pos))
   have hown2:=gh (own_iter (s:=s) (p:=pos+wd s pos) hown (Nat.lt_succ_self _))
   have hs2:Hid ((wr.iterAt w.heap.size s (pos+wd s pos)).heap.size=wr.heap.size):=Lib.iterAt_size _ _ _ _
   obtain ⟨W,hW⟩:∃ W,wr.iterAt w.heap.size s (pos+wd s pos)=W:=⟨_,rfl⟩
   rw [hW] at hn hit2 hbw2 hown2 hs2
   replace hW:=gh hW
   replace hit:=gh hit
   replace hbw:=gh hbw
   replace hown:=gh hown
   have hw1:=wd_pos s pos
   have hw2:=wd_le s pos hp
   have hmeas2:Hid (W.iterPos w.heap.size=pos+wd s pos):=by unfold World.iterPos;rw [gf hit2];rfl
   by_cases hlt:pos<nxt
   ·have hre2:=hre.next hlt
    replace hd1:=gh hd1
    replace hd2:=gh hd2
    go_wp2
    go_roundw
    case rel=>exact ⟨pos+wd s pos,nxt,fuel,done,rfl,gf hit2,gf hbw2,gf hown2,gf hd1,gf hd2,hfu,hre2,hnx⟩
    case measure=>rw [gf hmeas2,gf hmeas];omega
   ·obtain rfl:pos=nxt:=by omega
    have hGW:SG W:=hG.below (gf hbw2) h1w
    have cR:=read_any s pos hp hs W hGW
    replace hGW:=gh hGW
    replace hG:=gh hG
    obtain ⟨k,j,er,hrd⟩:∃ k j er,rd s pos=(k,j,er):=⟨_,_,_,rfl⟩
    rw [hrd] at cR
    cases er with
    |some er =>
     obtain ⟨a,n⟩:=er
     have hlx:=gh (lx_err s hfu hp (show (rd s pos).2.2=some (a,n) by rw [hrd]))
     replace hd1:=gh hd1
     replace hd2:=gh hd2
     replace hrd:=gh hrd
     go_wp2_with (refine cR.mono ?_;rintro e w4 hR;obtain ⟨hb4,b,hbb,rfl,hc⟩:=rdp_err hR)
     go_ret2
     refine ⟨(gf hbw2).trans (hb4.mono (by rw [gf hs2];omega)),.inr ⟨a,n,b,?_,by rw [gf hs2] at hbb;omega,rfl,hc⟩⟩
     rw [←gf hd2,gf hlx]
    |none =>
     have hrr:=rd_reach s pos hp (show (rd s pos).2.2=none by rw [hrd])
     rw [hrd] at hrr
     simp only at hrr
     by_cases hk:k = -1
     ·subst hk
      have hlx:=gh (lx_gap s hfu hp (show (rd s pos).2.2=none by rw [hrd]) (show (rd s pos).1 = -1 by rw [hrd]))
      replace hd1:=gh hd1
      replace hd2:=gh hd2
      replace hrd:=gh hrd
      go_wp2_with (refine cR.mono ?_;rintro e w4 hR;obtain ⟨hb4,rfl⟩:=rdp_ok hR)
      go_roundw
      case rel =>
       have hl:=gf hlx
       rw [gf hrd] at hl
       refine ⟨pos+wd s pos,j,fuel - 1,done,rfl,?_,(gf hbw2).trans (hb4.mono (by rw [gf hs2];omega)),own_same (gf hown2) hb4,?_,?_,by omega,hrr.1,hrr.2.1⟩
       ·rw [hb4.block _ (by rw [gf hs2];omega)];exact gf hit2
       ·rw [←gf hd1,hl]
       ·rw [←gf hd2,hl]
      case measure =>
       have:w4.iterPos w.heap.size=pos+wd s pos:=by unfold World.iterPos;rw [hb4.block _ (by rw [gf hs2];omega),gf hit2]
       rw [this,gf hmeas]
       omega
     ·have hkb:(k == -1)=false:=by simpa using hk
      have hlx:=gh (lx_tok s hfu hp (show (rd s pos).2.2=none by rw [hrd]) (show (rd s pos).1 ≠ -1 by rw [hrd];exact hk))
      have hdl:done.length≤65536:=by
       have:(done++(lx s fuel pos).1).length=r.1.length:=by rw [hd1]
       rw [List.length_append] at this
       omega
      replace hd1:=gh hd1
      replace hd2:=gh hd2
      replace hrd:=gh hrd
      have hsl:=fun V=>sl2 s pos j (j:Int) rfl (by omega) (by omega) V
      replace hrr:=gh hrr
      go_wp2_with (first
       |(refine cR.mono ?_;rintro e w4 hR;obtain ⟨hb4,rfl⟩:=rdp_ok hR;obtain ⟨v5,w5,R1,ho5,hb5⟩:=tok_new k (s.extract pos j) pos 67 (own_same (gf hown2) hb4) (by omega) (by have:=hb4.size;rw [gf hs2] at this;omega);replace R1:=gh R1;replace ho5:=gh ho5;replace hb5:=gh hb5)
       |(at_builtin;refine app_run _ _ _ rfl rfl rfl rfl (gf R1) ?_;clear R1))
      go_roundw
      case rel =>
       have hl:=gf hlx
       rw [gf hrd] at hl
       have hsz4:=hb4.size
       rw [gf hs2] at hsz4
       refine ⟨pos+wd s pos,j,fuel - 1,done++[(k,pos,j)],rfl,?_,((gf hbw2).trans (hb4.mono (by rw [gf hs2];omega))).trans ((gf hb5).mono (by omega)),?_,?_,?_,by have:=(gf hrr).2.2;omega,(gf hrr).1,(gf hrr).2.1⟩
       ·rw [(gf hb5).block _ (by omega),hb4.block _ (by rw [gf hs2];omega)];exact gf hit2
       ·rw [toks_app,List.length_append];exact gf ho5
       ·rw [←gf hd1,hl,List.append_assoc];rfl
       ·rw [←gf hd2,hl]
      case measure =>
       have:w5.iterPos w.heap.size=pos+wd s pos:=by unfold World.iterPos;rw [(gf hb5).block _ (by omega),hb4.block _ (by rw [gf hs2];omega),gf hit2]
       rw [this,gf hmeas]
       omega
  ·have hn:∀ ty,(Instr.next (.pointer (some ⟨w.heap.size,0,none⟩)) true ty).run Tryz.prog wr = .ok (.tuple #[.bool false]) wr:=fun ty=>Lib.run_next_end_at wr w.heap.size s pos ty hit hp
   obtain rfl:nxt=s.size:=by omega
   rw [lx_end s fuel s.size (by omega)] at hd1 hd2
   simp only [List.append_nil] at hd1 hd2
   have hdl:done.length≤65536:=by rw [hd1];exact hlen
   obtain ⟨v5,w5,R1,ho5,hb5⟩:=tok_new 0 ⟨#[]⟩ s.size 67 hown (by omega) (by omega)
   replace R1:=gh R1
   replace ho5:=gh ho5
   replace hb5:=gh hb5
   replace hd1:=gh hd1
   replace hd2:=gh hd2
   replace hit:=gh hit
   replace hown:=gh hown
   replace hbw:=gh hbw
   go_wp2_with (at_builtin;refine app_run _ _ _ rfl rfl rfl rfl (gf R1) ?_;clear R1)
   go_ret2
   refine ⟨(gf hbw).trans ((gf hb5).mono (by omega)),.inl ⟨(gf hd2).symm,v5,rfl,?_⟩⟩
   rw [←gf hd1]
   obtain ⟨e1,e2 | ⟨g,cap,cur,e2,e3,e4⟩⟩:=gf ho5
   ·exact ⟨e1,.inl e2⟩
   ·exact ⟨e1,.inr ⟨g,cap,cur,e2,by omega,e4⟩⟩
open Go Go.RowKit Go.Extern.Stop Go.Stop Go.Extern
theorem as_v1 (t:Addr) (w:World):(ReflectliteValue.unpack (.iface 63 (.pointer (some t)))).run Tryz.prog w = .ok (.agg #[.pointer (some ⟨4,63,none⟩),.pointer (some ⟨w.heap.size,0,none⟩),.int .u64 150]) (w.alloc (.cells #[.pointer (some t)] 63)):=by kernel_rfl
theorem as_t1 (a : Addr) (w : World) : (ReflectliteValue.methodAny (ReflectliteValue.valueError "reflectlite.Value.Type" 0) (fun t _ _ _ => ReflectliteType.toType t) #[.agg #[.pointer (some ⟨4, 63, none⟩), .pointer (some a), .int .u64 150]]).run Tryz.prog w = .ok (.iface 114 (.agg #[.pointer (some ⟨4, 63, none⟩)])) w := by kernel_rfl
theorem as_mK (h : Value) (w : World) : (Go.method 223 114 (.agg #[h]) "Kind").run Tryz.prog w = .ok (145, h) w := by kernel_rfl
theorem as_mE (h : Value) (w : World) : (Go.method 223 114 (.agg #[h]) "Elem").run Tryz.prog w = .ok (157, .agg #[h]) w := by kernel_rfl
theorem as_mI (h : Value) (w : World) : (Go.method 223 114 (.agg #[h]) "Implements").run Tryz.prog w = .ok (158, .agg #[h]) w := by kernel_rfl
theorem as_mA (h : Value) (w : World) : (Go.method 223 114 (.agg #[h]) "AssignableTo").run Tryz.prog w = .ok (155, .agg #[h]) w := by kernel_rfl
theorem as_k1 (w:World):((ReflectliteType.abiMethod fun t=>(fun a:Nat=>Value.int IntKind.u8 (a:Int)) <$> Rtype.kind t) #[.pointer (some ⟨4,63,none⟩)]).run Tryz.prog w = .ok (.int .u8 22) w:=by kernel_rfl
theorem as_k2 (w:World):((ReflectliteType.abiMethod fun t=>(fun a:Nat=>Value.int IntKind.u8 (a:Int)) <$> Rtype.kind t) #[.pointer (some ⟨4,61,none⟩)]).run Tryz.prog w = .ok (.int .u8 22) w:=by kernel_rfl
theorem as_e1 (w:World):(ReflectliteType.method ReflectliteType.elem #[.agg #[.pointer (some ⟨4,63,none⟩)]]).run Tryz.prog w = .ok (.iface 114 (.agg #[.pointer (some ⟨4,61,none⟩)])) w:=by kernel_rfl
theorem as_i2 (w : World) : (ReflectliteType.relation "Implements" ReflectliteType.implements_ #[.agg #[.pointer (some ⟨4, 61, none⟩)], .iface 114 (.agg #[.pointer (some ⟨4, 25, none⟩)])]).run Tryz.prog w = .ok (.bool true) w := by kernel_rfl
theorem as_o2 (v:Value) (w:World):(ReflectliteType.typeOf #[.iface 61 v]).run Tryz.prog w = .ok (.iface 114 (.agg #[.pointer (some ⟨4,61,none⟩)])) w:=by kernel_rfl
theorem as_a2 (w : World) : (ReflectliteType.relation "AssignableTo" ReflectliteType.assignableTo #[.agg #[.pointer (some ⟨4, 61, none⟩)], .iface 114 (.agg #[.pointer (some ⟨4, 61, none⟩)])]).run Tryz.prog w = .ok (.bool true) w := by kernel_rfl
theorem as_v2 (e:Addr) (w:World):(ReflectliteValue.unpack (.iface 61 (.pointer (some e)))).run Tryz.prog w = .ok (.agg #[.pointer (some ⟨4,61,none⟩),.pointer (some ⟨w.heap.size,0,none⟩),.int .u64 150]) (w.alloc (.cells #[.pointer (some e)] 61)):=by kernel_rfl
theorem as_p1 (a:Addr) (w:World):(ReflectliteValue.parts (.agg #[.pointer (some ⟨4,63,none⟩),.pointer (some a),.int .u64 150])).run Tryz.prog w = .ok (some (63,a,150)) w:=by kernel_rfl
theorem as_p2 (a:Addr) (w:World):(ReflectliteValue.parts (.agg #[.pointer (some ⟨4,61,none⟩),.pointer (some a),.int .u64 150])).run Tryz.prog w = .ok (some (61,a,150)) w:=by kernel_rfl
theorem as_p3 (a:Addr) (w:World):(ReflectliteValue.parts (.agg #[.pointer (some ⟨4,61,none⟩),.pointer (some a),.int .u64 406])).run Tryz.prog w = .ok (some (61,a,406)) w:=by kernel_rfl
theorem as_el (w:World):(Rtype.elem? 63).run Tryz.prog w = .ok (some 61) w:=by kernel_rfl
theorem as_mk (p:Addr) (w:World):(ReflectliteValue.mk 61 p ReflectliteValue.flagAddr).run Tryz.prog w = .ok (.agg #[.pointer (some ⟨4,61,none⟩),.pointer (some p),.int .u64 406]) w:=by kernel_rfl
theorem as_di (w:World):(Rtype.directlyAssignable 61 61).run Tryz.prog w = .ok true w:=by kernel_rfl
theorem as_meth (z:Sem Value) (f:TypeId→Addr→Nat→Nat→Sem Value) (v:Value) (t:TypeId) (a:Addr) (fl:Nat) (W:World) (h:(ReflectliteValue.parts v).run Tryz.prog W = .ok (some (t,a,fl)) W):(ReflectliteValue.method z f #[v]).run Tryz.prog W=(f t a fl (fl % 32)).run Tryz.prog W:=by
 show Sem.run Tryz.prog (bind (ReflectliteValue.parts v) _) W=_
 rw [Sem.run_bind,h]
 rfl
theorem as_nil1 (a p:Addr) (W:World) (ha:W.cell? a=some (.pointer (some p))) :
  (ReflectliteValue.method (ReflectliteValue.valueError "reflectlite.Value.IsNil" 0) ReflectliteValue.isNil #[.agg #[.pointer (some ⟨4, 63, none⟩), .pointer (some a), .int .u64 150]]).run Tryz.prog W = .ok (.bool false) W := by
 rw [as_meth _ _ _ _ _ _ _ (as_p1 a W)]
 simp [ReflectliteValue.isNil,loadVar,isAgg,underlying,Tryz.underlying63,ha,Result.andThen]
theorem as_elem1 (a p:Addr) (W:World) (ha:W.cell? a=some (.pointer (some p))) :
  (ReflectliteValue.method (ReflectliteValue.valueError "reflectlite.Value.Elem" 0) ReflectliteValue.elem #[.agg #[.pointer (some ⟨4, 63, none⟩), .pointer (some a), .int .u64 150]]).run Tryz.prog W = .ok (.agg #[.pointer (some ⟨4, 61, none⟩), .pointer (some p), .int .u64 406]) W := by
 rw [as_meth _ _ _ _ _ _ _ (as_p1 a W)]
 simp [ReflectliteValue.elem,loadVar,isAgg,underlying,Tryz.underlying63,ha,Result.andThen,as_el,as_mk]
set_option maxRecDepth 100000 in
theorem as_set2 (ta b e:Addr) (old:Value) (W:World) (hb:W.cell? b=some (.pointer (some e))) (ht:W.cell? ta=some old) (hf:W.frozen? ta=false) :
  (ReflectliteValue.set #[.agg #[.pointer (some ⟨4,61,none⟩),.pointer (some ta),.int .u64 406],.agg #[.pointer (some ⟨4,61,none⟩),.pointer (some b),.int .u64 150]]).run Tryz.prog W = .ok (.tuple #[]) (W.setCell ta (.pointer (some e))):=by
 have hl:(loadVar 61 b).run Tryz.prog W = .ok (.pointer (some e)) W:=by simp [loadVar,isAgg,underlying,Tryz.underlying61,hb,Result.andThen]
 have hst:(storeVar 61 ta (.pointer (some e))).run Tryz.prog W = .ok () (W.setCell ta (.pointer (some e))):=by
  simp [storeVar,Value.cells,storeCells,isAgg,underlying,Tryz.underlying61,Addr.add,Result.andThen]
  rw [run_store Tryz.prog W ta _ _ (by rfl)]
  simp [ht,hf]
 show Sem.run Tryz.prog (bind (ReflectliteValue.parts (.agg #[.pointer (some ⟨4,61,none⟩),.pointer (some ta),.int .u64 406])) _) W=_
 rw [Sem.run_bind,as_p3]
 show Sem.run Tryz.prog (bind (ReflectliteValue.parts (.agg #[.pointer (some ⟨4,61,none⟩),.pointer (some b),.int .u64 150])) _) W=_
 rw [Sem.run_bind,as_p2]
 show Sem.run Tryz.prog (bind (loadVar 61 b) _) W=_
 rw [Sem.run_bind,hl]
 show Sem.run Tryz.prog (bind (Rtype.directlyAssignable 61 61) _) W=_
 rw [Sem.run_bind,as_di]
 show Sem.run Tryz.prog (bind (storeVar 61 ta (.pointer (some e))) _) W=_
 rw [Sem.run_bind,hst]
 rfl
set_option maxHeartbeats 4000000 in
theorem as_hit (e t:Addr) (old:Value) (w:World) (hg:w.cell? ⟨0,0,none⟩=some (.iface 114 (.agg #[.pointer (some ⟨4,25,none⟩)]))) (ht0:w.cell? t=some old) (hf0:w.frozen? t=false) :
  Calls Tryz.prog 27 #[.iface 61 (.pointer (some e)),.iface 63 (.pointer (some t))] w fun ev w'=>ev = .returned (.bool true)∧w'=((((w.alloc (.cells #[.pointer (some t)] 63)).alloc (.cells #[.pointer (some ⟨4,63,none⟩),.pointer (some ⟨w.heap.size,0,none⟩),.int .u64 150] 97)).alloc (.cells #[.pointer (some ⟨4,63,none⟩),.pointer (some ⟨w.heap.size,0,none⟩),.int .u64 150] 97)).alloc (.cells #[.pointer (some e)] 61)).setCell t (.pointer (some e)):=by
 have x1:=@run_callFunc_extern Tryz.prog 47 _ (fun args=>ReflectliteValue.unpack (args.getD 0 (.tuple #[]))) Tryz.func47 (by kernel_rfl) (by kernel_rfl) (by kernel_rfl) (by kernel_rfl)
 have x2 := @run_callFunc_extern Tryz.prog 48 _ (ReflectliteValue.methodAny (ReflectliteValue.valueError "reflectlite.Value.Type" 0) (fun t _ _ _ => ReflectliteType.toType t)) Tryz.func48 (by kernel_rfl) (by kernel_rfl) (by kernel_rfl) (by kernel_rfl)
 have x3 := @run_callFunc_extern Tryz.prog 49 _ (ReflectliteValue.method (ReflectliteValue.valueError "reflectlite.Value.IsNil" 0) ReflectliteValue.isNil) Tryz.func49 (by kernel_rfl) (by kernel_rfl) (by kernel_rfl) (by kernel_rfl)
 have x4:=@run_callFunc_extern Tryz.prog 145 _ (ReflectliteType.abiMethod fun t=>do pure (.int .u8 (←Rtype.kind t))) Tryz.func145 (by kernel_rfl) (by kernel_rfl) (by kernel_rfl) (by kernel_rfl)
 have x5:=@run_callFunc_extern Tryz.prog 157 _ (ReflectliteType.method ReflectliteType.elem) Tryz.func157 (by kernel_rfl) (by kernel_rfl) (by kernel_rfl) (by kernel_rfl)
 have x6 := @run_callFunc_extern Tryz.prog 158 _ (ReflectliteType.relation "Implements" ReflectliteType.implements_) Tryz.func158 (by kernel_rfl) (by kernel_rfl) (by kernel_rfl) (by kernel_rfl)
 have x7:=@run_callFunc_extern Tryz.prog 69 _ (ReflectliteType.typeOf) Tryz.func69 (by kernel_rfl) (by kernel_rfl) (by kernel_rfl) (by kernel_rfl)
 have x8 := @run_callFunc_extern Tryz.prog 155 _ (ReflectliteType.relation "AssignableTo" ReflectliteType.assignableTo) Tryz.func155 (by kernel_rfl) (by kernel_rfl) (by kernel_rfl) (by kernel_rfl)
 have x9 := @run_callFunc_extern Tryz.prog 70 _ (ReflectliteValue.method (ReflectliteValue.valueError "reflectlite.Value.Elem" 0) ReflectliteValue.elem) Tryz.func70 (by kernel_rfl) (by kernel_rfl) (by kernel_rfl) (by kernel_rfl)
 have x10:=@run_callFunc_extern Tryz.prog 71 _ (ReflectliteValue.set) Tryz.func71 (by kernel_rfl) (by kernel_rfl) (by kernel_rfl) (by kernel_rfl)
 have h_as_o2:=as_o2
 have h_as_mA:=as_mA
 have h_as_a2:=as_a2
 have h_as_v2:=as_v2
 have h_as_v1:=as_v1
 have h_as_t1:=as_t1
 have h_as_mK:=as_mK
 have h_as_mE:=as_mE
 have h_as_mI:=as_mI
 have h_as_k1:=as_k1
 have h_as_k2:=as_k2
 have h_as_e1:=as_e1
 have h_as_i2:=as_i2
 have htl:t.block<w.heap.size:=by
  rcases Nat.lt_or_ge t.block w.heap.size with h | h
  ·exact h
  ·simp [World.cell?,Array.getElem?_eq_none h] at ht0
 have hlt:0<w.heap.size:=by omega
 have n8:=as_nil1 ⟨w.heap.size,0,none⟩ t ((w.alloc (.cells #[.pointer (some t)] 63)).alloc (.cells #[.pointer (some ⟨4,63,none⟩),.pointer (some ⟨w.heap.size,0,none⟩),.int .u64 150] 97)) (by simp)
 have hg2:((w.alloc (.cells #[.pointer (some t)] 63)).alloc (.cells #[.pointer (some ⟨4,63,none⟩),.pointer (some ⟨w.heap.size,0,none⟩),.int .u64 150] 97)).cell? ⟨0,0,none⟩=some (.iface 114 (.agg #[.pointer (some ⟨4,25,none⟩)])):=by
  rw [World.cell?_alloc_lt _ _ ⟨0,0,none⟩ (by simp),World.cell?_alloc_lt _ _ ⟨0,0,none⟩ hlt];exact hg
 have el:=as_elem1 ⟨w.heap.size,0,none⟩ t (((w.alloc (.cells #[.pointer (some t)] 63)).alloc (.cells #[.pointer (some ⟨4,63,none⟩),.pointer (some ⟨w.heap.size,0,none⟩),.int .u64 150] 97)).alloc (.cells #[.pointer (some ⟨4,63,none⟩),.pointer (some ⟨w.heap.size,0,none⟩),.int .u64 150] 97)) (by rw [World.cell?_alloc_lt _ _ ⟨w.heap.size,0,none⟩ (by simp;omega)];simp)
 have st:=as_set2 t ⟨w.heap.size+1+1+1,0,none⟩ e old ((((w.alloc (.cells #[.pointer (some t)] 63)).alloc (.cells #[.pointer (some ⟨4,63,none⟩),.pointer (some ⟨w.heap.size,0,none⟩),.int .u64 150] 97)).alloc (.cells #[.pointer (some ⟨4,63,none⟩),.pointer (some ⟨w.heap.size,0,none⟩),.int .u64 150] 97)).alloc (.cells #[.pointer (some e)] 61))
  (by rw [World.cell?_alloc_at _ _ _ _ (by simp)];rfl)
  (by rw [World.cell?_alloc_lt _ _ t (by simp;omega),World.cell?_alloc_lt _ _ t (by simp;omega),World.cell?_alloc_lt _ _ t (by simp;omega),World.cell?_alloc_lt _ _ t htl];exact ht0)
  (by rw [World.frozen?_alloc_old _ _ t (by simp;omega),World.frozen?_alloc_old _ _ t (by simp;omega),World.frozen?_alloc_old _ _ t (by simp;omega),World.frozen?_alloc_old _ _ t (Nat.ne_of_lt htl)];exact hf0)
 go_enter Tryz.func27,Tryz.ntmps27
 go_wp2
 refine wp_loop_rounds 1 ?_
 rw [rounds_succ]
 go_wp2
 go_ret
 exact ⟨rfl,rfl⟩
def EH (w:World):Prop:=w.cell? ⟨0,0,none⟩=some (.iface 114 (.agg #[.pointer (some ⟨4,25,none⟩)]))
theorem EH.below {w w':World} {B:Nat} (h:EH w) (hb:Below B w w') (hB:0<B):EH w':=by
 unfold EH at h ⊢
 rw [hb.cell (p:=⟨0,0,none⟩) hB]
 exact h
theorem EH.lt {w:World} (h:EH w):0<w.heap.size:=by
 unfold EH at h
 rcases Nat.eq_zero_or_pos w.heap.size with h0 | h1
 ·simp [World.cell?,h0] at h
 ·exact h1
set_option maxRecDepth 100000 in
set_option maxHeartbeats 16000000 in
theorem told_nil (w:World):Calls Tryz.prog 14 #[.nilIface] w fun e w'=>e = .returned (.tuple #[.int .i64 0,.int .i64 0])∧w'=w:=by
 go_enter Tryz.func14,Tryz.ntmps14
 go_wp2
 go_ret2
 exact ⟨rfl,rfl⟩
theorem as_short (e t:Addr) (old:Value) (w:World) (hg:EH w) (ht0:w.cell? t=some old) (hf0:w.frozen? t=false) :
  Calls Tryz.prog 27 #[.iface 61 (.pointer (some e)),.iface 63 (.pointer (some t))] w fun ev w'=>ev = .returned (.bool true)∧w'.cell? t=some (.pointer (some e))∧(∀ q:Addr,q.block<w.heap.size→q.block≠t.block→w'.cell? q=w.cell? q)∧∀ B,B≤t.block→Below B w w':=by
 refine (as_hit e t old w hg ht0 hf0).mono ?_
 rintro ev w' ⟨rfl,rfl⟩
 have htl:t.block<w.heap.size:=by
  rcases Nat.lt_or_ge t.block w.heap.size with h | h
  ·exact h
  ·simp [World.cell?,Array.getElem?_eq_none h] at ht0
 refine ⟨rfl,?_,fun q hq hne => ?_,fun B hB => ?_⟩
 ·refine World.cell?_setCell_same _ t _ (u:=old) ?_
  rw [World.cell?_alloc_lt _ _ t (by simp;omega),World.cell?_alloc_lt _ _ t (by simp;omega),World.cell?_alloc_lt _ _ t (by simp;omega),World.cell?_alloc_lt _ _ t htl]
  exact ht0
 ·rw [World.cell?_setCell_other _ t q _ (fun e=>hne (by rw [e])),World.cell?_alloc_lt _ _ q (by simp;omega),World.cell?_alloc_lt _ _ q (by simp;omega),World.cell?_alloc_lt _ _ q (by simp;omega),World.cell?_alloc_lt _ _ q hq]
 ·refine Below.setCell ?_ hB _
  exact ((((Below.refl B w).alloc (by omega) _).alloc (by simp;omega) _).alloc (by simp;omega) _).alloc (by simp;omega) _
set_option maxRecDepth 100000 in
set_option maxHeartbeats 16000000 in
theorem told_err (a n b:Nat) (w:World) (hE:EH w) (hb:w.heap[b]?=some (.cells #[.int .i64 a,.int .i64 n] 66)):Calls Tryz.prog 14 #[.iface 61 (.pointer (some ⟨b,0,none⟩))] w fun e w'=>e = .returned (.tuple #[.int .i64 a,.int .i64 n])∧Below w.heap.size w w':=by
 have hlt:b<w.heap.size:=(Array.getElem?_eq_some_iff.1 hb).1
 have hb0:w.cell? ⟨b,0,none⟩=some (.int .i64 a):=by simp only [World.cell?,hb];rfl
 have hb1:w.cell? ⟨b,1,none⟩=some (.int .i64 n):=by simp only [World.cell?,hb];rfl
 have c:=as_short ⟨b,0,none⟩ ⟨w.heap.size,0,none⟩ (.pointer none) (w.alloc (.cells #[.pointer none] 61)) (hE.below ((Below.refl w.heap.size w).alloc (Nat.le_refl _) _) hE.lt) (by simp) (by simp)
 replace hb:=gh hb
 replace hE:=gh hE
 go_enter Tryz.func14,Tryz.ntmps14
 go_wp2_with (refine c.mono ?_;rintro e W ⟨rfl,c1,c2,c3⟩;have q0:=c2 ⟨b,0,none⟩ (by simp;omega) (by simp;omega);have q1:=c2 ⟨b,1,none⟩ (by simp;omega) (by simp;omega);have hB:=c3 w.heap.size (by simp);rw [World.cell?_alloc_lt _ _ ⟨b,0,none⟩ hlt,hb0] at q0;rw [World.cell?_alloc_lt _ _ ⟨b,1,none⟩ hlt,hb1] at q1;replace c2:=gh c2;replace c3:=gh c3)
 go_quiet (fail)
 go_wp2
 go_ret2
 have h:=((Below.refl w.heap.size w).alloc (Nat.le_refl _) _).trans hB
 exact ⟨rfl,⟨h.os,h.tape,h.output,h.size,h.block⟩⟩
theorem blk {w:World} {q:Nat} {cs:Array Value} {ty:TypeId} (h:w.heap[q]?=some (.cells cs ty)):q<w.heap.size∧(∀ (o:Nat) v,cs[o]?=some v→w.cell? ⟨q,o,none⟩=some v)∧∀ o,w.frozen? ⟨q,o,none⟩=false:=by
 refine ⟨(Array.getElem?_eq_some_iff.1 h).1,fun o v hv => ?_,fun o=>by simp [World.frozen?,h]⟩
 simp only [World.cell?,h,hv]
 rfl
theorem set_block {w:World} {q o:Nat} {cs:Array Value} {ty:TypeId} (h:w.heap[q]?=some (.cells cs ty)) (v:Value):(w.setCell ⟨q,o,none⟩ v).heap[q]?=some (.cells (cs.setIfInBounds o v) ty):=by
 have hlt:q<w.heap.size:=(Array.getElem?_eq_some_iff.1 h).1
 simp only [World.setCell,Array.getElem?_modify,h]
 simp
def plc (k n:Int):Int:=if Int.tmod k n<0 then Int.tmod k n+n else Int.tmod k n
theorem tmod_lt {k n:Int} (hn:0<n) : -n<Int.tmod k n∧Int.tmod k n<n:=by
 have h1:=Int.tmod_lt_of_pos k hn
 have h2:Int.tmod (-k) n<n:=Int.tmod_lt_of_pos (-k) hn
 rw [Int.neg_tmod] at h2
 omega
theorem plc_in (k:Int) {n:Int} (hn:0<n):0≤plc k n∧plc k n<n:=by
 have h:=tmod_lt (k:=k) hn
 unfold plc
 split <;> omega
set_option maxRecDepth 100000 in
set_option maxHeartbeats 4000000 in
theorem place_any (k n:Int) (w:World) (hn:0<n) (hn2:n≤1000000000):Calls Tryz.prog 21 #[.int .i64 k,.int .i64 n] w fun e w'=>e = .returned (.int .i64 (plc k n))∧w'=w:=by
 have hr:=tmod_lt (k:=k) hn
 have n0:¬ n=0:=by omega
 have n1:(n == 0)=false:=by simpa using n0
 have e1:IntKind.i64.wrap (Int.tmod k n)=Int.tmod k n:=by rw [IntKind.wrap_i64];omega
 by_cases h:Int.tmod k n<0
 ·have hp:Hid (plc k n=Int.tmod k n+n):=if_pos h
  have e2:IntKind.i64.wrap (Int.tmod k n+n)=Int.tmod k n+n:=by rw [IntKind.wrap_i64];omega
  rw [gf hp]
  go_enter Tryz.func21,Tryz.ntmps21
  go_wp2
  go_ret
  exact ⟨rfl,rfl⟩
 ·have hp:Hid (plc k n=Int.tmod k n):=if_neg h
  have hd:decide (Int.tmod k n<0)=false:=by simp;omega
  rw [gf hp]
  go_enter Tryz.func21,Tryz.ntmps21
  go_wp2
  go_ret
  exact ⟨rfl,rfl⟩
def fillL (n i:Nat) (d:UInt8):List UInt8:=List.replicate i d++List.replicate (n - i) 0
def FY (V:World) (g n i:Nat) (d:UInt8):Prop:=V.heap[g]?=some (.cells (Lib.byteCells (fillL n i d)).toArray 5)
theorem bc_len (l:List UInt8):(Lib.byteCells l).length=l.length:=by simp [Lib.byteCells]
theorem fill_len {n i:Nat} (d:UInt8) (h:i≤n):(fillL n i d).length=n:=by simp [fillL];omega
theorem fill_step {n i:Nat} (d:UInt8) (h:i<n):(fillL n i d).set i d=fillL n (i+1) d:=by
 unfold fillL
 obtain ⟨k,hk⟩:∃ k,n - i=k+1:=⟨n - i - 1,by omega⟩
 rw [hk,show n - (i+1)=k by omega,List.replicate_succ,List.set_append_right _ _ (by simp)]
 simp [List.replicate_succ',List.append_assoc]
theorem FY.put {V:World} {g n i:Nat} {d:UInt8} (h:FY V g n i d) (hi:i<n):FY (V.setCell ⟨g,i,none⟩ (.int .u8 d.toNat)) g n (i+1) d:=by
 unfold FY at h ⊢
 rw [set_block h,←fill_step d hi]
 congr 2
 simp [Lib.byteCells,List.map_set]
theorem FY.cell {V:World} {g n i:Nat} {d:UInt8} (h:FY V g n i d) (hi:i<n):∃ u,V.cell? ⟨g,i,none⟩=some u∧V.frozen? ⟨g,i,none⟩=false:=by
 have hl:i<(Lib.byteCells (fillL n i d)).toArray.size:=by
  simp only [List.size_toArray,bc_len]
  rw [fill_len d (by omega)]
  exact hi
 exact ⟨_,(blk h).2.1 i _ (Array.getElem?_eq_getElem hl),(blk h).2.2 i⟩
def wordD:List (List UInt8):=[[108,101,116],[114,101,99],[114,101,102],[105,110],[105,115],[105,102],[116,104,101,110],[101,108,115,101],[116,114,121],[119,105,116,104],[114,97,105,115,101],[97,115,115,101,114,116],[111,108,100],[114,101,113,117,105,114,101,115],[101,110,115,117,114,101,115],[100,101,99,114,101,97,115,101,115],[105,110,116],[98,111,111,108],[117,110,105,116],[116,114,117,101],[102,97,108,115,101],[110,111,116],[80,117,114,101],[83,116,97,116,101],[69,120,110],[65,108,108],[68,105,118]]
def wdB (k:Nat):ByteArray:=⟨(wordD.getD k []).toArray⟩
theorem wd_cells:∀ k,k<27→((#[.string ⟨#[108,101,116]⟩,.string ⟨#[114,101,99]⟩,.string ⟨#[114,101,102]⟩,.string ⟨#[105,110]⟩,.string ⟨#[105,115]⟩,.string ⟨#[105,102]⟩,.string ⟨#[116,104,101,110]⟩,.string ⟨#[101,108,115,101]⟩,.string ⟨#[116,114,121]⟩,.string ⟨#[119,105,116,104]⟩,.string ⟨#[114,97,105,115,101]⟩,.string ⟨#[97,115,115,101,114,116]⟩,.string ⟨#[111,108,100]⟩,.string ⟨#[114,101,113,117,105,114,101,115]⟩,.string ⟨#[101,110,115,117,114,101,115]⟩,.string ⟨#[100,101,99,114,101,97,115,101,115]⟩,.string ⟨#[105,110,116]⟩,.string ⟨#[98,111,111,108]⟩,.string ⟨#[117,110,105,116]⟩,.string ⟨#[116,114,117,101]⟩,.string ⟨#[102,97,108,115,101]⟩,.string ⟨#[110,111,116]⟩,.string ⟨#[80,117,114,101]⟩,.string ⟨#[83,116,97,116,101]⟩,.string ⟨#[69,120,110]⟩,.string ⟨#[65,108,108]⟩,.string ⟨#[68,105,118]⟩]:Array Value))[k]?=some (.string (wdB k))
 |0,_=>rfl
 |1,_=>rfl
 |2,_=>rfl
 |3,_=>rfl
 |4,_=>rfl
 |5,_=>rfl
 |6,_=>rfl
 |7,_=>rfl
 |8,_=>rfl
 |9,_=>rfl
 |10,_=>rfl
 |11,_=>rfl
 |12,_=>rfl
 |13,_=>rfl
 |14,_=>rfl
 |15,_=>rfl
 |16,_=>rfl
 |17,_=>rfl
 |18,_=>rfl
 |19,_=>rfl
 |20,_=>rfl
 |21,_=>rfl
 |22,_=>rfl
 |23,_=>rfl
 |24,_=>rfl
 |25,_=>rfl
 |26,_=>rfl
 |k+27,h=>by omega
theorem wordD_mem:∀ l∈wordL,l∈wordD:=by decide
theorem wordL_mem:∀ k,k<27→wordD.getD k []∈wordL:=by decide
set_option maxRecDepth 100000 in
set_option maxHeartbeats 16000000 in
theorem refWord_any (s:ByteArray) (w:World):Calls Tryz.prog 52 #[.string s] w fun e w'=>e = .returned (.bool (isWd s))∧Below w.heap.size w w':=by
 obtain ⟨A,hA⟩:∃ A:Array Value,#[.string ⟨#[108,101,116]⟩,.string ⟨#[114,101,99]⟩,.string ⟨#[114,101,102]⟩,.string ⟨#[105,110]⟩,.string ⟨#[105,115]⟩,.string ⟨#[105,102]⟩,.string ⟨#[116,104,101,110]⟩,.string ⟨#[101,108,115,101]⟩,.string ⟨#[116,114,121]⟩,.string ⟨#[119,105,116,104]⟩,.string ⟨#[114,97,105,115,101]⟩,.string ⟨#[97,115,115,101,114,116]⟩,.string ⟨#[111,108,100]⟩,.string ⟨#[114,101,113,117,105,114,101,115]⟩,.string ⟨#[101,110,115,117,114,101,115]⟩,.string ⟨#[100,101,99,114,101,97,115,101,115]⟩,.string ⟨#[105,110,116]⟩,.string ⟨#[98,111,111,108]⟩,.string ⟨#[117,110,105,116]⟩,.string ⟨#[116,114,117,101]⟩,.string ⟨#[102,97,108,115,101]⟩,.string ⟨#[110,111,116]⟩,.string ⟨#[80,117,114,101]⟩,.string ⟨#[83,116,97,116,101]⟩,.string ⟨#[69,120,110]⟩,.string ⟨#[65,108,108]⟩,.string ⟨#[68,105,118]⟩]=A:=⟨_,rfl⟩
 have hc:=wd_cells
 rw [hA] at hc
 have hc:=gh hc
 go_enter Tryz.func52,Tryz.ntmps52
 go_wp2
 obtain ⟨V,hV⟩:∃ V,w.alloc (.cells A 9)=V:=⟨_,rfl⟩
 have hVb:Below w.heap.size w V:=by rw [←hV];exact (Below.refl _ w).alloc (Nat.le_refl _) _
 have hVc:Hid (∀ k,k<27→V.cell? ⟨w.heap.size,k,none⟩=some (.string (wdB k))):=fun k hk=>by
  have:=heap_new w (.cells A 9)
  rw [←hV]
  simp only [World.cell?,this,gf hc k hk]
  rfl
 rw [hV]
 replace hV:=gh hV
 clear hA
 go_loopw [4] (fun iv wr=>∃ k:Nat,iv = .int .i64 k∧k≤27∧wr=V∧∀ j,j<k→(s.data.toList == wordD.getD j [])=false) (fun iv _=>27 - (intOf iv).toNat)
 case atStart=>exact ⟨0,rfl,by omega,rfl,fun j hj=>by omega⟩
 case round =>
  obtain ⟨k,rfl,hk,rfl,hn⟩:=hrel
  replace hn:=gh hn
  by_cases hk2:k<27
  ·have c:=gf hVc k hk2
   have hl:(wdB k).toList=wordD.getD k []:=by rw [Lib.toList_data];exact List.toList_toArray ..
   have hl2:=Lib.toList_data s
   cases he:((wdB k).toList == s.toList) with
   |true =>
    have hy:Hid (isWd s=true):=by
     unfold isWd
     rw [hl,hl2] at he
     refine List.any_eq_true.2 ⟨_,wordL_mem k hk2,?_⟩
     simpa using (by simpa using he:wordD.getD k []=s.data.toList).symm
    replace hl:=gh hl
    replace hl2:=gh hl2
    go_wp2
    go_ret
    exact ⟨by rw [gf hy];rfl,hVb⟩
   |false =>
    have hn2:Hid (∀ j,j<k+1→(s.data.toList == wordD.getD j [])=false):=fun j hj=>by
     rcases Nat.lt_or_eq_of_le (Nat.le_of_lt_succ hj) with h | h
     ·exact gf hn j h
     ·subst h
      rw [hl,hl2] at he
      have he':wordD.getD j []≠s.data.toList:=by simpa using he
      simpa using fun h=>he' h.symm
    replace hl:=gh hl
    replace hl2:=gh hl2
    go_wp2
    go_roundw
    case rel=>exact ⟨k+1,rfl,by omega,trivial,gf hn2⟩
    case measure=>simp [intOf];omega
  ·obtain rfl:k=27:=by omega
   have hy:Hid (isWd s=false):=by
    unfold isWd
    rw [List.any_eq_false]
    intro l hl
    obtain ⟨j,hj,rfl⟩:=List.getElem_of_mem (wordD_mem l hl)
    have:=gf hn j hj
    rw [List.getD_eq_getElem?_getD,List.getElem?_eq_getElem hj] at this
    rw [show (s.data.toList == wordD[j])=false from this]
    exact Bool.false_ne_true
   go_wp2
   go_ret
   exact ⟨by rw [gf hy];rfl,hVb⟩
end Go.Proofs.YtfkfnbehdcmgeaaGreatDoor
