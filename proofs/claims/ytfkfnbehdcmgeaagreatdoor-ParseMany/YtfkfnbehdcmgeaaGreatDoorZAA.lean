/- Package lex: signs. -/
import Derived.Lib.DecodeN
import Derived.Laws.RangeAny
import Derived.Lib.Strings
import Derived.Shelf.Strings.Prefix
import Derived.Shelf.Unicode.DecodeAny
import Derived.Test.YtfkfnbehdcmgeaaGreatDoorProg
import Derived.WalkKit
import Derived.ProofKit
import Derived.Handy
import Derived.Lib.OthersKept
import Derived.Deep.MidRow
import Derived.Laws.Rows
set_option linter.unusedVariables false
set_option linter.unusedSimpArgs false
namespace Go.Proofs.YtfkfnbehdcmgeaaGreatDoor
def By (s:ByteArray) (i:Nat):Nat:=(s.get! i).toNat
def rn (s:ByteArray) (i:Nat):Nat:=(Utf8.decode s i).1
def wd (s:ByteArray) (i:Nat):Nat:=(Utf8.decode s i).2
def isBl (c:Nat):Bool:=c == 32 || c == 9 || c == 10 || c == 13
def isLe (c:Nat):Bool:=(decide (65≤c) && decide (c≤90)) || (decide (97≤c) && decide (c≤122)) || c == 95 || decide (128≤c)
def isDi (c:Nat):Bool:=decide (48≤c) && decide (c≤57)
def noR (s:ByteArray) (i:Nat):Bool:=rn s i == 65533 && wd s i == 1
def inName (s:ByteArray) (i:Nat):Bool:=!noR s i && (isLe (rn s i) || isDi (rn s i))
def nameEnd (s:ByteArray):Nat→Nat→Nat
 |0,i=>i
 |f+1,i=>if i<s.size then (if inName s i then nameEnd s f (i+wd s i) else i) else i
def digEnd (s:ByteArray):Nat→Nat→Nat
 |0,i=>i
 |f+1,i=>if i<s.size then (if isDi (rn s i) then digEnd s f (i+1) else i) else i
def cmt (s:ByteArray):Nat→Nat→Bool→Nat×Nat
 |0,_,_=>(0,2)
 |f+1,i,star=>if i<s.size then (if noR s i then (i,1) else if star && rn s i == 41 then (i+1,0) else cmt s f (i+wd s i) (rn s i == 42)) else (0,2)
def fits (s:ByteArray):Nat→List Nat→Bool
 |_,[]=>true
 |i,c::l=>decide (i<s.size) && By s i == c && fits s (i+1) l
def signL:List (List Nat):=[[61,61,62],[58,61],[60,61],[62,61],[60,62],[38,38],[124,124],[45,62],[59,59],[58],[59],[44],[46],[40],[41],[123],[125],[124],[61],[60],[62],[43],[45],[42],[33]]
def sgn (s:ByteArray) (i:Nat):Nat:=((signL.find? fun l=>fits s i l).map List.length).getD 0
def wordL:List (List UInt8):=[[108,101,116],[114,101,99],[114,101,102],[105,115],[105,110],[105,102],[116,104,101,110],[101,108,115,101],[116,114,121],[119,105,116,104],[114,97,105,115,101],[97,115,115,101,114,116],[111,108,100],[114,101,113,117,105,114,101,115],[101,110,115,117,114,101,115],[100,101,99,114,101,97,115,101,115],[105,110,116],[98,111,111,108],[117,110,105,116],[116,114,117,101],[102,97,108,115,101],[110,111,116],[80,117,114,101],[83,116,97,116,101],[69,120,110],[65,108,108],[68,105,118]]
def isWd (s:ByteArray):Bool:=wordL.any fun l=>s.data.toList == l
def rdName (s:ByteArray) (i:Nat):Int×Nat×Option (Nat×Nat):=
 if 40<nameEnd s (s.size - i) i - i then (0,0,some (i,141))
 else if isWd (s.extract i (nameEnd s (s.size - i) i)) then (2,nameEnd s (s.size - i) i,none) else (1,nameEnd s (s.size - i) i,none)
def rdNum (s:ByteArray) (i:Nat):Int×Nat×Option (Nat×Nat):=
 if (By s i == 48 && decide (1<digEnd s (s.size - i) i - i))=true then (0,0,some (i,140))
 else if 400<digEnd s (s.size - i) i - i then (0,0,some (i,141)) else (3,digEnd s (s.size - i) i,none)
def rdCmt (s:ByteArray) (i:Nat):Int×Nat×Option (Nat×Nat):=
 if (cmt s (s.size - (i+2)) (i+2) false).2=0 then (-1,(cmt s (s.size - (i+2)) (i+2) false).1,none)
 else if (cmt s (s.size - (i+2)) (i+2) false).2=1 then (0,0,some ((cmt s (s.size - (i+2)) (i+2) false).1,140)) else (0,0,some (i,140))
def rdSign (s:ByteArray) (i:Nat):Int×Nat×Option (Nat×Nat):=
 if sgn s i=0 then (0,0,some (i,140)) else (4,i+sgn s i,none)
def rd (s:ByteArray) (i:Nat):Int×Nat×Option (Nat×Nat):=
 if noR s i then (0,0,some (i,140))
 else if isBl (rn s i) then (-1,i+1,none)
 else if isLe (rn s i) then rdName s i
 else if isDi (rn s i) then rdNum s i
 else if fits s i [40,42] then rdCmt s i
 else rdSign s i
def lx (s:ByteArray):Nat→Nat→List (Int×Nat×Nat)×Option (Nat×Nat)
 |0,_=>([],none)
 |f+1,i=>if i<s.size then
   (match (rd s i).2.2 with
    |some e=>([],some e)
    |none=>(if (rd s i).1 = -1 then (lx s f (rd s i).2.1).1 else ((rd s i).1,i,(rd s i).2.1)::(lx s f (rd s i).2.1).1,(lx s f (rd s i).2.1).2))
  else ([],none)
open Go.Lib
theorem get_lt (s:ByteArray) (k:Nat) (h:k<s.size):s.get! k=s[k]'h:=by
 cases s with
 |mk d=>exact getElem!_pos d k h
theorem get_ge (s:ByteArray) (k:Nat) (h:¬ k<s.size):s.get! k=0:=by
 cases s with
 |mk d=>exact getElem!_neg d k h
theorem By_lt (s:ByteArray) (i:Nat):By s i<256:=(s.get! i).toNat_lt
theorem dec_eq (s:ByteArray) (i:Nat):Utf8.decode s i=decodeN (s.size - i) (By s i) (By s (i+1)) (By s (i+2)) (By s (i+3)):=decode_at s i
theorem wd_pos (s:ByteArray) (i:Nat):1≤wd s i:=by
 unfold wd
 rw [dec_eq]
 unfold decodeN
 repeat' split
 all_goals simp
theorem wd_le (s:ByteArray) (i:Nat) (h:i<s.size):i+wd s i≤s.size:=by
 unfold wd
 rw [dec_eq]
 unfold decodeN
 repeat' split
 all_goals (simp only;omega)
theorem rn_ascii (s:ByteArray) (i:Nat) (h:By s i<128):rn s i=By s i∧wd s i=1:=by
 unfold rn wd
 rw [dec_eq]
 unfold decodeN
 rw [if_pos h]
 exact ⟨rfl,rfl⟩
set_option maxHeartbeats 2000000 in
theorem rn_high (s:ByteArray) (i:Nat) (h:¬ By s i<128):128≤rn s i:=by
 unfold rn
 rw [dec_eq]
 unfold decodeN
 rw [if_neg h]
 repeat' split
 all_goals first | (simp only;omega) | omega
theorem rn_low (s:ByteArray) (i:Nat) (h:rn s i<128):By s i=rn s i∧wd s i=1:=by
 by_cases hb:By s i<128
 ·exact ⟨(rn_ascii s i hb).1.symm,(rn_ascii s i hb).2⟩
 ·exact absurd (rn_high s i hb) (by omega)
theorem noR_ascii (s:ByteArray) (i:Nat) (h:By s i<128):noR s i=false:=by
 have:=rn_ascii s i h
 unfold noR
 rw [this.1]
 simp
 omega
theorem rest_size (s:ByteArray) (a:Nat):(s.extract a s.size).size=s.size - a:=by simp
theorem rest_get (s:ByteArray) (a k:Nat):(s.extract a s.size).get! k=s.get! (a+k):=by
 by_cases h:a+k<s.size
 ·rw [get_lt _ _ h,get_lt _ _ (by rw [rest_size];omega)]
  exact ByteArray.getElem_extract ..
 ·rw [get_ge _ _ h,get_ge _ _ (by rw [rest_size];omega)]
theorem rest_By (s:ByteArray) (a k:Nat):By (s.extract a s.size) k=By s (a+k):=by
 unfold By
 rw [rest_get]
theorem rest_dec (s:ByteArray) (a k:Nat):Utf8.decode (s.extract a s.size) k=Utf8.decode s (a+k):=by
 rw [dec_eq,dec_eq,rest_size,rest_By,rest_By,rest_By,rest_By]
 have:s.size - a - k=s.size - (a+k):=by omega
 rw [this]
 rfl
theorem rest_rn (s:ByteArray) (a k:Nat):rn (s.extract a s.size) k=rn s (a+k):=by unfold rn;rw [rest_dec]
theorem rest_wd (s:ByteArray) (a k:Nat):wd (s.extract a s.size) k=wd s (a+k):=by unfold wd;rw [rest_dec]
theorem rest_noR (s:ByteArray) (a k:Nat):noR (s.extract a s.size) k=noR s (a+k):=by unfold noR;rw [rest_rn,rest_wd]
theorem rest_inName (s:ByteArray) (a k:Nat):inName (s.extract a s.size) k=inName s (a+k):=by unfold inName;rw [rest_rn,rest_noR]
theorem rest_nameEnd (s:ByteArray) (a:Nat):∀ f k,a+nameEnd (s.extract a s.size) f k=nameEnd s f (a+k):=by
 intro f
 induction f with
 |zero=>intro k;rfl
 |succ f ih =>
  intro k
  unfold nameEnd
  rw [rest_size,rest_inName,rest_wd]
  by_cases h:a+k<s.size
  ·rw [if_pos h,if_pos (show k<s.size - a by omega)]
   cases inName s (a+k) with
   |true=>rw [if_pos rfl,if_pos rfl,ih];congr 1;omega
   |false=>rfl
  ·rw [if_neg h,if_neg (show ¬ k<s.size - a by omega)]
theorem rest_digEnd (s:ByteArray) (a:Nat):∀ f k,a+digEnd (s.extract a s.size) f k=digEnd s f (a+k):=by
 intro f
 induction f with
 |zero=>intro k;rfl
 |succ f ih =>
  intro k
  unfold digEnd
  rw [rest_size,rest_rn]
  by_cases h:a+k<s.size
  ·rw [if_pos h,if_pos (show k<s.size - a by omega)]
   cases isDi (rn s (a+k)) with
   |true=>rw [if_pos rfl,if_pos rfl,ih];congr 1
   |false=>rfl
  ·rw [if_neg h,if_neg (show ¬ k<s.size - a by omega)]
theorem fits_drop (s:ByteArray):∀ (l:List UInt8) i,l.isPrefixOf (s.data.toList.drop i)=fits s i (l.map UInt8.toNat):=by
 intro l
 induction l with
 |nil=>intro i;rfl
 |cons c l ih =>
  intro i
  by_cases h:i<s.size
  ·have h':i<s.data.toList.length:=by simpa using h
   rw [List.drop_eq_getElem_cons h',List.isPrefixOf,ih]
   have e:s.data.toList[i]=s.get! i:=by
    rw [get_lt s i h]
    cases s with
    |mk d=>simp [ByteArray.getElem_eq_getElem_data]
   rw [e]
   have e2:(c == s.get! i)=(By s i == c.toNat):=by
    unfold By
    rw [Bool.eq_iff_iff]
    simp only [beq_iff_eq]
    exact ⟨fun h=>by rw [h],fun h=>(UInt8.toNat_inj.1 h).symm⟩
   show (c == s.get! i && fits s (i+1) (l.map UInt8.toNat))=(decide (i<s.size) && By s i == c.toNat && fits s (i+1) (l.map UInt8.toNat))
   rw [e2]
   simp [h]
  ·rw [List.drop_eq_nil_of_le (by simpa using h)]
   show false=(decide (i<s.size) && By s i == c.toNat && fits s (i+1) (l.map UInt8.toNat))
   simp [h]
theorem rest_data (s:ByteArray) (a:Nat):(s.extract a s.size).data.toList=s.data.toList.drop a:=by
 rw [ByteArray.data_extract,Array.toList_extract]
 show (s.data.toList.drop a).take (s.size - a)=_
 apply List.take_of_length_le
 simp
theorem hasPrefix_rest (s:ByteArray) (a:Nat) (p:ByteArray):Lib.hasPrefix (s.extract a s.size).data.toList p.data.toList=fits s a (p.data.toList.map UInt8.toNat):=by
 unfold Lib.hasPrefix
 rw [rest_data,fits_drop]
theorem hasPrefix_all (s:ByteArray) (p:ByteArray):Lib.hasPrefix s.data.toList p.data.toList=fits s 0 (p.data.toList.map UInt8.toNat):=by
 unfold Lib.hasPrefix
 rw [←fits_drop,List.drop_zero]
theorem fits_fffd (s:ByteArray) (i:Nat) (h:rn s i=65533):fits s i [239,191,189] = !(wd s i == 1):=by
 have hb0:=By_lt s i
 have hb1:=By_lt s (i+1)
 have hb2:=By_lt s (i+2)
 have hb3:=By_lt s (i+3)
 unfold rn at h
 unfold wd
 rw [dec_eq] at h ⊢
 simp only [fits,Bool.and_true]
 rw [show i+1+1=i+2 from rfl]
 revert h
 unfold decodeN
 repeat' split
 all_goals intro h
 all_goals (rw [Bool.eq_iff_iff];simp at h ⊢;omega)
theorem noR_fits (s:ByteArray) (i:Nat):noR s i=(rn s i == 65533 && !fits s i [239,191,189]):=by
 unfold noR
 by_cases h:rn s i=65533
 ·rw [fits_fffd s i h];simp
 ·rw [show (rn s i == 65533)=false from by simpa using h];rfl
end Go.Proofs.YtfkfnbehdcmgeaaGreatDoor
namespace Go.Proofs
open Go.Shelf Go.RowKit Go.Lib
def Tryz.lays99_ren:Go.Shelf.Ren:=⟨fun | 99=>84 | 206=>104 | n=>n,fun | 9=>9 | 4=>4 | 3=>3 | n=>n,fun | n=>n⟩
theorem Tryz.lays99:Go.Proofs.Lays.n99 Tryz.prog Tryz.lays99_ren:={
 mixed:=by kernel_rfl
 f99:=Tryz.func84.trans (congrArg some (by kernel_rfl))
 f206:=Tryz.func104.trans (congrArg some (by kernel_rfl))
 t3:=Tryz.underlying3
 a3:=Tryz.isAgg3
 z3:=Tryz.sizeOf3
 v3:=Tryz.zeroValue3
 t4:=Tryz.underlying4
 a4:=Tryz.isAgg4
 z4:=Tryz.sizeOf4
 v4:=Tryz.zeroValue4
 t9:=Tryz.underlying9
 a9:=Tryz.isAgg9
 z9:=Tryz.sizeOf9
 v9:=Tryz.zeroValue9 }
theorem Tryz.strings_HasPrefix (s p:ByteArray) (w:World) :
  Calls Tryz.prog 84 #[.string s,.string p] w fun e w'=>e = .returned (.bool (Lib.hasPrefix s.data.toList p.data.toList))∧w'=w:=Any.strings_HasPrefix Tryz.lays99 s p w
def Tryz.lays197_ren:Go.Shelf.Ren:=⟨fun | 197=>72 | 260=>93 | n=>n,fun | 9=>9 | 21=>21 | 3=>3 | 4=>4 | 5=>5 | 105=>127 | 119=>142 | 0=>0 | 46=>143 | 139=>146 | 138=>145 | n=>n,fun | 3=>2 | 4=>3 | n=>n⟩
theorem Tryz.lays197:Go.Proofs.Lays.n197 Tryz.prog Tryz.lays197_ren:={
 mixed:=by kernel_rfl
 f197:=Tryz.func72.trans (congrArg some (by kernel_rfl))
 f260:=Tryz.func93.trans (congrArg some (by kernel_rfl))
 t0:=Tryz.underlying0
 a0:=Tryz.isAgg0
 z0:=Tryz.sizeOf0
 v0:=Tryz.zeroValue0
 t3:=Tryz.underlying3
 a3:=Tryz.isAgg3
 z3:=Tryz.sizeOf3
 v3:=Tryz.zeroValue3
 t4:=Tryz.underlying4
 a4:=Tryz.isAgg4
 z4:=Tryz.sizeOf4
 v4:=Tryz.zeroValue4
 t5:=Tryz.underlying5
 a5:=Tryz.isAgg5
 z5:=Tryz.sizeOf5
 v5:=Tryz.zeroValue5
 t9:=Tryz.underlying9
 a9:=Tryz.isAgg9
 z9:=Tryz.sizeOf9
 v9:=Tryz.zeroValue9
 t21:=Tryz.underlying21
 a21:=Tryz.isAgg21
 z21:=Tryz.sizeOf21
 v21:=Tryz.zeroValue21
 t46:=Tryz.underlying143
 a46:=Tryz.isAgg143
 z46:=Tryz.sizeOf143
 v46:=Tryz.zeroValue143
 t105:=Tryz.underlying127
 a105:=Tryz.isAgg127
 z105:=Tryz.sizeOf127
 v105:=Tryz.zeroValue127
 t119:=Tryz.underlying142
 a119:=Tryz.isAgg142
 z119:=Tryz.sizeOf142
 t138:=Tryz.underlying145
 a138:=Tryz.isAgg145
 z138:=Tryz.sizeOf145
 v138:=Tryz.zeroValue145
 t139:=Tryz.underlying146
 a139:=Tryz.isAgg146
 z139:=Tryz.sizeOf146
 v139:=Tryz.zeroValue146
 g3:=by kernel_rfl
 g4:=by kernel_rfl }
theorem Tryz.utf8_DecodeRuneInString (s:ByteArray) (w:World) (hT:Lib.Utf8Tabs 2 3 w) :
  Calls Tryz.prog 72 #[.string s] w fun e w'=>e = .returned (.tuple #[.int .i32 (Lib.decodeGo s).1,.int .i64 (Lib.decodeGo s).2])∧Below w.heap.size w w':=Any.utf8_DecodeRuneInString Tryz.lays197 s w hT
end Go.Proofs
namespace Go.Proofs.YtfkfnbehdcmgeaaGreatDoor
open Go Go.RowKit
def Hid (p:Prop):Prop:=p
theorem gh {p:Prop} (h:p):Hid p:=h
theorem gf {p:Prop} (h:Hid p):p:=h
set_option maxRecDepth 100000 in
set_option maxHeartbeats 16000000 in
theorem isDigit_any (r:Nat) (w:World):Calls Tryz.prog 82 #[.int .i32 r] w fun e w'=>e = .returned (.bool (isDi r))∧w'=w:=by
 have e:isDi r=(decide ((48:Int)≤(r:Int)) && decide ((r:Int)≤57)):=by unfold isDi;rw [Bool.eq_iff_iff];simp;omega
 rw [e]
 cases d1:decide ((48:Int)≤(r:Int)) <;> cases d2:decide ((r:Int)≤57)
 all_goals
  go_enter Tryz.func82,Tryz.ntmps82
  go_wp2
  go_ret
  exact ⟨rfl,rfl⟩
set_option maxRecDepth 100000 in
set_option maxHeartbeats 16000000 in
theorem isBlank_any (r:Nat) (w:World):Calls Tryz.prog 79 #[.int .i32 r] w fun e w'=>e = .returned (.bool (isBl r))∧w'=w:=by
 have e:isBl r=(((r:Int) == 32) || ((r:Int) == 9) || ((r:Int) == 10) || ((r:Int) == 13)):=by unfold isBl;rw [Bool.eq_iff_iff];simp;omega
 rw [e]
 cases d1:((r:Int) == 32) <;> cases d2:((r:Int) == 9) <;> cases d3:((r:Int) == 10) <;> cases d4:((r:Int) == 13)
 all_goals
  go_enter Tryz.func79,Tryz.ntmps79
  go_wp2
  go_ret
  exact ⟨rfl,rfl⟩
set_option maxRecDepth 100000 in
set_option maxHeartbeats 16000000 in
theorem isLetter_any (r:Nat) (w:World):Calls Tryz.prog 80 #[.int .i32 r] w fun e w'=>e = .returned (.bool (isLe r))∧w'=w:=by
 have e:isLe r=((decide ((65:Int)≤(r:Int)) && decide ((r:Int)≤90)) || (decide ((97:Int)≤(r:Int)) && decide ((r:Int)≤122)) || ((r:Int) == 95) || decide ((128:Int)≤(r:Int))):=by unfold isLe;rw [Bool.eq_iff_iff];simp;omega
 rw [e]
 cases d1:decide ((65:Int)≤(r:Int)) <;> cases d2:decide ((r:Int)≤90) <;> cases d3:decide ((97:Int)≤(r:Int)) <;> cases d4:decide ((r:Int)≤122) <;> cases d5:((r:Int) == 95) <;> cases d6:decide ((128:Int)≤(r:Int))
 all_goals
  go_enter Tryz.func80,Tryz.ntmps80
  go_wp2
  go_ret
  exact ⟨rfl,rfl⟩
set_option maxRecDepth 100000 in
set_option maxHeartbeats 16000000 in
theorem noRune_any (t:ByteArray) (r:Nat) (w:World):Calls Tryz.prog 77 #[.string t,.int .i32 r] w fun e w'=>e = .returned (.bool (r == 65533 && !fits t 0 [239,191,189]))∧w'=w:=by
 have e:(r == 65533)=((r:Int) == 65533):=by rw [Bool.eq_iff_iff];simp;omega
 rw [e]
 have hp:=hasPrefix_all t ⟨#[239,191,189]⟩
 rw [show (ByteArray.mk #[239,191,189]).data.toList.map UInt8.toNat=[239,191,189] from rfl] at hp
 rw [←hp]
 have c:=Tryz.strings_HasPrefix t ⟨#[239,191,189]⟩
 cases d1:((r:Int) == 65533) with
 |false =>
  go_enter Tryz.func77,Tryz.ntmps77
  go_wp2
  go_ret
  exact ⟨rfl,rfl⟩
 |true =>
  cases d2:Lib.hasPrefix t.data.toList (ByteArray.mk #[239,191,189]).data.toList
  all_goals
   rw [d2] at c
   go_enter Tryz.func77,Tryz.ntmps77
   go_wp2_with (refine (c _).mono ?_;rintro e w' ⟨rfl,hw⟩;rw [hw])
   go_ret
   exact ⟨rfl,rfl⟩
set_option maxRecDepth 100000 in
set_option maxHeartbeats 16000000 in
theorem refuse_any (a n:Int) (w:World):Calls Tryz.prog 78 #[.int .i64 a,.int .i64 n] w fun e w'=>e = .returned (.tuple #[.int .i64 0,.int .i64 0,.pointer (some ⟨w.heap.size,0,none⟩)])∧w'=w.alloc (.cells #[.int .i64 a,.int .i64 n] 66):=by
 go_enter Tryz.func78,Tryz.ntmps78
 go_wp2
 go_ret3
 exact ⟨rfl,rfl⟩
open Go Go.RowKit
theorem nameEnd_step (t:ByteArray) {f i n:Nat} (h:nameEnd t f i=n) (hf:t.size≤i+f) (hi:i<t.size) (hy:inName t i=true):nameEnd t (f - 1) (i+wd t i)=n∧t.size≤i+wd t i+(f - 1):=by
 have:=wd_pos t i
 obtain ⟨g,rfl⟩:∃ g,f=g+1:=⟨f - 1,by omega⟩
 unfold nameEnd at h
 rw [if_pos hi,if_pos hy] at h
 exact ⟨h,by omega⟩
theorem nameEnd_stop (t:ByteArray) {f i n:Nat} (h:nameEnd t f i=n) (hf:t.size≤i+f) (hi:i<t.size) (hy:inName t i=false):n=i:=by
 obtain ⟨g,rfl⟩:∃ g,f=g+1:=⟨f - 1,by omega⟩
 unfold nameEnd at h
 rw [if_pos hi,if_neg (by rw [hy];exact Bool.false_ne_true)] at h
 exact h.symm
theorem nameEnd_end (t:ByteArray) {f i n:Nat} (h:nameEnd t f i=n) (hi:¬ i<t.size):n=i:=by
 cases f with
 |zero=>exact h.symm
 |succ g =>
  unfold nameEnd at h
  rw [if_neg hi] at h
  exact h.symm
theorem digEnd_step (t:ByteArray) {f i n:Nat} (h:digEnd t f i=n) (hf:t.size≤i+f) (hi:i<t.size) (hy:isDi (rn t i)=true):digEnd t (f - 1) (i+1)=n∧t.size≤i+1+(f - 1):=by
 obtain ⟨g,rfl⟩:∃ g,f=g+1:=⟨f - 1,by omega⟩
 unfold digEnd at h
 rw [if_pos hi,if_pos hy] at h
 exact ⟨h,by omega⟩
theorem digEnd_stop (t:ByteArray) {f i n:Nat} (h:digEnd t f i=n) (hf:t.size≤i+f) (hi:i<t.size) (hy:isDi (rn t i)=false):n=i:=by
 obtain ⟨g,rfl⟩:∃ g,f=g+1:=⟨f - 1,by omega⟩
 unfold digEnd at h
 rw [if_pos hi,if_neg (by rw [hy];exact Bool.false_ne_true)] at h
 exact h.symm
theorem digEnd_end (t:ByteArray) {f i n:Nat} (h:digEnd t f i=n) (hi:¬ i<t.size):n=i:=by
 cases f with
 |zero=>exact h.symm
 |succ g =>
  unfold digEnd at h
  rw [if_neg hi] at h
  exact h.symm
theorem isDi_wd (t:ByteArray) (i:Nat) (h:isDi (rn t i)=true):wd t i=1:=by
 refine (rn_low t i ?_).2
 unfold isDi at h
 simp at h
 omega
theorem noRune_at (t:ByteArray) (i:Nat) (w:World):Calls Tryz.prog 77 #[.string (t.extract i t.size),.int .i32 (rn t i)] w fun e w'=>e = .returned (.bool (noR t i))∧w'=w:=by
 have h:=noRune_any (t.extract i t.size) (rn t i) w
 have e:(rn t i == 65533 && !fits (t.extract i t.size) 0 [239,191,189])=noR t i:=by
  rw [noR_fits]
  have h1:=hasPrefix_rest t i ⟨#[239,191,189]⟩
  have h2:=hasPrefix_all (t.extract i t.size) ⟨#[239,191,189]⟩
  rw [h1] at h2
  have h3:(ByteArray.mk #[239,191,189]).data.toList.map UInt8.toNat=[239,191,189]:=rfl
  rw [h3] at h2
  rw [←h2]
 rw [e] at h
 exact h
set_option maxRecDepth 100000 in
set_option maxHeartbeats 16000000 in
theorem digitsLength_any (t:ByteArray) (ht:t.size≤1000000) (w:World):Calls Tryz.prog 103 #[.string t] w fun e w'=>e = .returned (.int .i64 (digEnd t t.size 0))∧Below w.heap.size w w':=by
 obtain ⟨n,hn⟩:∃ n,digEnd t t.size 0=n:=⟨_,rfl⟩
 rw [hn]
 have hn':=gh hn
 clear hn
 go_enter Tryz.func103,Tryz.ntmps103
 go_wp2
 go_loopw [3] (fun _ wr=>∃ (pos fuel:Nat),wr=w.iter t pos∧digEnd t fuel pos=n∧t.size≤pos+fuel∧pos≤t.size) (fun _ wr=>t.size - wr.iterPos w.heap.size)
 case atStart=>exact ⟨0,t.size,rfl,gf hn',by omega,by omega⟩
 case round =>
  obtain ⟨pos,fuel,rfl,hd,hf,hle⟩:=hrel
  by_cases hp:pos<t.size
  ·have hnx:∀ ty,(Instr.next (.pointer (some ⟨w.heap.size,0,none⟩)) true ty).run Tryz.prog (w.iter t pos) = .ok (.tuple #[.bool true,.int .i64 pos,.int .i32 (rn t pos)]) (w.iter t (pos+wd t pos)):=fun ty=>run_next_any w t pos ty hp
   cases hy:isDi (rn t pos) with
   |true =>
    have hs:=gh (digEnd_step t hd hf hp hy)
    have hw:=isDi_wd t pos hy
    have hd:=gh hd
    rw [hw] at hnx
    go_wp2_with (refine (isDigit_any _ _).mono ?_;rintro e w' ⟨rfl,hw'⟩;rw [hw',hy])
    go_roundw
    case rel=>exact ⟨pos+1,fuel - 1,rfl,(gf hs).1,(gf hs).2,by omega⟩
    case measure=>simp [World.iterPos_iter];omega
   |false =>
    have hs:=digEnd_stop t hd hf hp hy
    subst hs
    have hd:=gh hd
    go_wp2_with (refine (isDigit_any _ _).mono ?_;rintro e w' ⟨rfl,hw'⟩;rw [hw',hy])
    go_ret
    exact ⟨rfl,(Below.refl _ w).alloc (Nat.le_refl _) _⟩
  ·have hnx:∀ ty,(Instr.next (.pointer (some ⟨w.heap.size,0,none⟩)) true ty).run Tryz.prog (w.iter t pos) = .ok (.tuple #[.bool false]) (w.iter t pos):=fun ty=>run_next_end w t pos ty hp
   have hs:n=t.size:=by have:=digEnd_end t hd hp;omega
   subst hs
   have hd:=gh hd
   go_wp2
   go_ret
   exact ⟨rfl,(Below.refl _ w).alloc (Nat.le_refl _) _⟩
set_option maxRecDepth 100000 in
set_option maxHeartbeats 16000000 in
theorem nameLength_any (t:ByteArray) (ht:t.size≤1000000) (w:World):Calls Tryz.prog 101 #[.string t] w fun e w'=>e = .returned (.int .i64 (nameEnd t t.size 0))∧Below w.heap.size w w':=by
 obtain ⟨n,hn⟩:∃ n,nameEnd t t.size 0=n:=⟨_,rfl⟩
 rw [hn]
 have hn':=gh hn
 clear hn
 go_enter Tryz.func101,Tryz.ntmps101
 go_wp2
 go_loopw [3] (fun _ wr=>∃ (pos fuel:Nat),wr=w.iter t pos∧nameEnd t fuel pos=n∧t.size≤pos+fuel∧pos≤t.size) (fun _ wr=>t.size - wr.iterPos w.heap.size)
 case atStart=>exact ⟨0,t.size,rfl,gf hn',by omega,by omega⟩
 case round =>
  obtain ⟨pos,fuel,rfl,hd,hf,hle⟩:=hrel
  by_cases hp:pos<t.size
  ·have hnx:∀ ty,(Instr.next (.pointer (some ⟨w.heap.size,0,none⟩)) true ty).run Tryz.prog (w.iter t pos) = .ok (.tuple #[.bool true,.int .i64 pos,.int .i32 (rn t pos)]) (w.iter t (pos+wd t pos)):=fun ty=>run_next_any w t pos ty hp
   have hw0:=wd_le t pos hp
   have hw1:=wd_pos t pos
   cases h0:noR t pos <;> cases h1:isLe (rn t pos) <;> cases h2:isDi (rn t pos)
   all_goals first
    |(have hy:inName t pos=true:=by (unfold inName;rw [h0,h1,h2];rfl)
      have hs:=gh (nameEnd_step t hd hf hp hy)
      have hd:=gh hd
      clear hy
      go_wp2_with (first | (refine (noRune_at _ _ _).mono ?_;rintro e w' ⟨rfl,hw'⟩;rw [hw',h0]) | (refine (isLetter_any _ _).mono ?_;rintro e w' ⟨rfl,hw'⟩;rw [hw',h1]) | (refine (isDigit_any _ _).mono ?_;rintro e w' ⟨rfl,hw'⟩;rw [hw',h2]))
      go_roundw
      case rel=>exact ⟨pos+wd t pos,fuel - 1,rfl,(gf hs).1,(gf hs).2,by omega⟩
      case measure=>simp [World.iterPos_iter];omega)
    |(have hy:inName t pos=false:=by (unfold inName;rw [h0,h1,h2];rfl)
      have hs:=nameEnd_stop t hd hf hp hy
      subst hs
      have hd:=gh hd
      clear hy
      go_wp2_with (first | (refine (noRune_at _ _ _).mono ?_;rintro e w' ⟨rfl,hw'⟩;rw [hw',h0]) | (refine (isLetter_any _ _).mono ?_;rintro e w' ⟨rfl,hw'⟩;rw [hw',h1]) | (refine (isDigit_any _ _).mono ?_;rintro e w' ⟨rfl,hw'⟩;rw [hw',h2]))
      go_ret
      exact ⟨rfl,(Below.refl _ w).alloc (Nat.le_refl _) _⟩)
  ·have hnx:∀ ty,(Instr.next (.pointer (some ⟨w.heap.size,0,none⟩)) true ty).run Tryz.prog (w.iter t pos) = .ok (.tuple #[.bool false]) (w.iter t pos):=fun ty=>run_next_end w t pos ty hp
   have hs:n=t.size:=by have:=nameEnd_end t hd hp;omega
   subst hs
   have hd:=gh hd
   go_wp2
   go_ret
   exact ⟨rfl,(Below.refl _ w).alloc (Nat.le_refl _) _⟩
theorem isWd_yes (s:ByteArray) (l:List UInt8) (hl:l∈wordL) (h:(s.toList == l)=true):isWd s=true:=by
 unfold isWd
 rw [←Lib.toList_data]
 exact List.any_eq_true.2 ⟨l,hl,h⟩
set_option maxRecDepth 100000 in
set_option maxHeartbeats 64000000 in
theorem lexWord_any (s:ByteArray) (w:World):Calls Tryz.prog 102 #[.string s] w fun e w'=>e = .returned (.bool (isWd s))∧w'=w:=by
 rcases Bool.eq_false_or_eq_true (s.toList == [108,101,116]) with e0 | e0
 ·rw [isWd_yes s [108,101,116] (by decide) e0]
  go_enter Tryz.func102,Tryz.ntmps102
  go_wp2
  go_ret
  exact ⟨rfl,rfl⟩
 rcases Bool.eq_false_or_eq_true (s.toList == [114,101,99]) with e1 | e1
 ·rw [isWd_yes s [114,101,99] (by decide) e1]
  go_enter Tryz.func102,Tryz.ntmps102
  go_wp2
  go_ret
  exact ⟨rfl,rfl⟩
 rcases Bool.eq_false_or_eq_true (s.toList == [114,101,102]) with e2 | e2
 ·rw [isWd_yes s [114,101,102] (by decide) e2]
  go_enter Tryz.func102,Tryz.ntmps102
  go_wp2
  go_ret
  exact ⟨rfl,rfl⟩
 rcases Bool.eq_false_or_eq_true (s.toList == [105,115]) with e3 | e3
 ·rw [isWd_yes s [105,115] (by decide) e3]
  go_enter Tryz.func102,Tryz.ntmps102
  go_wp2
  go_ret
  exact ⟨rfl,rfl⟩
 rcases Bool.eq_false_or_eq_true (s.toList == [105,110]) with e4 | e4
 ·rw [isWd_yes s [105,110] (by decide) e4]
  go_enter Tryz.func102,Tryz.ntmps102
  go_wp2
  go_ret
  exact ⟨rfl,rfl⟩
 rcases Bool.eq_false_or_eq_true (s.toList == [105,102]) with e5 | e5
 ·rw [isWd_yes s [105,102] (by decide) e5]
  go_enter Tryz.func102,Tryz.ntmps102
  go_wp2
  go_ret
  exact ⟨rfl,rfl⟩
 rcases Bool.eq_false_or_eq_true (s.toList == [116,104,101,110]) with e6 | e6
 ·rw [isWd_yes s [116,104,101,110] (by decide) e6]
  go_enter Tryz.func102,Tryz.ntmps102
  go_wp2
  go_ret
  exact ⟨rfl,rfl⟩
 rcases Bool.eq_false_or_eq_true (s.toList == [101,108,115,101]) with e7 | e7
 ·rw [isWd_yes s [101,108,115,101] (by decide) e7]
  go_enter Tryz.func102,Tryz.ntmps102
  go_wp2
  go_ret
  exact ⟨rfl,rfl⟩
 rcases Bool.eq_false_or_eq_true (s.toList == [116,114,121]) with e8 | e8
 ·rw [isWd_yes s [116,114,121] (by decide) e8]
  go_enter Tryz.func102,Tryz.ntmps102
  go_wp2
  go_ret
  exact ⟨rfl,rfl⟩
 rcases Bool.eq_false_or_eq_true (s.toList == [119,105,116,104]) with e9 | e9
 ·rw [isWd_yes s [119,105,116,104] (by decide) e9]
  go_enter Tryz.func102,Tryz.ntmps102
  go_wp2
  go_ret
  exact ⟨rfl,rfl⟩
 rcases Bool.eq_false_or_eq_true (s.toList == [114,97,105,115,101]) with e10 | e10
 ·rw [isWd_yes s [114,97,105,115,101] (by decide) e10]
  go_enter Tryz.func102,Tryz.ntmps102
  go_wp2
  go_ret
  exact ⟨rfl,rfl⟩
 rcases Bool.eq_false_or_eq_true (s.toList == [97,115,115,101,114,116]) with e11 | e11
 ·rw [isWd_yes s [97,115,115,101,114,116] (by decide) e11]
  go_enter Tryz.func102,Tryz.ntmps102
  go_wp2
  go_ret
  exact ⟨rfl,rfl⟩
 rcases Bool.eq_false_or_eq_true (s.toList == [111,108,100]) with e12 | e12
 ·rw [isWd_yes s [111,108,100] (by decide) e12]
  go_enter Tryz.func102,Tryz.ntmps102
  go_wp2
  go_ret
  exact ⟨rfl,rfl⟩
 rcases Bool.eq_false_or_eq_true (s.toList == [114,101,113,117,105,114,101,115]) with e13 | e13
 ·rw [isWd_yes s [114,101,113,117,105,114,101,115] (by decide) e13]
  go_enter Tryz.func102,Tryz.ntmps102
  go_wp2
  go_ret
  exact ⟨rfl,rfl⟩
 rcases Bool.eq_false_or_eq_true (s.toList == [101,110,115,117,114,101,115]) with e14 | e14
 ·rw [isWd_yes s [101,110,115,117,114,101,115] (by decide) e14]
  go_enter Tryz.func102,Tryz.ntmps102
  go_wp2
  go_ret
  exact ⟨rfl,rfl⟩
 rcases Bool.eq_false_or_eq_true (s.toList == [100,101,99,114,101,97,115,101,115]) with e15 | e15
 ·rw [isWd_yes s [100,101,99,114,101,97,115,101,115] (by decide) e15]
  go_enter Tryz.func102,Tryz.ntmps102
  go_wp2
  go_ret
  exact ⟨rfl,rfl⟩
 rcases Bool.eq_false_or_eq_true (s.toList == [105,110,116]) with e16 | e16
 ·rw [isWd_yes s [105,110,116] (by decide) e16]
  go_enter Tryz.func102,Tryz.ntmps102
  go_wp2
  go_ret
  exact ⟨rfl,rfl⟩
 rcases Bool.eq_false_or_eq_true (s.toList == [98,111,111,108]) with e17 | e17
 ·rw [isWd_yes s [98,111,111,108] (by decide) e17]
  go_enter Tryz.func102,Tryz.ntmps102
  go_wp2
  go_ret
  exact ⟨rfl,rfl⟩
 rcases Bool.eq_false_or_eq_true (s.toList == [117,110,105,116]) with e18 | e18
 ·rw [isWd_yes s [117,110,105,116] (by decide) e18]
  go_enter Tryz.func102,Tryz.ntmps102
  go_wp2
  go_ret
  exact ⟨rfl,rfl⟩
 rcases Bool.eq_false_or_eq_true (s.toList == [116,114,117,101]) with e19 | e19
 ·rw [isWd_yes s [116,114,117,101] (by decide) e19]
  go_enter Tryz.func102,Tryz.ntmps102
  go_wp2
  go_ret
  exact ⟨rfl,rfl⟩
 rcases Bool.eq_false_or_eq_true (s.toList == [102,97,108,115,101]) with e20 | e20
 ·rw [isWd_yes s [102,97,108,115,101] (by decide) e20]
  go_enter Tryz.func102,Tryz.ntmps102
  go_wp2
  go_ret
  exact ⟨rfl,rfl⟩
 rcases Bool.eq_false_or_eq_true (s.toList == [110,111,116]) with e21 | e21
 ·rw [isWd_yes s [110,111,116] (by decide) e21]
  go_enter Tryz.func102,Tryz.ntmps102
  go_wp2
  go_ret
  exact ⟨rfl,rfl⟩
 rcases Bool.eq_false_or_eq_true (s.toList == [80,117,114,101]) with e22 | e22
 ·rw [isWd_yes s [80,117,114,101] (by decide) e22]
  go_enter Tryz.func102,Tryz.ntmps102
  go_wp2
  go_ret
  exact ⟨rfl,rfl⟩
 rcases Bool.eq_false_or_eq_true (s.toList == [83,116,97,116,101]) with e23 | e23
 ·rw [isWd_yes s [83,116,97,116,101] (by decide) e23]
  go_enter Tryz.func102,Tryz.ntmps102
  go_wp2
  go_ret
  exact ⟨rfl,rfl⟩
 rcases Bool.eq_false_or_eq_true (s.toList == [69,120,110]) with e24 | e24
 ·rw [isWd_yes s [69,120,110] (by decide) e24]
  go_enter Tryz.func102,Tryz.ntmps102
  go_wp2
  go_ret
  exact ⟨rfl,rfl⟩
 rcases Bool.eq_false_or_eq_true (s.toList == [65,108,108]) with e25 | e25
 ·rw [isWd_yes s [65,108,108] (by decide) e25]
  go_enter Tryz.func102,Tryz.ntmps102
  go_wp2
  go_ret
  exact ⟨rfl,rfl⟩
 rcases Bool.eq_false_or_eq_true (s.toList == [68,105,118]) with e26 | e26
 ·rw [isWd_yes s [68,105,118] (by decide) e26]
  go_enter Tryz.func102,Tryz.ntmps102
  go_wp2
  go_ret
  exact ⟨rfl,rfl⟩
 rw [show isWd s=false from by
  unfold isWd
  rw [←Lib.toList_data]
  simp only [wordL,List.any_cons,List.any_nil,e0,e1,e2,e3,e4,e5,e6,e7,e8,e9,e10,e11,e12,e13,e14,e15,e16,e17,e18,e19,e20,e21,e22,e23,e24,e25,e26]
  rfl]
 go_enter Tryz.func102,Tryz.ntmps102
 go_wp2
 go_ret
 exact ⟨rfl,rfl⟩
def RdP (x:Int×Nat×Option (Nat×Nat)) (w:World) (e:Ending) (w':World):Prop:=
 Below w.heap.size w w'∧((x.2.2=none∧e = .returned (.tuple #[.int .i64 x.1,.int .i64 x.2.1,.pointer none])) ∨
  ∃ (a n b:Nat),x.2.2=some (a,n)∧w.heap.size≤b∧e = .returned (.tuple #[.int .i64 0,.int .i64 0,.pointer (some ⟨b,0,none⟩)])∧w'.heap[b]?=some (.cells #[.int .i64 a,.int .i64 n] 66))
theorem RdP.ok {k:Int} {j:Nat} {w w':World} {z:Value} (h:Below w.heap.size w w') (hz:z = .int .i64 j):RdP (k,j,none) w (.returned (.tuple #[.int .i64 k,z,.pointer none])) w':=⟨h,.inl ⟨rfl,by rw [hz]⟩⟩
theorem heap_new (w:World) (o:Obj):(w.alloc o).heap[w.heap.size]?=some o:=by
 show (w.heap.push o)[w.heap.size]?=_
 simp
theorem RdP.err {a n:Nat} {w w':World} (h:Below w.heap.size w w'):RdP (0,0,some (a,n)) w (.returned (.tuple #[.int .i64 0,.int .i64 0,.pointer (some ⟨w'.heap.size,0,none⟩)])) (w'.alloc (.cells #[.int .i64 a,.int .i64 n] 66)):=
 ⟨h.alloc h.size _,.inr ⟨a,n,_,rfl,h.size,rfl,heap_new _ _⟩⟩
theorem sl2 (s:ByteArray) (i j:Nat) (z:Int) (hz:z=(j:Int)) (h1:i≤j) (h2:j≤s.size) (w:World):(Instr.slice 9 (.string s) (some (.int .i64 i)) (some (.int .i64 z)) none).run Tryz.prog w = .ok (.string (s.extract i j)) w:=by
 subst hz
 have:=run_slice_string (P:=Tryz.prog) w 9 s .i64 .i64 i j Tryz.underlying9 (by omega) (by omega) (by omega)
 rw [Int.toNat_natCast,Int.toNat_natCast] at this
 exact this
theorem nameEnd_le (s:ByteArray):∀ f i,i≤s.size→i≤nameEnd s f i∧nameEnd s f i≤s.size:=by
 intro f
 induction f with
 |zero=>intro i h;exact ⟨Nat.le_refl _,h⟩
 |succ f ih =>
  intro i h
  unfold nameEnd
  by_cases h0:i<s.size
  ·rw [if_pos h0]
   have:=wd_le s i h0
   cases inName s i with
   |true=>rw [if_pos rfl];have:=ih (i+wd s i) this;omega
   |false=>rw [if_neg Bool.false_ne_true];omega
  ·rw [if_neg h0];omega
theorem digEnd_le (s:ByteArray):∀ f i,i≤s.size→i≤digEnd s f i∧digEnd s f i≤s.size:=by
 intro f
 induction f with
 |zero=>intro i h;exact ⟨Nat.le_refl _,h⟩
 |succ f ih =>
  intro i h
  unfold digEnd
  by_cases h0:i<s.size
  ·rw [if_pos h0]
   cases isDi (rn s i) with
   |true=>rw [if_pos rfl];have:=ih (i+1) h0;omega
   |false=>rw [if_neg Bool.false_ne_true];omega
  ·rw [if_neg h0];omega
set_option maxRecDepth 100000 in
set_option maxHeartbeats 16000000 in
theorem readName_any (s:ByteArray) (i:Nat) (hi:i<s.size) (hs:s.size≤65536) (w:World):Calls Tryz.prog 81 #[.string s,.int .i64 i] w (RdP (rdName s i) w):=by
 obtain ⟨n,hn⟩:∃ n,nameEnd s (s.size - i) i=i+n:=⟨nameEnd s (s.size - i) i - i,by have:=nameEnd_le s (s.size - i) i (by omega);omega⟩
 have hle:i+n≤s.size:=by rw [←hn];exact (nameEnd_le s (s.size - i) i (by omega)).2
 have c:=nameLength_any (s.extract i s.size) (by rw [rest_size];omega)
 have e:nameEnd (s.extract i s.size) (s.extract i s.size).size 0=n:=by
  have h:=rest_nameEnd s i (s.extract i s.size).size 0
  rw [rest_size,Nat.add_zero,hn] at h
  rw [rest_size]
  omega
 rw [e] at c
 unfold rdName
 rw [hn]
 clear e hn
 by_cases h40:40<n
 ·rw [if_pos (show 40<i+n - i by omega)]
  go_enter Tryz.func81,Tryz.ntmps81
  go_wp2_with (first | (refine (c _).mono ?_;rintro e w2 ⟨rfl,hb⟩) | (refine (refuse_any _ _ _).mono ?_;rintro e w3 ⟨rfl,rfl⟩))
  go_ret3
  exact RdP.err hb
 ·rw [if_neg (show ¬ 40<i+n - i by omega)]
  have wd2:=lexWord_any (s.extract i (i+n))
  have hsl:=fun W=>sl2 s i (i+n) ((i:Int)+n) (by omega) (by omega) hle W
  cases hw:isWd (s.extract i (i+n)) with
  |true =>
   rw [if_pos rfl]
   rw [hw] at wd2
   go_enter Tryz.func81,Tryz.ntmps81
   go_wp2_with (first | (refine (c _).mono ?_;rintro e w2 ⟨rfl,hb⟩) | (refine (wd2 _).mono ?_;rintro e w3 ⟨rfl,rfl⟩))
   go_ret3
   exact RdP.ok hb (by simp)
  |false =>
   rw [if_neg Bool.false_ne_true]
   rw [hw] at wd2
   go_enter Tryz.func81,Tryz.ntmps81
   go_wp2_with (first | (refine (c _).mono ?_;rintro e w2 ⟨rfl,hb⟩) | (refine (wd2 _).mono ?_;rintro e w3 ⟨rfl,rfl⟩))
   go_ret3
   exact RdP.ok hb (by simp)
set_option maxRecDepth 100000 in
set_option maxHeartbeats 16000000 in
theorem readNumber_any (s:ByteArray) (i:Nat) (hi:i<s.size) (hs:s.size≤65536) (w:World):Calls Tryz.prog 83 #[.string s,.int .i64 i] w (RdP (rdNum s i) w):=by
 obtain ⟨n,hn⟩:∃ n,digEnd s (s.size - i) i=i+n:=⟨digEnd s (s.size - i) i - i,by have:=digEnd_le s (s.size - i) i (by omega);omega⟩
 have hle:i+n≤s.size:=by rw [←hn];exact (digEnd_le s (s.size - i) i (by omega)).2
 have c:=digitsLength_any (s.extract i s.size) (by rw [rest_size];omega)
 have e:digEnd (s.extract i s.size) (s.extract i s.size).size 0=n:=by
  have h:=rest_digEnd s i (s.extract i s.size).size 0
  rw [rest_size,Nat.add_zero,hn] at h
  rw [rest_size]
  omega
 rw [e] at c
 unfold rdNum
 rw [hn]
 clear e hn
 rw [show i+n - i=n by omega]
 have hx:(s[i]'hi).toNat=By s i:=by unfold By;rw [get_lt s i hi]
 cases h0:(By s i == 48) with
 |true =>
  have h0':(((By s i:Nat):Int) == 48)=true:=by simp at h0 ⊢;omega
  by_cases h1:1<n
  ·have d1:decide (1<n)=true:=by simpa using h1
   rw [d1,if_pos (show (true && true)=true from rfl)]
   go_enter Tryz.func83,Tryz.ntmps83
   go_wp2_with (first | (refine (c _).mono ?_;rintro e w2 ⟨rfl,hb⟩) | (refine (refuse_any _ _ _).mono ?_;rintro e w3 ⟨rfl,rfl⟩))
   go_ret3
   exact RdP.err hb
  ·have d1:decide (1<n)=false:=by simpa using h1
   rw [d1,if_neg (by simp),if_neg (by omega)]
   go_enter Tryz.func83,Tryz.ntmps83
   go_wp2_with (first | (refine (c _).mono ?_;rintro e w2 ⟨rfl,hb⟩) | (refine (refuse_any _ _ _).mono ?_;rintro e w3 ⟨rfl,rfl⟩))
   go_ret3
   exact RdP.ok hb (by simp)
 |false =>
  have h0':(((By s i:Nat):Int) == 48)=false:=by simp at h0 ⊢;omega
  rw [if_neg (by simp)]
  by_cases h1:400<n
  ·rw [if_pos h1]
   go_enter Tryz.func83,Tryz.ntmps83
   go_wp2_with (first | (refine (c _).mono ?_;rintro e w2 ⟨rfl,hb⟩) | (refine (refuse_any _ _ _).mono ?_;rintro e w3 ⟨rfl,rfl⟩))
   go_ret3
   exact RdP.err hb
  ·rw [if_neg h1]
   go_enter Tryz.func83,Tryz.ntmps83
   go_wp2_with (first | (refine (c _).mono ?_;rintro e w2 ⟨rfl,hb⟩) | (refine (refuse_any _ _ _).mono ?_;rintro e w3 ⟨rfl,rfl⟩))
   go_ret3
   exact RdP.ok hb (by simp)
theorem sl1 (s:ByteArray) (j:Nat) (z:Int) (hz:z=(j:Int)) (h2:j≤s.size) (w:World):(Instr.slice 9 (.string s) (some (.int .i64 z)) none none).run Tryz.prog w = .ok (.string (s.extract j s.size)) w:=by
 subst hz
 have hc:(0:Int)≤(j:Int)∧(j:Int)≤(s.size:Int):=⟨by omega,by omega⟩
 simp [Instr.slice,Instr.sliceBounds,Instr.sliceBound,asIntOf,run_underlying Tryz.underlying9,hc]
 intro h
 omega
theorem RdP.err2 {a n:Nat} {x:Int×Nat×Option (Nat×Nat)} {z:Int} {w w':World} (h:Below w.heap.size w w') (hz:z=(a:Int)) (hx:x=(0,0,some (a,n))):RdP x w (.returned (.tuple #[.int .i64 0,.int .i64 0,.pointer (some ⟨w'.heap.size,0,none⟩)])) (w'.alloc (.cells #[.int .i64 z,.int .i64 n] 66)):=by
 subst hz hx
 exact RdP.err h
theorem RdP.ok2 {k:Int} {j:Nat} {x:Int×Nat×Option (Nat×Nat)} {w w':World} {z:Int} (h:Below w.heap.size w w') (hz:z=(j:Int)) (hx:x=(k,j,none)):RdP x w (.returned (.tuple #[.int .i64 k,.int .i64 z,.pointer none])) w':=by
 subst hz hx
 exact RdP.ok h rfl
theorem cmt_end (s:ByteArray) {f i:Nat} {b:Bool} {c:Nat×Nat} (h:cmt s f i b=c) (hi:¬ i<s.size):c=(0,2):=by
 cases f with
 |zero=>exact h.symm
 |succ f =>
  unfold cmt at h
  rw [if_neg hi] at h
  exact h.symm
theorem cmt_bad (s:ByteArray) {f i:Nat} {b:Bool} {c:Nat×Nat} (h:cmt s f i b=c) (hf:s.size≤i+f) (hi:i<s.size) (hn:noR s i=true):c=(i,1):=by
 obtain ⟨g,rfl⟩:∃ g,f=g+1:=⟨f - 1,by omega⟩
 unfold cmt at h
 rw [if_pos hi,if_pos hn] at h
 exact h.symm
theorem cmt_close (s:ByteArray) {f i:Nat} {b:Bool} {c:Nat×Nat} (h:cmt s f i b=c) (hf:s.size≤i+f) (hi:i<s.size) (hn:noR s i=false) (hb:b=true) (h41:rn s i=41):c=(i+1,0):=by
 obtain ⟨g,rfl⟩:∃ g,f=g+1:=⟨f - 1,by omega⟩
 unfold cmt at h
 rw [if_pos hi,hn,if_neg Bool.false_ne_true,hb,h41,if_pos (by rfl)] at h
 exact h.symm
theorem cmt_step (s:ByteArray) {f i:Nat} {b:Bool} {c:Nat×Nat} (h:cmt s f i b=c) (hf:s.size≤i+f) (hi:i<s.size) (hn:noR s i=false) (hb:(b && rn s i == 41)=false):cmt s (f - 1) (i+wd s i) (rn s i == 42)=c∧s.size≤i+wd s i+(f - 1):=by
 have:=wd_pos s i
 obtain ⟨g,rfl⟩:∃ g,f=g+1:=⟨f - 1,by omega⟩
 unfold cmt at h
 rw [if_pos hi,hn,if_neg Bool.false_ne_true,hb,if_neg Bool.false_ne_true] at h
 exact ⟨h,by omega⟩
set_option maxRecDepth 100000 in
set_option maxHeartbeats 16000000 in
theorem readComment_any (s:ByteArray) (i:Nat) (hi:i+2≤s.size) (hs:s.size≤65536) (w:World):Calls Tryz.prog 85 #[.string s,.int .i64 i] w (RdP (rdCmt s i) w):=by
 obtain ⟨c,hc⟩:∃ c,cmt s (s.size - (i+2)) (i+2) false=c:=⟨_,rfl⟩
 unfold rdCmt
 rw [hc]
 obtain ⟨x,hx⟩:∃ x,(if c.2=0 then (-1,c.1,none) else if c.2=1 then (0,0,some (c.1,140)) else (0,0,some (i,140)):Int×Nat×Option (Nat×Nat))=x:=⟨_,rfl⟩
 rw [hx]
 have hx:=gh hx
 have hc:=gh hc
 obtain ⟨t,ht⟩:∃ t,s.extract (i+2) s.size=t:=⟨_,rfl⟩
 have htz:t.size=s.size - (i+2):=by rw [←ht,rest_size]
 have hrn:∀ p,rn t p=rn s (i+2+p):=fun p=>by rw [←ht,rest_rn]
 have hwd:∀ p,wd t p=wd s (i+2+p):=fun p=>by rw [←ht,rest_wd]
 have hsl:=fun W=>sl1 s (i+2) ((i:Int)+2) (by omega) hi W
 rw [ht] at hsl
 have ht:=gh ht
 have htz:=gh htz
 have hrn:=gh hrn
 have hwd:=gh hwd
 go_enter Tryz.func85,Tryz.ntmps85
 go_wp2
 go_loopw [8] (fun st wr=>∃ (pos fuel:Nat) (star:Bool),st = .bool star∧wr=w.iter t pos∧cmt s fuel (i+2+pos) star=c∧s.size≤i+2+pos+fuel∧i+2+pos≤s.size) (fun _ wr=>t.size - wr.iterPos w.heap.size)
 case atStart=>exact ⟨0,s.size - (i+2),false,rfl,rfl,gf hc,by omega,by omega⟩
 case round =>
  obtain ⟨pos,fuel,star,rfl,rfl,hd,hf,hle⟩:=hrel
  have hbw:Below w.heap.size w (w.iter t pos):=(Below.refl _ w).alloc (Nat.le_refl _) _
  by_cases hp:i+2+pos<s.size
  ·have hp':pos<t.size:=by rw [gf htz];omega
   have hnx:∀ ty,(Instr.next (.pointer (some ⟨w.heap.size,0,none⟩)) true ty).run Tryz.prog (w.iter t pos) = .ok (.tuple #[.bool true,.int .i64 pos,.int .i32 (rn s (i+2+pos))]) (w.iter t (pos+wd s (i+2+pos))):=fun ty=>by
    rw [←gf hrn,←gf hwd]
    exact run_next_any w t pos ty hp'
   have hp':=gh hp'
   have hbw2:Below w.heap.size w (w.iter t (pos+wd s (i+2+pos))):=(Below.refl _ w).alloc (Nat.le_refl _) _
   have hs2:=fun W=>sl1 s (i+2+pos) ((i:Int)+2+pos) (by omega) hle W
   have cR:=noRune_at s (i+2+pos)
   obtain ⟨r,hr⟩:∃ r,rn s (i+2+pos)=r:=⟨_,rfl⟩
   cases h0:noR s (i+2+pos) with
   |true =>
    have hs:=cmt_bad s hd hf hp h0
    have hd:=gh hd
    rw [h0] at cR
    rw [hr] at cR hnx
    go_wp2_with (first | (refine (cR _).mono ?_;rintro e w2 ⟨rfl,rfl⟩) | (refine (refuse_any _ _ _).mono ?_;rintro e w3 ⟨rfl,rfl⟩))
    go_ret3
    refine RdP.err2 (a:=i+2+pos) hbw2 (by omega) ?_
    rw [←gf hx,hs]
    rfl
   |false =>
    rw [h0] at cR
    cases h1:(star && r == 41) with
    |true =>
     obtain ⟨rfl,rfl⟩:star=true∧r=41:=by simpa using h1
     have hs:=cmt_close s hd hf hp h0 rfl hr
     have hd:=gh hd
     have hs:=gh hs
     rw [hr] at cR hnx
     clear h1
     go_wp2_with (refine (cR _).mono ?_;rintro e w2 ⟨rfl,rfl⟩)
     go_ret3
     refine RdP.ok2 (j:=i+2+pos+1) hbw2 (by omega) ?_
     rw [←gf hx,gf hs]
     rfl
    |false =>
     have hs:=gh (cmt_step s hd hf hp h0 (by rw [hr];exact h1))
     have hd:=gh hd
     have w1:=wd_pos s (i+2+pos)
     have w2':=wd_le s (i+2+pos) hp
     have e42:(((r:Nat):Int) == 42)=(r == 42):=by rw [Bool.eq_iff_iff];simp;omega
     have e42:=gh e42
     have htz2:=gf htz
     rw [hr] at cR hnx
     cases star with
     |false =>
      clear h1
      go_wp2_with (refine (cR _).mono ?_;rintro e w2 ⟨rfl,rfl⟩)
      go_roundw
      case rel=>exact ⟨pos+wd s (i+2+pos),fuel - 1,_,rfl,rfl,by have:=(gf hs).1;rw [hr] at this;rw [←Nat.add_assoc];exact this,by have:=(gf hs).2;omega,by omega⟩
      case measure=>simp [World.iterPos_iter];omega
     |true =>
      have d41:(((r:Nat):Int) == 41)=false:=by simp at h1 ⊢;omega
      clear h1
      go_wp2_with (refine (cR _).mono ?_;rintro e w2 ⟨rfl,rfl⟩)
      go_roundw
      case rel=>exact ⟨pos+wd s (i+2+pos),fuel - 1,_,rfl,rfl,by have:=(gf hs).1;rw [hr] at this;rw [←Nat.add_assoc];exact this,by have:=(gf hs).2;omega,by omega⟩
      case measure=>simp [World.iterPos_iter];omega
  ·have hnx:∀ ty,(Instr.next (.pointer (some ⟨w.heap.size,0,none⟩)) true ty).run Tryz.prog (w.iter t pos) = .ok (.tuple #[.bool false]) (w.iter t pos):=fun ty=>run_next_end w t pos ty (by rw [gf htz];omega)
   have hs:=gh (cmt_end s hd hp)
   have hd:=gh hd
   go_wp2_with (refine (refuse_any _ _ _).mono ?_;rintro e w3 ⟨rfl,rfl⟩)
   go_ret3
   refine RdP.err2 hbw rfl ?_
   rw [←gf hx,gf hs]
   rfl
def sgB (k:Nat):ByteArray:=⟨((signL.getD k []).map UInt8.ofNat).toArray⟩
def signV:List Value:=(List.range 25).map fun k => .string (sgB k)
def SG (w:World):Prop:=∃ t fr,w.heap[1]?=some (.cells signV.toArray t fr)
theorem SG.below {w w':World} {B:Nat} (h:SG w) (hb:Below B w w') (hB:1<B):SG w':=by
 obtain ⟨t,fr,h⟩:=h
 exact ⟨t,fr,by rw [hb.block 1 hB];exact h⟩
theorem SG.lt {w:World} (h:SG w):1<w.heap.size:=by
 obtain ⟨t,fr,h⟩:=h
 exact (Array.getElem?_eq_some_iff.1 h).1
theorem sgB_nat:∀ k,k<25→(sgB k).data.toList.map UInt8.toNat=signL.getD k []:=by decide
theorem sgB_size:∀ k,k<25→(sgB k).size=(signL.getD k []).length:=by decide
theorem sgn_found (s:ByteArray) (i k:Nat) (hk:k<25) (h0:∀ j,j<k→fits s i (signL.getD j [])=false) (h1:fits s i (signL.getD k [])=true):sgn s i=(signL.getD k []).length:=by
 have h:signL.find? (fun l=>fits s i l)=some (signL.getD k []):=by
  rw [List.find?_eq_some_iff_getElem]
  refine ⟨h1,k,hk,?_,fun j hj => ?_⟩
  ·rw [List.getD_eq_getElem?_getD,List.getElem?_eq_getElem hk];rfl
  ·have:=h0 j hj
   have hj':j<signL.length:=Nat.lt_trans hj hk
   rw [List.getD_eq_getElem?_getD,List.getElem?_eq_getElem hj'] at this
   rw [show fits s i signL[j]=false from this]
   rfl
 unfold sgn
 rw [h]
 rfl
theorem sgn_none (s:ByteArray) (i:Nat) (h0:∀ j,j<25→fits s i (signL.getD j [])=false):sgn s i=0:=by
 have h:signL.find? (fun l=>fits s i l)=none:=by
  rw [List.find?_eq_none]
  intro l hl
  obtain ⟨j,hj,rfl⟩:=List.getElem_of_mem hl
  have:=h0 j hj
  rw [List.getD_eq_getElem?_getD,List.getElem?_eq_getElem hj] at this
  rw [show fits s i signL[j]=false from this]
  exact Bool.false_ne_true
 unfold sgn
 rw [h]
 rfl
theorem sign_pos:∀ k,k<25→0<(signL.getD k []).length∧(signL.getD k []).length≤3:=by decide
theorem index_signs (g:Nat→ByteArray) (w:World):∀ k,k<25→(Instr.index 139 (.agg #[.string (g 0),.string (g 1),.string (g 2),.string (g 3),.string (g 4),.string (g 5),.string (g 6),.string (g 7),.string (g 8),.string (g 9),.string (g 10),.string (g 11),.string (g 12),.string (g 13),.string (g 14),.string (g 15),.string (g 16),.string (g 17),.string (g 18),.string (g 19),.string (g 20),.string (g 21),.string (g 22),.string (g 23),.string (g 24)]) (.int .i64 (k:Nat))).run Tryz.prog w = .ok (.string (g k)) w
 |0,_=>by kernel_rfl
 |1,_=>by kernel_rfl
 |2,_=>by kernel_rfl
 |3,_=>by kernel_rfl
 |4,_=>by kernel_rfl
 |5,_=>by kernel_rfl
 |6,_=>by kernel_rfl
 |7,_=>by kernel_rfl
 |8,_=>by kernel_rfl
 |9,_=>by kernel_rfl
 |10,_=>by kernel_rfl
 |11,_=>by kernel_rfl
 |12,_=>by kernel_rfl
 |13,_=>by kernel_rfl
 |14,_=>by kernel_rfl
 |15,_=>by kernel_rfl
 |16,_=>by kernel_rfl
 |17,_=>by kernel_rfl
 |18,_=>by kernel_rfl
 |19,_=>by kernel_rfl
 |20,_=>by kernel_rfl
 |21,_=>by kernel_rfl
 |22,_=>by kernel_rfl
 |23,_=>by kernel_rfl
 |24,_=>by kernel_rfl
 |k+25,h=>by omega
theorem sign_rest (s:ByteArray) (i k:Nat) (hk:k<25) (w:World):Calls Tryz.prog 84 #[.string (s.extract i s.size),.string (sgB k)] w fun e w'=>e = .returned (.bool (fits s i (signL.getD k [])))∧w'=w:=by
 have h:=Tryz.strings_HasPrefix (s.extract i s.size) (sgB k) w
 rw [hasPrefix_rest,sgB_nat k hk] at h
 exact h
set_option maxRecDepth 100000 in
set_option maxHeartbeats 16000000 in
theorem sign_walk (g:Nat→ByteArray) (ft:Nat→Bool) (x:Int×Nat×Option (Nat×Nat)) (s:ByteArray) (i:Nat) (hi:i<s.size) (hs:s.size≤65536) (w:World) (A:Array Value) (hA:A.size=25) (hAi:∀ k,k<25→∀ W,(Instr.index 139 (.agg A) (.int .i64 (k:Nat))).run Tryz.prog W = .ok (.string (g k)) W) (t:TypeId) (fr:Nat×Nat) (hg:w.heap[1]?=some (.cells A t fr))
  (hgz:∀ k,k<25→(g k).size≤3) (hc:∀ k,k<25→∀ w,Calls Tryz.prog 84 #[.string (s.extract i s.size),.string (g k)] w fun e w'=>e = .returned (.bool (ft k))∧w'=w)
  (hyes:∀ k,k<25→(∀ j,j<k→ft j=false)→ft k=true→x=(4,i+(g k).size,none)) (hno:(∀ j,j<25→ft j=false)→x=(0,0,some (i,140))) :
  Calls Tryz.prog 86 #[.string s,.int .i64 i] w (RdP x w):=by
 have hA:=gh hA
 have hAi:=gh hAi
 have hg:=gh hg
 have hgz:=gh hgz
 have hc:=gh hc
 have hyes:=gh hyes
 have hno:=gh hno
 have hiz:(i:Int)≤(s.size:Int):=by omega
 go_enter Tryz.func86,Tryz.ntmps86
 go_wp2_with (refine wpList_load_row rfl 139 _ rfl 1 rfl t A fr _ (gf hg) Tryz.underlying139 rfl (by rw [gf hA];kernel_rfl) ?_)
 go_loopw [10] (fun kv wr=>∃ k:Nat,kv = .int .i64 k∧k≤25∧wr=w∧∀ j,j<k→ft j=false) (fun kv _=>25 - (intOf kv).toNat)
 case atStart=>exact ⟨0,rfl,by omega,rfl,fun j hj=>by omega⟩
 case round =>
  obtain ⟨k,rfl,hk,rfl,hn⟩:=hrel
  have hn:=gh hn
  by_cases hk2:k<25
  ·have hix:=gf hAi k hk2
   have c:=gf hc k hk2
   have hm3:=gf hgz k hk2
   cases hf:ft k with
   |true =>
    rw [hf] at c
    have hx:=gh (gf hyes k hk2 (gf hn) hf)
    go_wp2_with (refine (c _).mono ?_;rintro e w2 ⟨rfl,rfl⟩)
    go_ret3
    exact RdP.ok2 (Below.refl _ _) (by omega) (gf hx)
   |false =>
    rw [hf] at c
    have hn2:Hid (∀ j,j<k+1→ft j=false):=fun j hj=>by
     rcases Nat.lt_or_eq_of_le (Nat.le_of_lt_succ hj) with h | h
     ·exact gf hn j h
     ·rw [h];exact hf
    go_wp2_with (refine (c _).mono ?_;rintro e w2 ⟨rfl,rfl⟩)
    go_roundw
    case rel=>exact ⟨k+1,rfl,by omega,trivial,gf hn2⟩
    case measure=>simp [intOf];omega
  ·obtain rfl:k=25:=by omega
   go_wp2_with (refine (refuse_any _ _ _).mono ?_;rintro e w3 ⟨rfl,rfl⟩)
   go_ret3
   exact RdP.err2 (Below.refl _ _) rfl (gf hno (gf hn))
theorem readSign_any (s:ByteArray) (i:Nat) (hi:i<s.size) (hs:s.size≤65536) (w:World) (hG:SG w):Calls Tryz.prog 86 #[.string s,.int .i64 i] w (RdP (rdSign s i) w):=by
 obtain ⟨t,fr,hg⟩:=hG
 refine sign_walk sgB (fun k=>fits s i (signL.getD k [])) (rdSign s i) s i hi hs w signV.toArray rfl (fun k hk W=>index_signs sgB W k hk) t fr hg (fun k hk=>by rw [sgB_size k hk];exact (sign_pos k hk).2) (fun k hk=>sign_rest s i k hk) (fun k hk h0 h1 => ?_) (fun h0 => ?_)
 ·unfold rdSign
  rw [sgn_found s i k hk h0 h1,if_neg (by have:=(sign_pos k hk).1;omega),sgB_size k hk]
 ·unfold rdSign
  rw [sgn_none s i h0,if_pos rfl]
end Go.Proofs.YtfkfnbehdcmgeaaGreatDoor
