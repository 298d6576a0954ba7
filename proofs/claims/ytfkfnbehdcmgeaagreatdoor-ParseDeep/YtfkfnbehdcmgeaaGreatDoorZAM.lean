/- Package parse: Expr, whole. -/
import Derived.Test.YtfkfnbehdcmgeaaGreatDoorZAL
import Derived.Test.YtfkfnbehdcmgeaaGreatDoorZAC
import Derived.Test.YtfkfnbehdcmgeaaGreatDoorZAE
set_option linter.unusedVariables false
set_option linter.unusedSimpArgs false

/- The grammars over tokens that a function tells are the grammars. -/
namespace Go.Proofs.YtfkfnbehdcmgeaaGreatDoor
section
variable (ts : List (Int × ByteArray × Int))
theorem txt_F  : txtF (ofT ts)  = txt ts  := by
  funext p
  unfold txtF txt
  try rfl
theorem sees_F  : seesF (ofT ts)  = sees ts  := by
  funext p s
  unfold seesF sees
  simp only [txt_F]
  try rfl
theorem bad_F {α : Type} : badF (α := α) (ofT ts) = bad (α := α) ts := rfl
theorem mustR_F  : mustRF (ofT ts)  = mustR ts  := by
  funext s p
  unfold mustRF mustR
  simp only [sees_F, bad_F]
  try rfl
theorem mustBeR_F  : mustBeRF (ofT ts)  = mustBeR ts  := by
  funext k p
  unfold mustBeRF mustBeR
  simp only [bad_F]
  try rfl
theorem begU_F  : begUF (ofT ts)  = begU ts  := by
  funext p
  unfold begUF begU
  simp only [sees_F]
  try rfl
theorem begE_F  : begEF (ofT ts)  = begE ts  := by
  funext p
  unfold begEF begE
  simp only [sees_F, begU_F]
  try rfl
theorem exprsL_F (E : Nat → (Except (Int × Int) (Ex × Nat))) (most : Nat) : ∀ n, exprsLF (ofT ts) E most n = exprsL ts E most n
  | 0 => rfl
  | n + 1 => by
    funext out p
    unfold exprsLF exprsL
    rw [exprsL_F E most n]
    simp only [sees_F, bad_F]
theorem exprsR_F  : exprsRF (ofT ts)  = exprsR ts  := by
  funext E most p
  unfold exprsRF exprsR
  simp only [exprsL_F]
  try rfl
theorem joinR_F  : joinRF (ofT ts)  = joinR ts  := by
  funext O out p
  unfold joinRF joinR
  simp only [txt_F]
  try rfl
theorem chainL_F (O : Nat → (Except (Int × Int) (Ex × Nat))) (signs : List ByteArray) : ∀ n, chainLF (ofT ts) O signs n = chainL ts O signs n
  | 0 => rfl
  | n + 1 => by
    funext out p
    unfold chainLF chainL
    rw [chainL_F O signs n]
    simp only [sees_F, joinR_F]
theorem chainR_F  : chainRF (ofT ts)  = chainR ts  := by
  funext O signs p
  unfold chainRF chainR
  simp only [chainL_F]
  try rfl
theorem brackR_F (g : Ru → Nat → Nat → (Except (Int × Int) (Ex × Nat))) (d : Nat) : brackRF (ofT ts) g d = brackR ts g d := by
  funext i p
  unfold brackRF brackR
  simp only [sees_F, mustR_F]
  try rfl
theorem callR_F (g : Ru → Nat → Nat → (Except (Int × Int) (Ex × Nat))) (d : Nat) : callRF (ofT ts) g d = callR ts g d := by
  funext p
  unfold callRF callR
  simp only [txt_F, sees_F, mustR_F, exprsR_F]
  try rfl
theorem primR_F (g : Ru → Nat → Nat → (Except (Int × Int) (Ex × Nat))) (d : Nat) : primRF (ofT ts) g d = primR ts g d := by
  funext p
  unfold primRF primR
  simp only [txt_F, sees_F, mustBeR_F, brackR_F, callR_F]
  try rfl
theorem unaryR_F (g : Ru → Nat → Nat → (Except (Int × Int) (Ex × Nat))) (d : Nat) : unaryRF (ofT ts) g d = unaryR ts g d := by
  funext p
  unfold unaryRF unaryR
  simp only [sees_F, mustBeR_F, primR_F]
  try rfl
theorem termR_F (g : Ru → Nat → Nat → (Except (Int × Int) (Ex × Nat))) (d : Nat) : termRF (ofT ts) g d = termR ts g d := by
  funext p
  unfold termRF termR
  simp only [chainR_F, unaryR_F]
  try rfl
theorem sumR_F (g : Ru → Nat → Nat → (Except (Int × Int) (Ex × Nat))) (d : Nat) : sumRF (ofT ts) g d = sumR ts g d := by
  funext p
  unfold sumRF sumR
  simp only [chainR_F, termR_F]
  try rfl
theorem cmpR_F (g : Ru → Nat → Nat → (Except (Int × Int) (Ex × Nat))) (d : Nat) : cmpRF (ofT ts) g d = cmpR ts g d := by
  funext p
  unfold cmpRF cmpR
  simp only [sees_F, joinR_F, sumR_F]
  try rfl
theorem andR_F (g : Ru → Nat → Nat → (Except (Int × Int) (Ex × Nat))) (d : Nat) : andRF (ofT ts) g d = andR ts g d := by
  funext p
  unfold andRF andR
  simp only [chainR_F, cmpR_F]
  try rfl
theorem orR_F (g : Ru → Nat → Nat → (Except (Int × Int) (Ex × Nat))) (d : Nat) : orRF (ofT ts) g d = orR ts g d := by
  funext p
  unfold orRF orR
  simp only [chainR_F, andR_F]
  try rfl
theorem impR_F (g : Ru → Nat → Nat → (Except (Int × Int) (Ex × Nat))) (d : Nat) : impRF (ofT ts) g d = impR ts g d := by
  funext p
  unfold impRF impR
  simp only [sees_F, orR_F]
  try rfl
theorem partR_F (g : Ru → Nat → Nat → (Except (Int × Int) (Ex × Nat))) (d : Nat) : partRF (ofT ts) g d = partR ts g d := by
  funext p
  unfold partRF partR
  simp only [txt_F, sees_F, impR_F]
  try rfl
theorem seqR_F (g : Ru → Nat → Nat → (Except (Int × Int) (Ex × Nat))) (d : Nat) : seqRF (ofT ts) g d = seqR ts g d := by
  funext p
  unfold seqRF seqR
  simp only [sees_F, partR_F]
  try rfl
theorem branchR_F (g : Ru → Nat → Nat → (Except (Int × Int) (Ex × Nat))) (d : Nat) : branchRF (ofT ts) g d = branchR ts g d := by
  funext p
  unfold branchRF branchR
  simp only [mustR_F]
  try rfl
theorem bindR_F (g : Ru → Nat → Nat → (Except (Int × Int) (Ex × Nat))) (d : Nat) : bindRF (ofT ts) g d = bindR ts g d := by
  funext p
  unfold bindRF bindR
  simp only [mustR_F, mustBeR_F]
  try rfl
theorem tryR_F (g : Ru → Nat → Nat → (Except (Int × Int) (Ex × Nat))) (d : Nat) : tryRF (ofT ts) g d = tryR ts g d := by
  funext p
  unfold tryRF tryR
  simp only [mustR_F, mustBeR_F]
  try rfl
theorem withinR_F (g : Ru → Nat → Nat → (Except (Int × Int) (Ex × Nat))) (d : Nat) : withinRF (ofT ts) g d = withinR ts g d := by
  funext p
  unfold withinRF withinR
  simp only [txt_F, seqR_F, branchR_F, bindR_F, tryR_F]
  try rfl
theorem begR_F  : begRF (ofT ts)  = begR ts  := by
  funext u p
  unfold begRF begR
  simp only [begU_F, begE_F]
  try rfl
theorem ruleR_F (g : Ru → Nat → Nat → (Except (Int × Int) (Ex × Nat))) (d : Nat) : ruleRF (ofT ts) g d = ruleR ts g d := by
  funext u p
  unfold ruleRF ruleR
  simp only [unaryR_F, impR_F, withinR_F]
  try rfl
theorem gR_F : ∀ f, gRF (ofT ts) f = gR ts f
  | 0 => rfl
  | f + 1 => by
    funext u d p
    unfold gRF gR
    rw [gR_F f, ruleR_F, begR_F]
    rfl
theorem exR_F  : exRF (ofT ts)  = exR ts  := by
  funext p
  unfold exRF exR
  simp only [gR_F]
  try rfl
theorem endR_F  : endRF (ofT ts)  = endR ts  := by
  funext p
  unfold endRF endR
  simp only [bad_F]
  try rfl
theorem aloneP_F  : alonePF (ofT ts)  = aloneP ts  := by
  funext p
  unfold alonePF aloneP
  simp only [exR_F, endR_F]
  try rfl
theorem tD_F  : tDF (ofT ts)  = tD ts  := by
  funext st
  unfold tDF tD
  try rfl
theorem stepD_F  : stepDF (ofT ts)  = stepD ts  := by
  funext st
  unfold stepDF stepD
  try rfl
theorem isD_F  : isDF (ofT ts)  = isD ts  := by
  funext s st
  unfold isDF isD
  try rfl
theorem mustD_F  : mustDF (ofT ts)  = mustD ts  := by
  funext s st
  unfold mustDF mustD
  simp only [tD_F, stepD_F, isD_F]
  try rfl
theorem nameD_F  : nameDF (ofT ts)  = nameD ts  := by
  funext st
  unfold nameDF nameD
  simp only [tD_F, stepD_F]
  try rfl
theorem argsD_F (g : Ru → PS → Ex × PS) (most : Nat) : ∀ n, argsDF (ofT ts) g most n = argsD ts g most n
  | 0 => rfl
  | n + 1 => by
    funext l st
    unfold argsDF argsD
    rw [argsD_F g most n]
    simp only [tD_F, stepD_F, isD_F, mustD_F]
theorem callD_F (g : Ru → PS → Ex × PS) : callDF (ofT ts) g = callD ts g := by
  funext n st
  unfold callDF callD
  simp only [stepD_F, isD_F, argsD_F]
  try rfl
theorem primD_F (g : Ru → PS → Ex × PS) : primDF (ofT ts) g = primD ts g := by
  funext st
  unfold primDF primD
  simp only [tD_F, stepD_F, isD_F, mustD_F, nameD_F, callD_F]
  try rfl
theorem unaryD_F (g : Ru → PS → Ex × PS) : unaryDF (ofT ts) g = unaryD ts g := by
  funext st
  unfold unaryDF unaryD
  simp only [tD_F, stepD_F, isD_F, nameD_F, primD_F]
  try rfl
theorem signD_F : ∀ l, signDF (ofT ts) l = signD ts l
  | [] => rfl
  | (s, o) :: l => by
    funext st
    unfold signDF signD
    rw [signD_F l]
    rfl
theorem chD_F (O : PS → Ex × PS) (signs : List (ByteArray × Int)) (once : Bool) : ∀ n, chDF (ofT ts) O signs once n = chD ts O signs once n
  | 0 => rfl
  | n + 1 => by
    funext a st
    unfold chDF chD
    rw [chD_F O signs once n]
    simp only [tD_F, stepD_F, signD_F]
    cases signD ts signs st <;> rfl
theorem levD_F  : levDF (ofT ts)  = levD ts  := by
  funext O signs once st
  unfold levDF levD
  simp only [chD_F]
  try rfl
theorem leftD_F (g : Ru → PS → Ex × PS) : ∀ k, leftDF (ofT ts) g k = leftD ts g k
  | 0 => by
    funext st
    unfold leftDF leftD
    rw [unaryD_F]
  | k + 1 => by
    funext st
    unfold leftDF leftD
    rw [leftD_F g k, levD_F]
theorem impD_F (g : Ru → PS → Ex × PS) : impDF (ofT ts) g = impD ts g := by
  funext st
  unfold impDF impD
  simp only [tD_F, stepD_F, isD_F, leftD_F]
  try rfl
theorem partD_F (g : Ru → PS → Ex × PS) : partDF (ofT ts) g = partD ts g := by
  funext st
  unfold partDF partD
  simp only [tD_F, stepD_F, isD_F, impD_F]
  try rfl
theorem ifD_F (g : Ru → PS → Ex × PS) : ifDF (ofT ts) g = ifD ts g := by
  funext at' st
  unfold ifDF ifD
  simp only [mustD_F]
  try rfl
theorem letD_F (g : Ru → PS → Ex × PS) : letDF (ofT ts) g = letD ts g := by
  funext at' st
  unfold letDF letD
  simp only [mustD_F, nameD_F]
  try rfl
theorem tryD_F (g : Ru → PS → Ex × PS) : tryDF (ofT ts) g = tryD ts g := by
  funext at' st
  unfold tryDF tryD
  simp only [mustD_F, nameD_F]
  try rfl
theorem innerD_F (g : Ru → PS → Ex × PS) : innerDF (ofT ts) g = innerD ts g := by
  funext st
  unfold innerDF innerD
  simp only [tD_F, stepD_F, isD_F, partD_F, ifD_F, letD_F, tryD_F]
  try rfl
theorem ruleD_F (g : Ru → PS → Ex × PS) : ruleDF (ofT ts) g = ruleD ts g := by
  funext u st
  unfold ruleDF ruleD
  simp only [unaryD_F, impD_F, innerD_F]
  try rfl
theorem gD_F : ∀ f, gDF (ofT ts) f = gD ts f
  | 0 => rfl
  | f + 1 => by
    funext u st
    unfold gDF gD
    rw [gD_F f, ruleD_F]
theorem exD_F  : exDF (ofT ts)  = exD ts  := by
  funext st
  unfold exDF exD
  simp only [gD_F]
  try rfl
theorem aloneD_F  : aloneDF (ofT ts)  = aloneD ts  := by
  unfold aloneDF aloneD
  simp only [tD_F, exD_F]
  try rfl
end
end Go.Proofs.YtfkfnbehdcmgeaaGreatDoor

/- Tokens of a text whose bytes a function tells. -/
namespace Go.Proofs.YtfkfnbehdcmgeaaGreatDoor
open Go Go.RowKit
section
variable (B : Nat → Nat) (n : Nat)
def neF : Nat → Nat → Nat
  | 0, i => i
  | f + 1, i => if i < n then (if isLe (B i) || isDi (B i) then neF f (i + 1) else i) else i
def deF : Nat → Nat → Nat
  | 0, i => i
  | f + 1, i => if i < n then (if isDi (B i) then deF f (i + 1) else i) else i
def cmF : Nat → Nat → Bool → Nat × Nat
  | 0, _, _ => (0, 2)
  | f + 1, i, star => if i < n then (if star && B i == 41 then (i + 1, 0) else cmF f (i + 1) (B i == 42)) else (0, 2)
def fitsF : Nat → List Nat → Bool
  | _, [] => true
  | i, c :: l => decide (i < n) && B i == c && fitsF (i + 1) l
def sgnF (i : Nat) : Nat := ((signL.find? fun l => fitsF B n i l).map List.length).getD 0
/-- The bytes from i to j. -/
def pcF (i j : Nat) : List Nat := (List.range (j - i)).map fun q => B (i + q)
def isWdF (i j : Nat) : Bool := wordL.any fun l => pcF B i j == l.map UInt8.toNat
def rdNameF (i : Nat) : Int × Nat × Option (Nat × Nat) :=
  if 40 < neF B n (n - i) i - i then (0, 0, some (i, 141))
  else if isWdF B i (neF B n (n - i) i) then (2, neF B n (n - i) i, none) else (1, neF B n (n - i) i, none)
def rdNumF (i : Nat) : Int × Nat × Option (Nat × Nat) :=
  if (B i == 48 && decide (1 < deF B n (n - i) i - i)) = true then (0, 0, some (i, 140))
  else if 400 < deF B n (n - i) i - i then (0, 0, some (i, 141)) else (3, deF B n (n - i) i, none)
def rdCmtF (i : Nat) : Int × Nat × Option (Nat × Nat) :=
  if (cmF B n (n - (i + 2)) (i + 2) false).2 = 0 then (-1, (cmF B n (n - (i + 2)) (i + 2) false).1, none)
  else if (cmF B n (n - (i + 2)) (i + 2) false).2 = 1 then (0, 0, some ((cmF B n (n - (i + 2)) (i + 2) false).1, 140)) else (0, 0, some (i, 140))
def rdSignF (i : Nat) : Int × Nat × Option (Nat × Nat) :=
  if sgnF B n i = 0 then (0, 0, some (i, 140)) else (4, i + sgnF B n i, none)
def rdF (i : Nat) : Int × Nat × Option (Nat × Nat) :=
  if isBl (B i) then (-1, i + 1, none)
  else if isLe (B i) then rdNameF B n i
  else if isDi (B i) then rdNumF B n i
  else if fitsF B n i [40, 42] then rdCmtF B n i
  else rdSignF B n i
def lxF : Nat → Nat → List (Int × Nat × Nat) × Option (Nat × Nat)
  | 0, _ => ([], none)
  | f + 1, i => if i < n then
      (match rdF B n i with
       | (_, _, some e) => ([], some e)
       | (k, j, none) => match lxF f j with
         | (l, e) => (if k = -1 then l else (k, i, j) :: l, e))
    else ([], none)
end
theorem esz (s : ByteArray) (i j : Nat) (h1 : i ≤ j) (h2 : j ≤ s.size) : (s.extract i j).size = j - i := by
  rw [ByteArray.size_extract]
  omega
theorem u8_map : ∀ (l m : List UInt8), l.map UInt8.toNat = m.map UInt8.toNat → l = m
  | [], [], _ => rfl
  | [], y :: m, h => by simp at h
  | x :: l, [], h => by simp at h
  | x :: l, y :: m, h => by
    simp only [List.map_cons, List.cons.injEq] at h
    rw [UInt8.toNat_inj.1 h.1, u8_map l m h.2]
section
variable {s : ByteArray} {B : Nat → Nat} (hB : ∀ i, i < s.size → By s i = B i ∧ B i < 128)
include hB
theorem asc_F {i : Nat} (hi : i < s.size) : rn s i = B i ∧ wd s i = 1 ∧ noR s i = false := by
  obtain ⟨h1, h2⟩ := hB i hi
  have h3 : By s i < 128 := by omega
  exact ⟨(rn_ascii s i h3).1.trans h1, (rn_ascii s i h3).2, noR_ascii s i h3⟩
theorem ne_F : ∀ f i, nameEnd s f i = neF B s.size f i
  | 0, _ => rfl
  | f + 1, i => by
    unfold nameEnd neF
    split
    · rename_i hi
      obtain ⟨h1, h2, h3⟩ := asc_F hB hi
      unfold inName
      rw [h1, h2, h3, ne_F f (i + 1)]
      simp
    · rfl
theorem de_F : ∀ f i, digEnd s f i = deF B s.size f i
  | 0, _ => rfl
  | f + 1, i => by
    unfold digEnd deF
    split
    · rename_i hi
      rw [(asc_F hB hi).1, de_F f (i + 1)]
    · rfl
theorem cm_F : ∀ f i b, cmt s f i b = cmF B s.size f i b
  | 0, _, _ => rfl
  | f + 1, i, b => by
    unfold cmt cmF
    split
    · rename_i hi
      obtain ⟨h1, h2, h3⟩ := asc_F hB hi
      rw [h1, h2, h3, cm_F f (i + 1)]
      simp
    · rfl
theorem fits_F : ∀ (l : List Nat) i, fits s i l = fitsF B s.size i l
  | [], _ => rfl
  | c :: l, i => by
    unfold fits fitsF
    rw [fits_F l (i + 1)]
    by_cases hi : i < s.size
    · rw [(hB i hi).1]
    · simp [hi]
theorem sgn_F (i : Nat) : sgn s i = sgnF B s.size i := by
  unfold sgn sgnF
  rw [show (fun l => fits s i l) = (fun l => fitsF B s.size i l) from funext fun l => fits_F hB l i]
omit hB in
theorem ne_le (B : Nat → Nat) (n : Nat) : ∀ f i, i ≤ neF B n f i ∧ (i ≤ n → neF B n f i ≤ n)
  | 0, i => ⟨Nat.le_refl _, fun h => h⟩
  | f + 1, i => by
    unfold neF
    split
    · rename_i hi
      split
      · have := ne_le B n f (i + 1)
        exact ⟨by omega, fun _ => this.2 (by omega)⟩
      · exact ⟨Nat.le_refl _, fun h => h⟩
    · exact ⟨Nat.le_refl _, fun h => h⟩
theorem ext_F (i j : Nat) (hij : i ≤ j) (hj : j ≤ s.size) : (s.extract i j).data.toList.map UInt8.toNat = pcF B i j := by
  apply List.ext_getElem?
  intro q
  have h2 : (s.extract i j).data.toList.length = j - i := by
    have := esz s i j hij hj
    rw [Array.length_toList]
    exact this
  by_cases hq : q < j - i
  · have h1 : q < (s.extract i j).data.toList.length := by omega
    unfold pcF
    rw [List.getElem?_map, List.getElem?_map, List.getElem?_range hq, List.getElem?_eq_getElem h1]
    simp only [Option.map_some, Option.some.injEq]
    rw [← (hB (i + q) (by omega)).1]
    unfold By
    rw [get_lt s (i + q) (by omega)]
    have := ByteArray.getElem_extract (start := i) (stop := j) (b := s) (i := q) (h := by have := esz s i j hij hj; omega)
    rw [← this]
    simp [ByteArray.getElem_eq_getElem_data]
  · rw [List.getElem?_eq_none (by rw [List.length_map, h2]; omega), List.getElem?_eq_none (by unfold pcF; simp; omega)]
theorem isWd_F (i j : Nat) (hij : i ≤ j) (hj : j ≤ s.size) : isWd (s.extract i j) = isWdF B i j := by
  unfold isWd isWdF
  congr 1
  funext l
  rw [← ext_F hB i j hij hj, Bool.eq_iff_iff]
  simp only [beq_iff_eq]
  exact ⟨fun h => by rw [h], fun h => u8_map _ _ h⟩
theorem rd_F {i : Nat} (hi : i < s.size) : rd s i = rdF B s.size i := by
  obtain ⟨h1, h2, h3⟩ := asc_F hB hi
  unfold rd rdF
  rw [h1, h3, fits_F hB]
  have a1 : rdName s i = rdNameF B s.size i := by
    unfold rdName rdNameF
    rw [ne_F hB]
    have := ne_le B s.size (s.size - i) i
    rw [isWd_F hB i _ this.1 (this.2 (by omega))]
  have a2 : rdNum s i = rdNumF B s.size i := by
    unfold rdNum rdNumF
    rw [de_F hB, (hB i hi).1]
  have a3 : rdCmt s i = rdCmtF B s.size i := by
    unfold rdCmt rdCmtF
    rw [cm_F hB]
  have a4 : rdSign s i = rdSignF B s.size i := by
    unfold rdSign rdSignF
    rw [sgn_F hB]
  rw [a1, a2, a3, a4]
  rfl
theorem lx_F : ∀ f i, lx s f i = lxF B s.size f i
  | 0, _ => rfl
  | f + 1, i => by
    unfold lx lxF
    split
    · rename_i hi
      rw [rd_F hB hi]
      rcases rdF B s.size i with ⟨k, j, _ | e⟩
      · simp only
        rw [lx_F f j]
      · rfl
    · rfl
end
/-- Tokens by a function: so many, and the end. -/
def NF (M : Nat → (Int × ByteArray × Int)) (m n : Nat) (p : Nat) : (Int × ByteArray × Int) := if p < m then M p else (0, ⟨#[]⟩, if p = m then (n : Int) else 0)
def ckL (B : Nat → Nat) (M : Nat → (Int × ByteArray × Int)) (m n : Nat) : List (Int × Nat × Nat) → Nat → Bool
  | [], p => p == m
  | (k, i, j) :: l, p => decide ((M p).1 = k) && decide ((M p).2.2 = (i : Int)) && ((M p).2.1.data.toList.map UInt8.toNat == pcF B i j) && decide (i ≤ j) && decide (j ≤ n) && ckL B M m n l (p + 1)
def ckTok (B : Nat → Nat) (M : Nat → (Int × ByteArray × Int)) (m n : Nat) : Bool := match lxF B n n 0 with
  | (l, none) => ckL B M m n l 0
  | (_, some _) => false
theorem ckL_ok {s : ByteArray} {B : Nat → Nat} {M : Nat → (Int × ByteArray × Int)} {m : Nat} (hB : ∀ i, i < s.size → By s i = B i ∧ B i < 128) : ∀ (l : List (Int × Nat × Nat)) (p : Nat), ckL B M m s.size l p = true → p + l.length = m ∧ ∀ q, (l.map (fun x => (x.1, s.extract x.2.1 x.2.2, (x.2.1 : Int))))[q]? = if q < l.length then some (M (p + q)) else none
  | [], p, h => by
    unfold ckL at h
    exact ⟨by simpa using h, fun q => by simp⟩
  | (k, i, j) :: l, p, h => by
    unfold ckL at h
    simp only [Bool.and_eq_true, decide_eq_true_eq, beq_iff_eq] at h
    obtain ⟨⟨⟨⟨⟨h1, h2⟩, h3⟩, h4⟩, h5⟩, h6⟩ := h
    obtain ⟨h7, h8⟩ := ckL_ok hB l (p + 1) h6
    refine ⟨by simp only [List.length_cons]; omega, fun q => ?_⟩
    cases q with
    | zero =>
      have e : s.extract i j = (M p).2.1 := by
        have := ext_F hB i j h4 h5
        rw [← h3] at this
        have h9 := u8_map _ _ this
        apply ByteArray.ext
        apply Array.ext'
        exact h9
      simp only [List.map_cons, List.getElem?_cons_zero, List.length_cons, Nat.zero_lt_succ, if_true, Nat.add_zero]
      rw [e, ← h1, ← h2]
    | succ q =>
      simp only [List.map_cons, List.getElem?_cons_succ, List.length_cons]
      rw [h8 q, show p + 1 + q = p + (q + 1) by omega]
      by_cases hq : q < l.length
      · rw [if_pos hq, if_pos (by omega)]
      · rw [if_neg hq, if_neg (by omega)]
theorem tk_F {s : ByteArray} {B : Nat → Nat} {M : Nat → (Int × ByteArray × Int)} {m n : Nat} (hB : ∀ i, i < s.size → By s i = B i ∧ B i < 128) (hn : s.size = n) (hs : n ≤ 65536) (h : ckTok B M m n = true) : (tk s).2 = none ∧ ofT (tkL s) = ⟨NF M m n, m + 1⟩ := by
  subst hn
  have e : tk s = lxF B s.size s.size 0 := by
    unfold tk
    rw [if_neg (by omega), lx_F hB]
  unfold ckTok at h
  split at h
  · rename_i l hl
    obtain ⟨h1, h2⟩ := ckL_ok hB l 0 h
    have hm : l.length = m := by omega
    have e1 : (tk s).1 = l := by rw [e, hl]
    have e2 : (tk s).2 = none := by rw [e, hl]
    refine ⟨e2, ?_⟩
    unfold ofT tkL
    rw [e1]
    congr 1
    · funext p
      unfold nx NF
      rw [List.getD_eq_getElem?_getD]
      by_cases hp : p < m
      · rw [List.getElem?_append_left (by simp; omega), h2 p, if_pos (by omega), if_pos hp, Nat.zero_add]
        rfl
      · rw [List.getElem?_append_right (by simp; omega), if_neg hp, List.length_map, hm]
        by_cases hq : p = m
        · subst hq
          simp
        · rw [if_neg hq, List.getElem?_eq_none (by simp; omega)]
          rfl
    · simp [hm]
  · cases h
end Go.Proofs.YtfkfnbehdcmgeaaGreatDoor

/- The document's parser: its state in memory, its small functions. -/
namespace Go.Proofs.YtfkfnbehdcmgeaaGreatDoor
open Go Go.RowKit
/-- The document's parser: its tokens, its state, its depth. -/
structure PD (w : World) (r : Nat) (ts : List (Int × ByteArray × Int)) (st : PS) (d : Nat) : Prop where
  cells : ∃ g c, w.heap[r]? = some (.cells #[.slice (some ⟨g, 0, none⟩) ts.length c, .int .i64 st.i, .int .i64 st.e, .int .i64 st.a, .int .i64 d] 72) ∧ g < r ∧ ts.length ≤ c ∧ ∀ j x, ts[j]? = some x → w.rangeAt g (j * 3) [.int .i64 x.1, .string x.2.1, .int .i64 x.2.2]
  lt : st.i < ts.length
theorem PD.keep {w w' : World} {r d : Nat} {st : PS} {ts : List (Int × ByteArray × Int)} (h : PD w r ts st d) (hb : Below w.heap.size w w') : PD w' r ts st d := by
  obtain ⟨⟨g, c, h1, h2, h3, h4⟩, h5⟩ := h
  have hr := (Array.getElem?_eq_some_iff.1 h1).1
  exact ⟨⟨g, c, (hb.block r hr).trans h1, h2, h3, fun j x hx => range_same (h4 j x hx) (hb.block g (by omega))⟩, h5⟩
theorem PD.rlt {w : World} {r d : Nat} {st : PS} {ts : List (Int × ByteArray × Int)} (h : PD w r ts st d) : r < w.heap.size := by
  obtain ⟨⟨g, c, h1, -⟩, -⟩ := h
  exact (blk h1).1
theorem PD.set {w w' : World} {r d e : Nat} {st s2 : PS} {ts : List (Int × ByteArray × Int)} (h : PD w r ts st d) (hb : But r w w') (hq : s2.i < ts.length) (hc : ∀ g c, w.heap[r]? = some (.cells #[.slice (some ⟨g, 0, none⟩) ts.length c, .int .i64 st.i, .int .i64 st.e, .int .i64 st.a, .int .i64 d] 72) → w'.heap[r]? = some (.cells #[.slice (some ⟨g, 0, none⟩) ts.length c, .int .i64 s2.i, .int .i64 s2.e, .int .i64 s2.a, .int .i64 e] 72)) : PD w' r ts s2 e := by
  obtain ⟨⟨g, c, h1, h2, h3, h4⟩, h5⟩ := h
  have hr := (Array.getElem?_eq_some_iff.1 h1).1
  exact ⟨⟨g, c, hc g c h1, h2, h3, fun j x hx => range_same (h4 j x hx) (hb.block g (by omega) (by omega))⟩, hq⟩
theorem PD.facts {w w' : World} {r d : Nat} {st : PS} {ts : List (Int × ByteArray × Int)} (h : PD w r ts st d) (hb : Below w.heap.size w w') : ∃ g c, w'.cell? ⟨r, 0, none⟩ = some (.slice (some ⟨g, 0, none⟩) ts.length c) ∧ w'.cell? ⟨r, 1, none⟩ = some (.int .i64 st.i) ∧ w'.cell? ⟨r, 2, none⟩ = some (.int .i64 st.e) ∧ w'.cell? ⟨r, 3, none⟩ = some (.int .i64 st.a) ∧ w'.cell? ⟨r, 4, none⟩ = some (.int .i64 d) ∧ ts.length ≤ c ∧ r < w'.heap.size ∧ (∀ o, w'.frozen? ⟨r, o, none⟩ = false) ∧ ∀ j x, ts[j]? = some x → w'.cell? ⟨g, j * 3, none⟩ = some (.int .i64 x.1) ∧ w'.cell? ⟨g, j * 3 + 1, none⟩ = some (.string x.2.1) ∧ w'.cell? ⟨g, j * 3 + 2, none⟩ = some (.int .i64 x.2.2) := by
  obtain ⟨⟨g, c, h1, h2, h3, h4⟩, h5⟩ := h.keep hb
  exact ⟨g, c, (blk h1).2.1 0 _ rfl, (blk h1).2.1 1 _ rfl, (blk h1).2.1 2 _ rfl, (blk h1).2.1 3 _ rfl, (blk h1).2.1 4 _ rfl, h3, (blk h1).1, (blk h1).2.2, fun j x hx => ⟨h4 j x hx 0 _ rfl, h4 j x hx 1 _ rfl, h4 j x hx 2 _ rfl⟩⟩
/-- What a function of the document's parser answers. -/
def DP {α : Type} (Φ : World → Value → α → Prop) (x : α × PS) (r : Nat) (ts : List (Int × ByteArray × Int)) (d : Nat) (w : World) (e : Ending) (w' : World) : Prop := But r w w' ∧ PD w' r ts x.2 d ∧ ∃ v, e = .returned v ∧ Φ w' v x.1
set_option maxRecDepth 100000 in
set_option maxHeartbeats 4000000 in
theorem dt_any {w : World} {r d : Nat} {st : PS} {ts : List (Int × ByteArray × Int)} (hR : PD w r ts st d) (hT : TsOk ts) : Calls Tryz.prog 29 #[.pointer (some ⟨r, 0, none⟩)] w (VP (tkV (tD ts st)) w) := by
  obtain ⟨A, eA, hbA, hsA, hhA⟩ := box_new w #[.int .i64 0, .string ⟨#[]⟩, .int .i64 0] 74
  obtain ⟨g, c, x0, x1, x2, x3, x4, hc, hr, hf, ht⟩ := hR.facts hbA
  obtain ⟨t0, t1, t2⟩ := ht st.i _ (nx_of hR.lt)
  have hp := hR.lt
  have hl := hT.len
  obtain ⟨i, er, ea⟩ := st
  have g1 : (i : Int) < (ts.length : Int) := by have : i < ts.length := hp; omega
  have g2 : (ts.length : Int) ≤ 100000 := by omega
  have g3 : (0 : Int) ≤ (i : Int) := by omega
  have y0 : A.cell? ⟨w.heap.size, 0, none⟩ = some (.int .i64 0) := (blk hhA).2.1 0 _ rfl
  have y1 : A.cell? ⟨w.heap.size, 1, none⟩ = some (.string ⟨#[]⟩) := (blk hhA).2.1 1 _ rfl
  have y2 : A.cell? ⟨w.heap.size, 2, none⟩ = some (.int .i64 0) := (blk hhA).2.1 2 _ rfl
  have z0 := (blk hhA).2.2 0
  have z1 := (blk hhA).2.2 1
  have z2 := (blk hhA).2.2 2
  have HB := hide (And.intro hbA hhA)
  have HE := hide eA
  rw [← eA] at x0 x1 x2 x3 x4 t0 t1 t2 y0 y1 y2 z0 z1 z2 hr
  unfold tkV VP
  obtain ⟨Y, hY⟩ : ∃ Y, tD ts ⟨i, er, ea⟩ = Y := ⟨_, rfl⟩
  obtain ⟨X, hX⟩ : ∃ X, nx ts i = X := ⟨_, rfl⟩
  obtain ⟨L, hL⟩ : ∃ L, ts.length = L := ⟨_, rfl⟩
  unfold tD at hY
  simp only at t0 t1 t2 x1 x2 hY
  rw [hX] at t0 t1 t2 hY
  rw [hL] at x0 g1 g2
  rw [show tD ts ⟨i, er, ea⟩ = Y by unfold tD; simp only; rw [hX]; exact hY]
  have HY := hide hY
  clear hR hT eA hbA hsA hhA hX hL ht hc hp hl hf hY
  by_cases he : er = 0
  · subst he
    go_enter Tryz.func29, Tryz.ntmps29
    go_wp2_with fail
    go_region
    go_wp2
    obtain ⟨B, eB, hbB, hsB, hhB⟩ := box_new w #[.int .i64 X.1, .string X.2.1, .int .i64 X.2.2] 74
    rw [eB]
    have hY := unhide HY
    obtain rfl : X = Y := by rw [← hY]; rfl
    refine bodyPost_ret (res_row (cs := [.int .i64 X.1, .string X.2.1, .int .i64 X.2.2]) rfl rfl (range_block (by rw [heap_drew]; exact hhB)) rfl rfl rfl) rfl ?_
    exact ⟨rfl, hbB.drew⟩
  · have e1 : (er == 0) = false := by simpa using he
    have e2 : decide (er = 0) = false := by simpa using he
    go_enter Tryz.func29, Tryz.ntmps29
    go_wp2
    rw [unhide HE]
    obtain ⟨hbA, hhA⟩ := unhide HB
    have hY := unhide HY
    rw [if_neg he] at hY
    subst hY
    refine bodyPost_ret (res_row (cs := [.int .i64 0, .string ⟨#[]⟩, .int .i64 0]) rfl rfl (range_block hhA) rfl rfl rfl) rfl ?_
    exact ⟨rfl, hbA⟩
end Go.Proofs.YtfkfnbehdcmgeaaGreatDoor

/- The document's parser: is, fail, step, eat, must. -/
namespace Go.Proofs.YtfkfnbehdcmgeaaGreatDoor
open Go Go.RowKit
theorem tD_ok {ts : List (Int × ByteArray × Int)} {st : PS} (h : st.e = 0) : tD ts st = nx ts st.i := if_pos h
theorem tD_bad {ts : List (Int × ByteArray × Int)} {st : PS} (h : st.e ≠ 0) : tD ts st = zTk := if_neg h
set_option maxRecDepth 100000 in
set_option maxHeartbeats 4000000 in
theorem is_any {w : World} {r d : Nat} {st : PS} {ts : List (Int × ByteArray × Int)} (hR : PD w r ts st d) (hT : TsOk ts) (s : ByteArray) : Calls Tryz.prog 30 #[.pointer (some ⟨r, 0, none⟩), .string s] w (VP (.bool (isD ts s st)) w) := by
  have HN := hide (dt_any hR hT)
  have HR := hide hR
  unfold tkV at HN
  obtain ⟨b, hb⟩ : ∃ b, isD ts s st = b := ⟨_, rfl⟩
  rw [hb]
  unfold isD at hb
  by_cases he : st.e = 0
  · rw [tD_ok he] at HN
    obtain ⟨⟨k, T, i⟩, hX⟩ : ∃ X, nx ts st.i = X := ⟨_, rfl⟩
    rw [hX] at HN hb
    rw [he] at hb
    have HEr := hide he
    clear hR hT hX he
    unfold VP
    simp only [decide_true, Bool.true_and] at hb
    by_cases k2 : k = 2
    · subst k2
      simp only [decide_true, Bool.true_or, Bool.true_and] at hb
      replace hb := hide hb
      go_enter Tryz.func30, Tryz.ntmps30
      go_wp2_with fail
      refine (unhide HN).mono ?_
      rintro e w2 ⟨rfl, hb2⟩
      obtain ⟨B, eB, hbB, hsB, hhB⟩ := box_new w2 #[.int .i64 2, .string T, .int .i64 i] 74
      have h02 : Below w.heap.size w B := hb2.trans (hbB.mono hb2.size)
      obtain ⟨g, c, x0, x1, x2, x3, x4, hc, hr, hf, ht⟩ := (unhide HR).facts h02
      rw [unhide HEr] at x2
      have y0 : B.cell? ⟨w2.heap.size, 0, none⟩ = some (.int .i64 2) := (blk hhB).2.1 0 _ rfl
      have y1 : B.cell? ⟨w2.heap.size, 1, none⟩ = some (.string T) := (blk hhB).2.1 1 _ rfl
      have HB := hide h02
      have HEB := hide eB
      rw [← eB] at x2 y0 y1 hr
      clear hb2 HN eB hbB hsB hhB h02 x0 x1 x3 x4 hc hf ht
      go_wp2
      go_ret
      rw [unhide HEB]
      refine ⟨?_, unhide HB⟩
      rw [← unhide hb, str_eq]; rfl
    · by_cases k4 : k = 4
      · subst k4
        have hb' : decide (T = s) = b := by rw [← hb]; simp
        clear hb
        replace hb := hide hb'
        clear hb'
        go_enter Tryz.func30, Tryz.ntmps30
        go_wp2_with fail
        refine (unhide HN).mono ?_
        rintro e w2 ⟨rfl, hb2⟩
        obtain ⟨B, eB, hbB, hsB, hhB⟩ := box_new w2 #[.int .i64 4, .string T, .int .i64 i] 74
        have h02 : Below w.heap.size w B := hb2.trans (hbB.mono hb2.size)
        obtain ⟨g, c, x0, x1, x2, x3, x4, hc, hr, hf, ht⟩ := (unhide HR).facts h02
        rw [unhide HEr] at x2
        have y0 : B.cell? ⟨w2.heap.size, 0, none⟩ = some (.int .i64 4) := (blk hhB).2.1 0 _ rfl
        have y1 : B.cell? ⟨w2.heap.size, 1, none⟩ = some (.string T) := (blk hhB).2.1 1 _ rfl
        have HB := hide h02
        have HEB := hide eB
        rw [← eB] at x2 y0 y1 hr
        clear hb2 HN eB hbB hsB hhB h02 x0 x1 x3 x4 hc hf ht
        go_wp2
        go_ret
        rw [unhide HEB]
        refine ⟨?_, unhide HB⟩
        rw [← unhide hb, str_eq]; rfl
      · have hb' : b = false := by rw [← hb]; simp [k2, k4]
        subst hb'
        clear hb
        have e2 : (k == 2) = false := by simpa using k2
        have e4 : (k == 4) = false := by simpa using k4
        have d2 : decide (k = 2) = false := by simpa using k2
        have d4 : decide (k = 4) = false := by simpa using k4
        clear k2 k4
        go_enter Tryz.func30, Tryz.ntmps30
        go_wp2_with fail
        refine (unhide HN).mono ?_
        rintro e w2 ⟨rfl, hb2⟩
        obtain ⟨B, eB, hbB, hsB, hhB⟩ := box_new w2 #[.int .i64 k, .string T, .int .i64 i] 74
        have h02 : Below w.heap.size w B := hb2.trans (hbB.mono hb2.size)
        obtain ⟨g, c, x0, x1, x2, x3, x4, hc, hr, hf, ht⟩ := (unhide HR).facts h02
        rw [unhide HEr] at x2
        have y0 : B.cell? ⟨w2.heap.size, 0, none⟩ = some (.int .i64 k) := (blk hhB).2.1 0 _ rfl
        have y1 : B.cell? ⟨w2.heap.size, 1, none⟩ = some (.string T) := (blk hhB).2.1 1 _ rfl
        have HB := hide h02
        have HEB := hide eB
        rw [← eB] at x2 y0 y1 hr
        clear hb2 HN eB hbB hsB hhB h02 x0 x1 x3 x4 hc hf ht
        go_wp2
        go_ret
        rw [unhide HEB]
        exact ⟨rfl, unhide HB⟩
  · rw [tD_bad he] at HN
    have hb' : b = false := by rw [← hb]; simp [he]
    subst hb'
    obtain ⟨er, her⟩ : ∃ er, st.e = er := ⟨_, rfl⟩
    have HEr := hide her
    rw [her] at he
    clear hR hT hb her
    unfold VP
    unfold zTk at HN
    have e2 : (er == 0) = false := by simpa using he
    have d2 : decide (er = 0) = false := by simpa using he
    clear he
    go_enter Tryz.func30, Tryz.ntmps30
    go_wp2_with fail
    refine (unhide HN).mono ?_
    rintro e w2 ⟨rfl, hb2⟩
    obtain ⟨B, eB, hbB, hsB, hhB⟩ := box_new w2 #[.int .i64 0, .string ⟨#[]⟩, .int .i64 0] 74
    have h02 : Below w.heap.size w B := hb2.trans (hbB.mono hb2.size)
    obtain ⟨g, c, x0, x1, x2, x3, x4, hc, hr, hf, ht⟩ := (unhide HR).facts h02
    rw [unhide HEr] at x2
    have y0 : B.cell? ⟨w2.heap.size, 0, none⟩ = some (.int .i64 0) := (blk hhB).2.1 0 _ rfl
    have y1 : B.cell? ⟨w2.heap.size, 1, none⟩ = some (.string ⟨#[]⟩) := (blk hhB).2.1 1 _ rfl
    have HB := hide h02
    have HEB := hide eB
    rw [← eB] at x2 y0 y1 hr
    clear hb2 HN eB hbB hsB hhB h02 x0 x1 x3 x4 hc hf ht
    go_wp2
    go_ret
    rw [unhide HEB]
    exact ⟨rfl, unhide HB⟩
def StP (r : Nat) (ts : List (Int × ByteArray × Int)) (st : PS) (d : Nat) (v : Value) (w : World) (e : Ending) (w' : World) : Prop := e = .returned v ∧ But r w w' ∧ PD w' r ts st d
set_option maxRecDepth 100000 in
set_option maxHeartbeats 4000000 in
theorem fail_any {w : World} {r d : Nat} {st : PS} {ts : List (Int × ByteArray × Int)} (hR : PD w r ts st d) (a n : Int) : Calls Tryz.prog 31 #[.pointer (some ⟨r, 0, none⟩), .int .i64 a, .int .i64 n] w (StP r ts (st.fail a n) d (.tuple #[]) w) := by
  obtain ⟨g, c, x0, x1, x2, x3, x4, hc, hr, hf, ht⟩ := hR.facts (Below.refl _ _)
  have HR := hide hR
  have f2 := hf 2
  have f3 := hf 3
  obtain ⟨s2, hs⟩ : ∃ s2, st.fail a n = s2 := ⟨_, rfl⟩
  rw [hs]
  unfold PS.fail at hs
  obtain ⟨i, er, ea⟩ := st
  unfold StP
  simp only at x2 hs
  clear hR hc hf ht x0 x1 x4
  by_cases he : er = 0
  · subst he
    rw [if_pos rfl] at hs
    subst hs
    go_enter Tryz.func31, Tryz.ntmps31
    go_wp2
    refine bodyPost_end (results_none rfl _ _ _) rfl ?_
    have hb : But r w ((w.setCell ⟨r, 2, none⟩ (.int .i64 n)).setCell ⟨r, 3, none⟩ (.int .i64 a)) := ((But.refl r w).set _ _).set _ _
    exact ⟨rfl, hb, (unhide HR).set hb (unhide HR).lt fun g c h => set_block (set_block h _) _⟩
  · rw [if_neg he] at hs
    subst hs
    have e2 : (er == 0) = false := by simpa using he
    have d2 : decide (er = 0) = false := by simpa using he
    go_enter Tryz.func31, Tryz.ntmps31
    go_wp2
    refine bodyPost_end (results_none rfl _ _ _) rfl ?_
    exact ⟨rfl, But.refl _ _, unhide HR⟩
set_option maxRecDepth 100000 in
set_option maxHeartbeats 4000000 in
theorem step_any {w : World} {r d : Nat} {st : PS} {ts : List (Int × ByteArray × Int)} (hR : PD w r ts st d) (hT : TsOk ts) : Calls Tryz.prog 57 #[.pointer (some ⟨r, 0, none⟩)] w (StP r ts (stepD ts st) d (.tuple #[]) w) := by
  obtain ⟨g, c, x0, x1, x2, x3, x4, hc, hr, hf, ht⟩ := hR.facts (Below.refl _ _)
  have HR := hide hR
  have f1 := hf 1
  have hl := hT.len
  have hlt := hR.lt
  obtain ⟨s2, hs⟩ : ∃ s2, stepD ts st = s2 := ⟨_, rfl⟩
  rw [hs]
  unfold stepD at hs
  obtain ⟨i, er, ea⟩ := st
  unfold StP
  simp only at x1 x2 hs hlt
  obtain ⟨L, hL⟩ : ∃ L, ts.length = L := ⟨_, rfl⟩
  have HL := hide hL
  rw [hL] at x0 hs hl hlt
  have g1 : (0 : Int) ≤ (i : Int) := by omega
  have g2 : (i : Int) < (L : Int) := by omega
  have g3 : (L : Int) ≤ 100000 := by omega
  clear hR hc hf ht x3 x4 hL hT
  by_cases he : er = 0
  · subst he
    by_cases hi : i + 1 < L
    · rw [if_pos ⟨rfl, hi⟩] at hs
      subst hs
      have g4 : (i : Int) < (L : Int) - 1 := by omega
      clear hl hlt
      replace hi := hide hi
      go_enter Tryz.func57, Tryz.ntmps57
      go_wp2_with fail
      go_region
      go_wp2
      refine bodyPost_end (results_none rfl _ _ _) rfl ?_
      have hb : But r w (w.drew.setCell ⟨r, 1, none⟩ (.int .i64 ((i : Int) + 1))) := (but_drew (But.refl r w)).set _ _
      exact ⟨rfl, hb, (unhide HR).set hb (by rw [unhide HL]; exact unhide hi) fun g c h => set_block (by rw [heap_drew]; exact h) _⟩
    · rw [if_neg (fun h => hi h.2)] at hs
      subst hs
      have g4 : decide ((i : Int) < (L : Int) - 1) = false := by simp; omega
      have g5 : ¬ (i : Int) < (L : Int) - 1 := by omega
      clear hl hlt hi
      go_enter Tryz.func57, Tryz.ntmps57
      go_wp2_with fail
      go_region
      go_wp2
      refine bodyPost_end (results_none rfl _ _ _) rfl ?_
      have hb : But r w w.drew := but_drew (But.refl r w)
      exact ⟨rfl, hb, (unhide HR).set hb (unhide HR).lt fun g c h => by rw [heap_drew]; exact h⟩
  · rw [if_neg (fun h => he h.1)] at hs
    subst hs
    have e2 : (er == 0) = false := by simpa using he
    have d2 : decide (er = 0) = false := by simpa using he
    clear hl hlt
    go_enter Tryz.func57, Tryz.ntmps57
    go_wp2_with fail
    go_region
    go_wp2
    refine bodyPost_end (results_none rfl _ _ _) rfl ?_
    have hb : But r w w.drew := but_drew (But.refl r w)
    exact ⟨rfl, hb, (unhide HR).set hb (unhide HR).lt fun g c h => by rw [heap_drew]; exact h⟩
end Go.Proofs.YtfkfnbehdcmgeaaGreatDoor

/- The document's parser: eat, must, name, down, next. -/
namespace Go.Proofs.YtfkfnbehdcmgeaaGreatDoor
open Go Go.RowKit
set_option maxRecDepth 100000 in
set_option maxHeartbeats 4000000 in
theorem eat_any {w : World} {r d : Nat} {st : PS} {ts : List (Int × ByteArray × Int)} (hR : PD w r ts st d) (hT : TsOk ts) (s : ByteArray) : Calls Tryz.prog 54 #[.pointer (some ⟨r, 0, none⟩), .string s] w (StP r ts (eatD ts s st) d (.bool (isD ts s st)) w) := by
  have HI := hide (is_any hR hT s)
  have HR := hide hR
  have HT := hide hT
  obtain ⟨b, hb⟩ : ∃ b, isD ts s st = b := ⟨_, rfl⟩
  obtain ⟨s2, hs⟩ : ∃ s2, eatD ts s st = s2 := ⟨_, rfl⟩
  rw [hs]
  unfold eatD at hs
  rw [hb] at HI hs ⊢
  replace hs := hide hs
  clear hR hT hb
  unfold StP
  go_enter Tryz.func54, Tryz.ntmps54
  go_wp2_with fail
  refine (unhide HI).mono ?_
  rintro e w2 ⟨rfl, hb2⟩
  have HB := hide hb2
  clear hb2 HI
  cases b with
  | false =>
    go_wp2
    go_ret
    have h := unhide hs
    simp only [Bool.false_eq_true, if_false] at h
    subst h
    exact ⟨rfl, But.of (unhide HB), (unhide HR).keep (unhide HB)⟩
  | true =>
    have HS := hide (step_any ((unhide HR).keep (unhide HB)) (unhide HT))
    go_wp2_with fail
    refine (unhide HS).mono ?_
    rintro e w3 ⟨rfl, hb3, hR3⟩
    have h := unhide hs
    simp only [if_true] at h
    subst h
    have H3 := hide (And.intro ((But.of (r := r) (unhide HB)).trans hb3) hR3)
    clear hb3 hR3 HS hs
    go_wp2
    go_ret
    exact ⟨rfl, (unhide H3).1, (unhide H3).2⟩
set_option maxRecDepth 100000 in
set_option maxHeartbeats 4000000 in
theorem dmust_any {w : World} {r d : Nat} {st : PS} {ts : List (Int × ByteArray × Int)} (hR : PD w r ts st d) (hT : TsOk ts) (s : ByteArray) : Calls Tryz.prog 56 #[.pointer (some ⟨r, 0, none⟩), .string s] w (StP r ts (mustD ts s st) d (.int .i64 (tD ts st).2.2) w) := by
  have HN := hide (dt_any hR hT)
  have HR := hide hR
  have HT := hide hT
  obtain ⟨s2, hs⟩ : ∃ s2, mustD ts s st = s2 := ⟨_, rfl⟩
  rw [hs]
  unfold mustD at hs
  unfold tkV at HN
  obtain ⟨⟨k, T, i⟩, hX⟩ : ∃ X, tD ts st = X := ⟨_, rfl⟩
  rw [hX] at HN hs ⊢
  have HX := hide hX
  have h2 := fld2 (.int .i64 k) (.string T) (.int .i64 i)
  obtain ⟨b, hb⟩ : ∃ b, isD ts s st = b := ⟨_, rfl⟩
  rw [hb] at hs
  have HBB := hide hb
  replace hs := hide hs
  clear hR hT hb hX
  unfold StP
  go_enter Tryz.func56, Tryz.ntmps56
  go_wp2_with fail
  refine (unhide HN).mono ?_
  rintro e w2 ⟨rfl, hb2⟩
  have HB := hide hb2
  have HE := hide (eat_any ((unhide HR).keep hb2) (unhide HT) s)
  clear hb2 HN
  go_wp2_with fail
  refine (unhide HE).mono ?_
  rintro e w3 ⟨rfl, hb3, hR3⟩
  rw [unhide HBB]
  have H3 := hide ((But.of (r := r) (unhide HB)).trans hb3)
  unfold eatD at hR3
  rw [unhide HBB] at hR3
  have hs1 := unhide hs
  cases b with
  | true =>
    simp only [if_true] at hR3 hs1
    subst hs1
    have HR3 := hide hR3
    clear hb3 hR3 HE hs
    go_wp2
    go_ret
    exact ⟨rfl, unhide H3, unhide HR3⟩
  | false =>
    simp only [Bool.false_eq_true, if_false] at hR3 hs1
    subst hs1
    have HR3 := hide hR3
    have HN2 := hide (dt_any hR3 (unhide HT))
    unfold tkV at HN2
    rw [unhide HX] at HN2
    clear hb3 hR3 HE hs
    go_wp2_with fail
    refine (unhide HN2).mono ?_
    rintro e w4 ⟨rfl, hb4⟩
    have HF := hide (fail_any ((unhide HR3).keep hb4) i 150)
    have H4 := hide ((unhide H3).trans (But.of (r := r) hb4))
    clear hb4 HN2
    go_wp2_with fail
    refine (unhide HF).mono ?_
    rintro e w5 ⟨rfl, hb5, hR5⟩
    have H5 := hide (And.intro ((unhide H4).trans hb5) hR5)
    clear hb5 hR5 HF
    go_wp2
    go_ret
    exact ⟨rfl, (unhide H5).1, (unhide H5).2⟩
theorem PD.out {w w' : World} {r d q : Nat} {st : PS} {ts : List (Int × ByteArray × Int)} (h : PD w r ts st d) (hq : r < q) (hb : ∀ k, k < q → w'.heap[k]? = w.heap[k]?) : PD w' r ts st d := by
  obtain ⟨⟨g, c, h1, h2, h3, h4⟩, h5⟩ := h
  exact ⟨⟨g, c, (hb r hq).trans h1, h2, h3, fun j x hx => range_same (h4 j x hx) (hb g (by omega))⟩, h5⟩
set_option maxRecDepth 100000 in
set_option maxHeartbeats 4000000 in
theorem name_any {w : World} {r d : Nat} {st : PS} {ts : List (Int × ByteArray × Int)} (hR : PD w r ts st d) (hT : TsOk ts) : Calls Tryz.prog 55 #[.pointer (some ⟨r, 0, none⟩)] w (StP r ts (nameD ts st).2 d (tkV (nameD ts st).1) w) := by
  obtain ⟨A, eA, hbA, hsA, hhA⟩ := box_new w #[.int .i64 0, .string ⟨#[]⟩, .int .i64 0] 74
  have hrw := hR.rlt
  have HR := hide (hR.keep hbA)
  have HN := hide (dt_any (unhide HR) hT)
  have HT := hide hT
  have HA := hide (And.intro hbA (And.intro hhA (And.intro hsA hrw)))
  have HEA := hide eA
  obtain ⟨Y, hY⟩ : ∃ Y, nameD ts st = Y := ⟨_, rfl⟩
  rw [hY]
  unfold nameD at hY
  unfold tkV at HN ⊢
  obtain ⟨⟨k, T, i⟩, hX⟩ : ∃ X, tD ts st = X := ⟨_, rfl⟩
  rw [hX] at HN hY
  simp only at hY
  clear hR hT hX eA hbA hhA hsA hrw
  unfold StP
  by_cases hk : k = 1
  · subst hk
    rw [if_pos rfl] at hY
    subst hY
    go_enter Tryz.func55, Tryz.ntmps55
    go_wp2_with fail
    rw [unhide HEA]
    refine (unhide HN).mono ?_
    rintro e w2 ⟨rfl, hb2⟩
    obtain ⟨B, eB, hbB, hsB, hhB⟩ := box_new w2 #[.int .i64 1, .string T, .int .i64 i] 74
    have hAB := hb2.trans (hbB.mono hb2.size)
    have HS := hide (step_any ((unhide HR).keep hAB) (unhide HT))
    have y0 : B.cell? ⟨w2.heap.size, 0, none⟩ = some (.int .i64 1) := (blk hhB).2.1 0 _ rfl
    have H2 := hide (And.intro hAB (And.intro hhB (And.intro hsB hb2.size)))
    have HEB := hide eB
    rw [← eB] at y0
    clear HN hb2 eB hbB hsB hhB hAB
    go_wp2_with fail
    rw [unhide HEB]
    refine (unhide HS).mono ?_
    rintro e w3 ⟨rfl, hb3, hR3⟩
    obtain ⟨hbA, hhA, hsA, hrw⟩ := unhide HA
    obtain ⟨hAB, hhB, hsB, hs2⟩ := unhide H2
    have hh3 := (hb3.block _ (blk hhB).1 (by omega)).trans hhB
    have hA3 := (hb3.block _ (Nat.lt_of_lt_of_le (blk hhA).1 hAB.size) (by omega)).trans ((hAB.block _ (blk hhA).1).trans hhA)
    have x0 : w3.cell? ⟨w2.heap.size, 0, none⟩ = some (.int .i64 1) := (blk hh3).2.1 0 _ rfl
    have x1 : w3.cell? ⟨w2.heap.size, 1, none⟩ = some (.string T) := (blk hh3).2.1 1 _ rfl
    have x2 : w3.cell? ⟨w2.heap.size, 2, none⟩ = some (.int .i64 i) := (blk hh3).2.1 2 _ rfl
    have y0 : w3.cell? ⟨w.heap.size, 0, none⟩ = some (.int .i64 0) := (blk hA3).2.1 0 _ rfl
    have y1 : w3.cell? ⟨w.heap.size, 1, none⟩ = some (.string ⟨#[]⟩) := (blk hA3).2.1 1 _ rfl
    have y2 : w3.cell? ⟨w.heap.size, 2, none⟩ = some (.int .i64 0) := (blk hA3).2.1 2 _ rfl
    have z0 := (blk hA3).2.2 0
    have z1 := (blk hA3).2.2 1
    have z2 := (blk hA3).2.2 2
    have n1 : w2.heap.size ≠ w.heap.size := by omega
    have H3 := hide (And.intro ((But.of (r := r) hbA).trans ((But.of (r := r) hAB).trans hb3)) (And.intro hR3 (And.intro hA3 hrw)))
    clear hb3 hR3 hbA hhA hsA hrw hAB hhB hsB hs2 hh3 hA3 HS
    go_wp2
    obtain ⟨hbu, hR3, hA3, hrw⟩ := unhide H3
    refine bodyPost_ret (res_row (cs := [.int .i64 1, .string T, .int .i64 i]) rfl rfl (range_block (fill3 hA3)) rfl rfl rfl) rfl ?_
    refine ⟨rfl, but_new (but_new (but_new hbu (Nat.le_refl _) _ _) (Nat.le_refl _) _ _) (Nat.le_refl _) _ _, hR3.out hrw fun k hk => ?_⟩
    rw [heap_set _ _ (by omega), heap_set _ _ (by omega), heap_set _ _ (by omega)]
  · rw [if_neg hk] at hY
    subst hY
    have e1 : (k == 1) = false := by simpa using hk
    have e2 : decide (k = 1) = false := by simpa using hk
    clear hk
    go_enter Tryz.func55, Tryz.ntmps55
    go_wp2_with fail
    rw [unhide HEA]
    refine (unhide HN).mono ?_
    rintro e w2 ⟨rfl, hb2⟩
    obtain ⟨B, eB, hbB, hsB, hhB⟩ := box_new w2 #[.int .i64 k, .string T, .int .i64 i] 74
    have hAB := hb2.trans (hbB.mono hb2.size)
    have HS := hide (fail_any ((unhide HR).keep hAB) i 150)
    have y0 : B.cell? ⟨w2.heap.size, 0, none⟩ = some (.int .i64 k) := (blk hhB).2.1 0 _ rfl
    have y2 : B.cell? ⟨w2.heap.size, 2, none⟩ = some (.int .i64 i) := (blk hhB).2.1 2 _ rfl
    have H2 := hide (And.intro hAB (And.intro hhB (And.intro hsB hb2.size)))
    have HEB := hide eB
    rw [← eB] at y0 y2
    clear HN hb2 eB hbB hsB hhB hAB
    go_wp2_with fail
    rw [unhide HEB]
    refine (unhide HS).mono ?_
    rintro e w3 ⟨rfl, hb3, hR3⟩
    obtain ⟨hbA, hhA, hsA, hrw⟩ := unhide HA
    obtain ⟨hAB, hhB, hsB, hs2⟩ := unhide H2
    have hA3 := (hb3.block _ (Nat.lt_of_lt_of_le (blk hhA).1 hAB.size) (by omega)).trans ((hAB.block _ (blk hhA).1).trans hhA)
    have y0 : w3.cell? ⟨w.heap.size, 0, none⟩ = some (.int .i64 0) := (blk hA3).2.1 0 _ rfl
    have y1 : w3.cell? ⟨w.heap.size, 1, none⟩ = some (.string ⟨#[]⟩) := (blk hA3).2.1 1 _ rfl
    have y2 : w3.cell? ⟨w.heap.size, 2, none⟩ = some (.int .i64 0) := (blk hA3).2.1 2 _ rfl
    have z0 := (blk hA3).2.2 0
    have z1 := (blk hA3).2.2 1
    have z2 := (blk hA3).2.2 2
    have H3 := hide (And.intro ((But.of (r := r) hbA).trans ((But.of (r := r) hAB).trans hb3)) (And.intro hR3 (And.intro hA3 hrw)))
    clear hb3 hR3 hbA hhA hsA hrw hAB hhB hsB hs2 hA3 HS
    go_wp2
    obtain ⟨hbu, hR3, hA3, hrw⟩ := unhide H3
    refine bodyPost_ret (res_row (cs := [.int .i64 0, .string ⟨#[]⟩, .int .i64 0]) rfl rfl (range_block (fill3 hA3)) rfl rfl rfl) rfl ?_
    refine ⟨rfl, but_new (but_new (but_new hbu (Nat.le_refl _) _ _) (Nat.le_refl _) _ _) (Nat.le_refl _) _ _, hR3.out hrw fun k hk => ?_⟩
    rw [heap_set _ _ (by omega), heap_set _ _ (by omega), heap_set _ _ (by omega)]
end Go.Proofs.YtfkfnbehdcmgeaaGreatDoor

/- The document's parser: down, next. -/
namespace Go.Proofs.YtfkfnbehdcmgeaaGreatDoor
open Go Go.RowKit
set_option maxRecDepth 100000 in
set_option maxHeartbeats 4000000 in
theorem down_yes {w : World} {r d : Nat} {st : PS} {ts : List (Int × ByteArray × Int)} (hR : PD w r ts st d) (hd : d < 200) : Calls Tryz.prog 60 #[.pointer (some ⟨r, 0, none⟩)] w (StP r ts st (d + 1) (.bool (decide (st.e = 0))) w) := by
  obtain ⟨g, c, x0, x1, x2, x3, x4, hc, hr, hf, ht⟩ := hR.facts (Below.refl _ _)
  have HR := hide hR
  have f4 := hf 4
  have g1 : (0 : Int) ≤ (d : Int) := by omega
  have g2 : (d : Int) < 200 := by omega
  have g3 : decide ((d : Int) + 1 > 200) = false := by simp; omega
  have g4 : ¬ (d : Int) + 1 > 200 := by omega
  have g5 : decide (200 < (d : Int) + 1) = false := by simp; omega
  unfold StP
  clear hR hc hf ht x0 x1 x3 hd
  go_enter Tryz.func60, Tryz.ntmps60
  go_wp2
  go_ret
  have hb : But r w (w.setCell ⟨r, 4, none⟩ (.int .i64 ((d : Int) + 1))) := (But.refl r w).set _ _
  refine ⟨?_, hb, (unhide HR).set hb (unhide HR).lt fun g c h => ?_⟩
  · rfl
  · exact set_block h _
set_option maxRecDepth 100000 in
set_option maxHeartbeats 4000000 in
theorem down_no {w : World} {r d : Nat} {st : PS} {ts : List (Int × ByteArray × Int)} (hR : PD w r ts st d) (hT : TsOk ts) (hd : 200 ≤ d) (hd2 : d ≤ 100000) : Calls Tryz.prog 60 #[.pointer (some ⟨r, 0, none⟩)] w (StP r ts (st.fail (tD ts st).2.2 151) (d + 1) (.bool false) w) := by
  obtain ⟨g, c, x0, x1, x2, x3, x4, hc, hr, hf, ht⟩ := hR.facts (Below.refl _ _)
  have f4 := hf 4
  have g1 : (0 : Int) ≤ (d : Int) := by omega
  have g2 : (d : Int) ≤ 100000 := by omega
  have g4 : (200 : Int) < (d : Int) + 1 := by omega
  have hb : But r w (w.setCell ⟨r, 4, none⟩ (.int .i64 ((d : Int) + 1))) := (But.refl r w).set _ _
  have hR2 : PD (w.setCell ⟨r, 4, none⟩ (.int .i64 ((d : Int) + 1))) r ts st (d + 1) := hR.set hb hR.lt fun g c h => set_block h _
  have HN := hide (dt_any hR2 hT)
  unfold tkV at HN
  obtain ⟨⟨k, T, i⟩, hX⟩ : ∃ X, tD ts st = X := ⟨_, rfl⟩
  rw [hX] at HN ⊢
  have h2 := fld2 (.int .i64 k) (.string T) (.int .i64 i)
  have HR := hide (And.intro hR2 hb)
  unfold StP
  clear hR hc hf ht x0 x1 x3 x2 hd hd2 hX hb hR2 hT
  go_enter Tryz.func60, Tryz.ntmps60
  go_wp2_with fail
  refine (unhide HN).mono ?_
  rintro e w4 ⟨rfl, hb4⟩
  have HF := hide (fail_any ((unhide HR).1.keep hb4) i 151)
  have H4 := hide ((unhide HR).2.trans (But.of (r := r) hb4))
  clear hb4 HN
  go_wp2_with fail
  refine (unhide HF).mono ?_
  rintro e w5 ⟨rfl, hb5, hR5⟩
  have H5 := hide (And.intro ((unhide H4).trans hb5) hR5)
  clear hb5 hR5 HF
  go_wp2
  go_ret
  exact ⟨rfl, (unhide H5).1, (unhide H5).2⟩
set_option maxRecDepth 100000 in
set_option maxHeartbeats 4000000 in
theorem dnext_any {w : World} {r d : Nat} {st : PS} {ts : List (Int × ByteArray × Int)} (hR : PD w r ts st d) (hT : TsOk ts) : Calls Tryz.prog 99 #[.pointer (some ⟨r, 0, none⟩)] w (VP (tkV (nx ts (st.i + 1))) w) := by
  obtain ⟨A, eA, hbA, hsA, hhA⟩ := box_new w #[.int .i64 0, .string ⟨#[]⟩, .int .i64 0] 74
  obtain ⟨g, c, x0, x1, x2, x3, x4, hc, hr, hf, ht⟩ := hR.facts hbA
  have hp := hR.lt
  have hl := hT.len
  obtain ⟨i, er, ea⟩ := st
  have g1 : (i : Int) < (ts.length : Int) := by have : i < ts.length := hp; omega
  have g2 : (ts.length : Int) ≤ 100000 := by omega
  have g3 : (0 : Int) ≤ (i : Int) := by omega
  have y0 : A.cell? ⟨w.heap.size, 0, none⟩ = some (.int .i64 0) := (blk hhA).2.1 0 _ rfl
  have y1 : A.cell? ⟨w.heap.size, 1, none⟩ = some (.string ⟨#[]⟩) := (blk hhA).2.1 1 _ rfl
  have y2 : A.cell? ⟨w.heap.size, 2, none⟩ = some (.int .i64 0) := (blk hhA).2.1 2 _ rfl
  have z0 := (blk hhA).2.2 0
  have z1 := (blk hhA).2.2 1
  have z2 := (blk hhA).2.2 2
  have HB := hide (And.intro hbA hhA)
  have HE := hide eA
  unfold VP
  obtain ⟨L, hL⟩ : ∃ L, ts.length = L := ⟨_, rfl⟩
  by_cases hi : i + 1 < ts.length
  · obtain ⟨t0, t1, t2⟩ := ht (i + 1) _ (nx_of hi)
    have g4 : (i : Int) + 1 < (ts.length : Int) := by omega
    unfold tkV
    obtain ⟨X, hX⟩ : ∃ X, nx ts (i + 1) = X := ⟨_, rfl⟩
    simp only at t0 t1 t2 x1 ⊢
    rw [hX] at t0 t1 t2 ⊢
    rw [hL] at x0 g1 g2 g4
    clear hR hT eA hbA hsA hhA hX hL ht hc hp hl hf hi
    go_enter Tryz.func99, Tryz.ntmps99
    go_wp2_with fail
    rw [unhide HE]
    go_region
    go_wp2_with fail
    have q0 : A.drew.cell? ⟨r, 0, none⟩ = some (.slice (some ⟨g, 0, none⟩) L c) := x0
    have q1 : A.drew.cell? ⟨r, 1, none⟩ = some (.int .i64 i) := x1
    have p0 : A.drew.cell? ⟨g, (i + 1) * 3, none⟩ = some (.int .i64 X.1) := t0
    have p1 : A.drew.cell? ⟨g, (i + 1) * 3 + 1, none⟩ = some (.string X.2.1) := t1
    have p2 : A.drew.cell? ⟨g, (i + 1) * 3 + 2, none⟩ = some (.int .i64 X.2.2) := t2
    have u0 : A.drew.cell? ⟨w.heap.size, 0, none⟩ = some (.int .i64 0) := y0
    have u1 : A.drew.cell? ⟨w.heap.size, 1, none⟩ = some (.string ⟨#[]⟩) := y1
    have u2 : A.drew.cell? ⟨w.heap.size, 2, none⟩ = some (.int .i64 0) := y2
    have v0 : A.drew.frozen? ⟨w.heap.size, 0, none⟩ = false := z0
    have v1 : A.drew.frozen? ⟨w.heap.size, 1, none⟩ = false := z1
    have v2 : A.drew.frozen? ⟨w.heap.size, 2, none⟩ = false := z2
    have hr2 : r < A.drew.heap.size := hr
    go_region
    go_wp2
    obtain ⟨hbA, hhA⟩ := unhide HB
    refine bodyPost_ret (res_row (cs := [.int .i64 X.1, .string X.2.1, .int .i64 X.2.2]) rfl rfl (range_block (by rw [heap_drew, heap_drew]; exact fill3 hhA)) rfl rfl rfl) rfl ?_
    exact ⟨rfl, (below_set (below_set (below_set hbA (Nat.le_refl _) _ _) (Nat.le_refl _) _ _) (Nat.le_refl _) _ _).drew.drew⟩
  · have g4 : decide ((i : Int) + 1 < (ts.length : Int)) = false := by simp; omega
    have g5 : ¬ (i : Int) + 1 < (ts.length : Int) := by omega
    have hz : nx ts (i + 1) = (0, ⟨#[]⟩, 0) := by
      unfold nx
      rw [List.getD_eq_getElem?_getD, List.getElem?_eq_none (by omega)]
      rfl
    simp only at x1 ⊢
    rw [hz]
    unfold tkV
    rw [hL] at x0 g1 g2 g4 g5
    clear hR hT eA hbA hsA hhA hL ht hc hp hl hf hi hz
    go_enter Tryz.func99, Tryz.ntmps99
    go_wp2_with fail
    rw [unhide HE]
    go_region
    have u0 : A.drew.cell? ⟨w.heap.size, 0, none⟩ = some (.int .i64 0) := y0
    have u1 : A.drew.cell? ⟨w.heap.size, 1, none⟩ = some (.string ⟨#[]⟩) := y1
    have u2 : A.drew.cell? ⟨w.heap.size, 2, none⟩ = some (.int .i64 0) := y2
    have v0 : A.drew.frozen? ⟨w.heap.size, 0, none⟩ = false := z0
    have v1 : A.drew.frozen? ⟨w.heap.size, 1, none⟩ = false := z1
    have v2 : A.drew.frozen? ⟨w.heap.size, 2, none⟩ = false := z2
    go_wp2
    obtain ⟨hbA, hhA⟩ := unhide HB
    refine bodyPost_ret (res_row (cs := [.int .i64 0, .string ⟨#[]⟩, .int .i64 0]) rfl rfl (range_block (fill3 hhA)) rfl rfl rfl) rfl ?_
    exact ⟨rfl, below_set (below_set (below_set hbA.drew (Nat.le_refl _) _ _) (Nat.le_refl _) _ _) (Nat.le_refl _) _ _⟩
end Go.Proofs.YtfkfnbehdcmgeaaGreatDoor

namespace Go.Proofs.YtfkfnbehdcmgeaaGreatDoor
open Go Go.RowKit
set_option maxRecDepth 100000 in
set_option maxHeartbeats 8000000 in
theorem pexpr_any (s : ByteArray) (w : World) (hG : SG w) : Calls Tryz.prog 17 #[.string s] w (ExprP s w) := by
  obtain ⟨A, eA, hbA, hzA, hsA⟩ := zb_new w
  have h1w := hG.lt
  have HC := hide (pread_any (k := 35) (ob := w.heap.size) (X := aloneF) (Φ := OutE w.heap.size) s A (hG.below hbA h1w) ⟨fun xs w => by go_simp⟩ (by omega)
    (fun w1 w2 t hb hs h => by
      obtain ⟨x0, x1, x2, x3, x4, x5, x6, h1, h2⟩ := h
      exact ⟨x0, x1, x2, x3, x4, x5, x6, (hb.block _ (blk h1).1 (by omega)).trans h1, h2.keep (Stays.but hb (by omega)) (Nat.le_refl _)⟩)
    (fun W r hb hr hR => exprClo_any hR ((hb.block _ (by omega)).trans hzA) (by omega)))
  have hmf : ∀ (fn : Fn) (first cap : Array Value) (w : World), (Instr.makeFunc fn first cap).run Tryz.prog w = .ok (.func fn first cap) w := fun _ _ _ _ => rfl
  have HA := hide (And.intro hbA (And.intro hzA hsA))
  have HE := hide eA
  clear hbA hzA hsA eA hG h1w
  go_enter Tryz.func17, Tryz.ntmps17
  go_wp2_with fail
  rw [unhide HE]
  refine (unhide HC).mono ?_
  intro e w3 h3
  obtain ⟨hbA, hzA, hsA⟩ := unhide HA
  have bad9 : ∀ (i n : Int) (v : Value), exprS s = .error (i, n) → Below A.heap.size A w3 → e = .returned v → PErr w3 v i n → ∃ b, v = .iface 61 (.pointer (some ⟨b, 0, none⟩)) ∧ b ≠ w.heap.size := fun i n v _ hb _ ⟨b, hv, hh⟩ => ⟨b, hv, fun e => by
    subst e
    have := (hb.block _ (by omega)).trans hzA
    rw [this] at hh
    cases hh⟩
  unfold ReadP at h3
  rcases hS : exprS s with ⟨i, n⟩ | t
  · have h4 : Below A.heap.size A w3 ∧ ∃ v, e = .returned v ∧ PErr w3 v i n := by
      unfold exprS at hS
      rcases hn : (tk s).2 with _ | ⟨a, m⟩
      · rw [hn] at hS h3
        rcases hX : aloneF (tkL s) with ⟨a, m⟩ | ⟨t, q⟩
        · rw [hX] at hS h3
          obtain ⟨rfl, rfl⟩ : a = i ∧ m = n := by simpa using hS
          exact h3
        · rw [hX] at hS
          cases hS
      · rw [hn] at hS h3
        obtain ⟨rfl, rfl⟩ : (a : Int) = i ∧ (m : Int) = n := by simpa using hS
        exact h3
    obtain ⟨hb, v, rfl, hP⟩ := h4
    obtain ⟨b, rfl, hne⟩ := bad9 i n v hS hb rfl hP
    have hz3 := (hb.block _ (by omega)).trans hzA
    obtain ⟨y0, y1, y2, y3, y4, y5, y6⟩ := blk7 hz3
    obtain ⟨z0, z1, z2, z3, z4, z5, z6⟩ := frz7 hz3
    have HQ := hide (And.intro hb (And.intro hP (And.intro hz3 (And.intro hne (And.intro hS (And.intro hbA hsA))))))
    clear HC h3 bad9 hS hb hP hne hz3 hbA hzA hsA
    go_wp2
    obtain ⟨hb, hP, hz3, hne, hS, hbA, hsA⟩ := unhide HQ
    refine bodyPost_ret (results_two rfl rfl (run_loadVar_mid _ _ _ _ _ _ (range_block (fill7 hz3)) Tryz.underlying36 rfl (by kernel_rfl)) rfl) rfl ?_
    unfold ExprP
    rw [hS]
    obtain ⟨b2, e2, hd⟩ := hP
    obtain rfl : b = b2 := by simpa using e2
    refine ⟨below_set (below_set (below_set (below_set (below_set (below_set (below_set (hbA.trans (hb.mono (by omega))) (Nat.le_refl _) _ _) (Nat.le_refl _) _ _) (Nat.le_refl _) _ _) (Nat.le_refl _) _ _) (Nat.le_refl _) _ _) (Nat.le_refl _) _ _) (Nat.le_refl _) _ _, _, rfl, b, rfl, (same7 hne _ _ _ _ _ _ _).trans hd⟩
  · have h4 : e = .returned .nilIface ∧ But w.heap.size A w3 ∧ OutE w.heap.size w3 t := by
      unfold exprS at hS
      rcases hn : (tk s).2 with _ | ⟨a, m⟩
      · rw [hn] at hS h3
        rcases hX : aloneF (tkL s) with ⟨a, m⟩ | ⟨t2, q⟩
        · rw [hX] at hS
          cases hS
        · rw [hX] at hS h3
          obtain rfl : t2 = t := by simpa using hS
          exact h3
      · rw [hn] at hS
        cases hS
    obtain ⟨rfl, hb, x0, x1, x2, x3, x4, x5, x6, hz3, hv⟩ := h4
    obtain ⟨i0, i6, s1, s2, b3, a4, n4, c4, ev⟩ := hv.form
    obtain ⟨rfl, rfl, rfl, rfl, rfl, rfl, rfl⟩ : x0 = .int .i64 i0 ∧ x1 = .string s1 ∧ x2 = .string s2 ∧ x3 = .bool b3 ∧ x4 = .slice a4 n4 c4 ∧ x5 = .int .i64 0 ∧ x6 = .int .i64 i6 := by simpa using ev
    obtain ⟨y0, y1, y2, y3, y4, y5, y6⟩ := blk7 hz3
    obtain ⟨z0, z1, z2, z3, z4, z5, z6⟩ := frz7 hz3
    have HQ := hide (And.intro hb (And.intro hv (And.intro hz3 (And.intro hS (And.intro hbA hsA)))))
    clear HC h3 bad9 hS hb hv hz3 hbA hzA hsA ev
    go_wp2
    obtain ⟨hb, hv, hz3, hS, hbA, hsA⟩ := unhide HQ
    refine bodyPost_ret (results_two rfl rfl (run_loadVar_mid _ _ _ _ _ _ (range_block (fill7 hz3)) Tryz.underlying36 rfl (by kernel_rfl)) rfl) rfl ?_
    unfold ExprP
    rw [hS]
    have hb9 : Below w.heap.size w w3 := ⟨hb.os.trans hbA.os, hb.tape.trans hbA.tape, hb.output.trans hbA.output, Nat.le_trans hbA.size hb.size, fun j hj => (hb.block j (by omega) (by omega)).trans (hbA.block j hj)⟩
    exact ⟨below7 hb9 (Nat.le_refl _) _ _ _ _ _ _ _, _, rfl, hv.keep (stays7 (lo := w.heap.size + 2) (Stays.of (Below.refl _ _)) (by omega) _ _ _ _ _ _ _) (by omega)⟩
end Go.Proofs.YtfkfnbehdcmgeaaGreatDoor
