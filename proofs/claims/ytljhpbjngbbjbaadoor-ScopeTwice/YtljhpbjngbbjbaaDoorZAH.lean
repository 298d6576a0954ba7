/- The document's parser: expr where it may be deeper. -/
import Derived.Test.YtljhpbjngbbjbaaDoorZAG
import Derived.Test.YtljhpbjngbbjbaaDoorZAA
import Derived.Test.YtljhpbjngbbjbaaDoorZAC
set_option linter.unusedVariables false
set_option linter.unusedSimpArgs false

/- avowhelp.Strings, Ints: of rows that read alike they tell true. -/
namespace Go.Proofs.YtljhpbjngbbjbaaDoor
open Go Go.RowKit
/-- What a slice of one's own reads as. -/
theorem own_cells1 {w : World} {B k n : Nat} {v : Value} {t : TypeId} {xs : List Value} (h : w.ownsRow B t k v n xs) : ∃ a c, v = .slice a n c ∧ n ≤ c ∧ (n ≠ 0 → ∃ g, a = some ⟨g, 0, none⟩ ∧ B ≤ g ∧ g < w.heap.size ∧ ∀ (j : Nat) u, xs[j]? = some u → w.cell? ⟨g, j, none⟩ = some u) := by
  obtain ⟨hlen, ⟨rfl, h0⟩ | ⟨g, cap, cur, rfl, hg, hgb, hc1, hc2, hc3, hc4⟩⟩ := h
  · subst h0
    exact ⟨none, 0, rfl, Nat.le_refl _, fun h => absurd rfl h⟩
  · refine ⟨_, cap, rfl, hc1, fun _ => ⟨g, rfl, hg, (Array.getElem?_eq_some_iff.1 hgb).1, fun j u hu => ?_⟩⟩
    rw [← hc4, List.getElem?_take] at hu
    split at hu
    · exact (blk hgb).2.1 j u (by rw [← Array.getElem?_toList]; exact hu)
    · cases hu
/-- A row of values of one cell. -/
def Rd1 (w : World) (v : Value) (xs : List Value) : Prop := ∃ a c, v = .slice a xs.length c ∧ xs.length ≤ 1000000 ∧ (xs ≠ [] → ∃ q o, a = some ⟨q, o, none⟩ ∧ q < w.heap.size ∧ ∀ j x, xs[j]? = some x → w.cell? ⟨q, o + j, none⟩ = some x)
theorem Rd1.below {w w' : World} {v : Value} {xs : List Value} (h : Rd1 w v xs) (hb : Below w.heap.size w w') : Rd1 w' v xs := by
  obtain ⟨a, c, e, h1, h2⟩ := h
  refine ⟨a, c, e, h1, fun h0 => ?_⟩
  obtain ⟨q, o, e2, h3, h4⟩ := h2 h0
  exact ⟨q, o, e2, Nat.lt_of_lt_of_le h3 hb.size, fun j x hx => (hb.cell (p := ⟨q, o + j, none⟩) h3).trans (h4 j x hx)⟩
theorem Rd1.own {w : World} {B : Nat} {e : TypeId} {v : Value} {xs : List Value} (h : w.ownsRow B e 1 v xs.length xs) (hl : xs.length ≤ 1000000) : Rd1 w v xs := by
  obtain ⟨a, c, rfl, h1, h2⟩ := own_cells1 h
  refine ⟨a, c, rfl, hl, fun h0 => ?_⟩
  obtain ⟨g, e2, h3, h4, h5⟩ := h2 (fun e => h0 (List.length_eq_zero_iff.1 e))
  exact ⟨g, 0, e2, h4, fun j x hx => by rw [Nat.zero_add]; exact h5 j x hx⟩
set_option maxRecDepth 100000 in
set_option maxHeartbeats 8000000 in
theorem strings_like {w : World} {va vb : Value} {xs : List ByteArray} (ha : Rd1 w va (xs.map fun x => Value.string x)) (hb : Rd1 w vb (xs.map fun x => Value.string x)) : Calls Tryd.prog 12 #[va, vb] w fun e w' => e = .returned (.bool true) ∧ Below w.heap.size w w' := by
  obtain ⟨a1, c1, rfl, h1, h2⟩ := ha
  obtain ⟨a2, c2, rfl, h3, h4⟩ := hb
  rw [List.length_map] at h1 h3 ⊢
  obtain ⟨n, hn⟩ : ∃ n, xs.length = n := ⟨_, rfl⟩
  rw [hn] at h1 h3 ⊢
  have g4 : (n : Int) ≤ 1000000 := by omega
  have HR := hide (And.intro h2 (And.intro h4 hn))
  clear h1 h2 h3 h4 hn
  go_enter Tryd.func12, Tryd.ntmps12
  go_wp2_with fail
  go_loopw [5] (fun iv wr => ∃ j : Nat, iv = .int .i64 j ∧ j ≤ n ∧ Hid (Below w.heap.size w wr)) (fun iv _ => n - (intOf iv).toNat)
  case atStart => exact ⟨0, rfl, Nat.zero_le _, Below.refl _ _⟩
  case round =>
    obtain ⟨j, rfl, hj, HB⟩ := hrel
    have g3 : (0 : Int) ≤ (j : Int) := by omega
    by_cases hjn : j < n
    rotate_left
    · have g1 : ¬ ((j : Int) < (n : Int)) := by omega
      have g2 : decide ((j : Int) < (n : Int)) = false := by simp; omega
      clear hj hjn
      go_wp2
      go_ret
      exact ⟨rfl, unhide HB⟩
    · obtain ⟨h2, h4, hn⟩ := unhide HR
      have hne : (xs.map fun x => Value.string x) ≠ [] := fun e => by
        have := congrArg List.length e
        simp at this
        rw [this] at hn
        simp at hn
        omega
      obtain ⟨q1, o1, rfl, k1, k2⟩ := h2 hne
      obtain ⟨q2, o2, rfl, k3, k4⟩ := h4 hne
      obtain ⟨x, hx⟩ : ∃ x, xs[j]? = some x := ⟨_, List.getElem?_eq_getElem (by omega)⟩
      have hv : (xs.map fun x => Value.string x)[j]? = some (Value.string x) := by rw [List.getElem?_map, hx]; rfl
      have y1 : wr.cell? ⟨q1, o1 + j, none⟩ = some (Value.string x) := ((unhide HB).cell (p := ⟨q1, o1 + j, none⟩) k1).trans (k2 j _ hv)
      have y2 : wr.cell? ⟨q2, o2 + j, none⟩ = some (Value.string x) := ((unhide HB).cell (p := ⟨q2, o2 + j, none⟩) k3).trans (k4 j _ hv)
      have g1 : (j : Int) < (n : Int) := by omega
      have g2 : decide ((j : Int) < (n : Int)) = true := by simp; omega
      have HJ := hide hjn
      clear h2 h4 hn hne k1 k2 k3 k4 hx hv hj hjn HR
      go_wp2_with fail
      go_quiet (fail)
      go_wp2
      exact ⟨⟨j + 1, by push_cast; rfl, by have := unhide HJ; omega, (unhide HB).trans (below_dw _ _ _)⟩, by simp only [intOf]; have := unhide HJ; omega⟩
set_option maxRecDepth 100000 in
set_option maxHeartbeats 8000000 in
theorem ints_like {w : World} {va vb : Value} {xs : List Int} (ha : Rd1 w va (xs.map fun x => Value.int .i64 x)) (hb : Rd1 w vb (xs.map fun x => Value.int .i64 x)) : Calls Tryd.prog 15 #[va, vb] w fun e w' => e = .returned (.bool true) ∧ Below w.heap.size w w' := by
  obtain ⟨a1, c1, rfl, h1, h2⟩ := ha
  obtain ⟨a2, c2, rfl, h3, h4⟩ := hb
  rw [List.length_map] at h1 h3 ⊢
  obtain ⟨n, hn⟩ : ∃ n, xs.length = n := ⟨_, rfl⟩
  rw [hn] at h1 h3 ⊢
  have g4 : (n : Int) ≤ 1000000 := by omega
  have HR := hide (And.intro h2 (And.intro h4 hn))
  clear h1 h2 h3 h4 hn
  go_enter Tryd.func15, Tryd.ntmps15
  go_wp2_with fail
  go_loopw [5] (fun iv wr => ∃ j : Nat, iv = .int .i64 j ∧ j ≤ n ∧ Hid (Below w.heap.size w wr)) (fun iv _ => n - (intOf iv).toNat)
  case atStart => exact ⟨0, rfl, Nat.zero_le _, Below.refl _ _⟩
  case round =>
    obtain ⟨j, rfl, hj, HB⟩ := hrel
    have g3 : (0 : Int) ≤ (j : Int) := by omega
    by_cases hjn : j < n
    rotate_left
    · have g1 : ¬ ((j : Int) < (n : Int)) := by omega
      have g2 : decide ((j : Int) < (n : Int)) = false := by simp; omega
      clear hj hjn
      go_wp2
      go_ret
      exact ⟨rfl, unhide HB⟩
    · obtain ⟨h2, h4, hn⟩ := unhide HR
      have hne : (xs.map fun x => Value.int .i64 x) ≠ [] := fun e => by
        have := congrArg List.length e
        simp at this
        rw [this] at hn
        simp at hn
        omega
      obtain ⟨q1, o1, rfl, k1, k2⟩ := h2 hne
      obtain ⟨q2, o2, rfl, k3, k4⟩ := h4 hne
      obtain ⟨x, hx⟩ : ∃ x, xs[j]? = some x := ⟨_, List.getElem?_eq_getElem (by omega)⟩
      have hv : (xs.map fun x => Value.int .i64 x)[j]? = some (Value.int .i64 x) := by rw [List.getElem?_map, hx]; rfl
      have y1 : wr.cell? ⟨q1, o1 + j, none⟩ = some (Value.int .i64 x) := ((unhide HB).cell (p := ⟨q1, o1 + j, none⟩) k1).trans (k2 j _ hv)
      have y2 : wr.cell? ⟨q2, o2 + j, none⟩ = some (Value.int .i64 x) := ((unhide HB).cell (p := ⟨q2, o2 + j, none⟩) k3).trans (k4 j _ hv)
      have g1 : (j : Int) < (n : Int) := by omega
      have g2 : decide ((j : Int) < (n : Int)) = true := by simp; omega
      have HJ := hide hjn
      clear h2 h4 hn hne k1 k2 k3 k4 hx hv hj hjn HR
      go_wp2_with fail
      go_quiet (fail)
      go_wp2
      exact ⟨⟨j + 1, by push_cast; rfl, by have := unhide HJ; omega, (unhide HB).trans (below_dw _ _ _)⟩, by simp only [intOf]; have := unhide HJ; omega⟩
end Go.Proofs.YtljhpbjngbbjbaaDoor

/- The document's grammar as plain Lean: what its parser comes to, state by state. -/
namespace Go.Proofs.YtljhpbjngbbjbaaDoor
/-- A state of the document's parser: the place among the tokens, the first error (0: none) and its place. -/
structure PS where
  i : Nat
  e : Int
  a : Int
def zTk : (Int × ByteArray × Int) := (0, ⟨#[]⟩, 0)
def PS.fail (st : PS) (a e : Int) : PS := if st.e = 0 then ⟨st.i, e, a⟩ else st
section
variable (ts : List (Int × ByteArray × Int))
def tD (st : PS) : (Int × ByteArray × Int) := if st.e = 0 then nx ts st.i else zTk
def stepD (st : PS) : PS := if st.e = 0 ∧ st.i + 1 < ts.length then ⟨st.i + 1, st.e, st.a⟩ else st
def isD (s : ByteArray) (st : PS) : Bool := decide (st.e = 0) && (decide ((nx ts st.i).1 = 2) || decide ((nx ts st.i).1 = 4)) && decide ((nx ts st.i).2.1 = s)
def eatD (s : ByteArray) (st : PS) : PS := if isD ts s st then stepD ts st else st
def mustD (s : ByteArray) (st : PS) : PS := if isD ts s st then stepD ts st else st.fail (tD ts st).2.2 150
def nameD (st : PS) : (Int × ByteArray × Int) × PS := if (tD ts st).1 = 1 then (tD ts st, stepD ts st) else (zTk, st.fail (tD ts st).2.2 150)
variable (g : Ru → PS → Ex × PS)
def argsD (most : Nat) : Nat → List Ex → PS → List Ex × PS
  | 0, l, st => (l, st)
  | n + 1, l, st => if isD ts ⟨#[44]⟩ st then (if l.length = most then (l, st.fail (tD ts st).2.2 152) else argsD most n (l ++ [(g .rE (stepD ts st)).1]) (g .rE (stepD ts st)).2) else (l, mustD ts ⟨#[41]⟩ st)
def callD (n : (Int × ByteArray × Int)) (st : PS) : Ex × PS :=
  if isD ts ⟨#[41]⟩ st then (namedR 21 n.2.1 [] n.2.2, stepD ts st)
  else (namedR 21 n.2.1 (argsD ts g 8 8 [(g .rE st).1] (g .rE st).2).1 n.2.2, (argsD ts g 8 8 [(g .rE st).1] (g .rE st).2).2)
def primD (st : PS) : Ex × PS :=
  if st.e ≠ 0 then (zEx, st)
  else if (tD ts st).1 = 3 then (.mk 1 ⟨#[]⟩ (tD ts st).2.1 false [] (tD ts st).2.2, stepD ts st)
  else if isD ts ⟨#[116, 114, 117, 101]⟩ st then (.mk 2 ⟨#[]⟩ ⟨#[]⟩ true [] (tD ts st).2.2, stepD ts st)
  else if isD ts ⟨#[102, 97, 108, 115, 101]⟩ st then (madeR 2 [] (tD ts st).2.2, stepD ts st)
  else if isD ts ⟨#[40]⟩ st then
    (if isD ts ⟨#[41]⟩ (stepD ts st) then (madeR 3 [] (tD ts st).2.2, stepD ts (stepD ts st))
     else ((g .rE (stepD ts st)).1, mustD ts ⟨#[41]⟩ (g .rE (stepD ts st)).2))
  else if isD ts ⟨#[40]⟩ (nameD ts st).2 then callD ts g (nameD ts st).1 (stepD ts (nameD ts st).2)
  else (namedR 4 (nameD ts st).1.2.1 [] (nameD ts st).1.2.2, (nameD ts st).2)
def unaryD (st : PS) : Ex × PS :=
  if isD ts ⟨#[45]⟩ st then (madeR 7 [(g .rU (stepD ts st)).1] (tD ts st).2.2, (g .rU (stepD ts st)).2)
  else if isD ts ⟨#[110, 111, 116]⟩ st then (madeR 8 [(g .rU (stepD ts st)).1] (tD ts st).2.2, (g .rU (stepD ts st)).2)
  else if isD ts ⟨#[33]⟩ st then (namedR 5 (nameD ts (stepD ts st)).1.2.1 [] (tD ts st).2.2, (nameD ts (stepD ts st)).2)
  else if isD ts ⟨#[111, 108, 100]⟩ st then (namedR 6 (nameD ts (stepD ts st)).1.2.1 [] (tD ts st).2.2, (nameD ts (stepD ts st)).2)
  else primD ts g st
/-- The first of the signs that stands there, with its operator. -/
def signD : List (ByteArray × Int) → PS → Option Int
  | [], _ => none
  | (s, o) :: l, st => if isD ts s st then some o else signD l st
def chD (O : PS → Ex × PS) (signs : List (ByteArray × Int)) (once : Bool) : Nat → Ex → PS → Ex × PS
  | 0, a, st => (a, st)
  | n + 1, a, st => match signD ts signs st with
    | none => (a, st)
    | some o => if once then (madeR o [a, (O (stepD ts st)).1] (tD ts st).2.2, (O (stepD ts st)).2) else chD O signs once n (madeR o [a, (O (stepD ts st)).1] (tD ts st).2.2) (O (stepD ts st)).2
def levD (O : PS → Ex × PS) (signs : List (ByteArray × Int)) (once : Bool) (st : PS) : Ex × PS := chD ts O signs once ts.length (O st).1 (O st).2
def sgD : Nat → List (ByteArray × Int)
  | 0 => [(⟨#[124, 124]⟩, 19)]
  | 1 => [(⟨#[38, 38]⟩, 18)]
  | 2 => [(⟨#[61]⟩, 12), (⟨#[60, 62]⟩, 13), (⟨#[60]⟩, 14), (⟨#[60, 61]⟩, 15), (⟨#[62]⟩, 16), (⟨#[62, 61]⟩, 17)]
  | 3 => [(⟨#[43]⟩, 10), (⟨#[45]⟩, 11)]
  | _ => [(⟨#[42]⟩, 9)]
/-- So many levels below unary: 0 is unary. -/
def leftD : Nat → PS → Ex × PS
  | 0, st => unaryD ts g st
  | k + 1, st => levD ts (leftD k) (sgD (4 - k)) (decide (k = 2)) st
def impD (st : PS) : Ex × PS :=
  if isD ts ⟨#[61, 61, 62]⟩ (leftD ts g 5 st).2 then (madeR 20 [(leftD ts g 5 st).1, (g .rI (stepD ts (leftD ts g 5 st).2)).1] (tD ts (leftD ts g 5 st).2).2.2, (g .rI (stepD ts (leftD ts g 5 st).2)).2)
  else leftD ts g 5 st
def partD (st : PS) : Ex × PS :=
  if st.e = 0 ∧ (tD ts st).1 = 1 ∧ (nx ts (st.i + 1)).1 = 4 ∧ (nx ts (st.i + 1)).2.1 = ⟨#[58, 61]⟩ then
    (namedR 25 (tD ts st).2.1 [(impD ts g (stepD ts (stepD ts st))).1] (tD ts st).2.2, (impD ts g (stepD ts (stepD ts st))).2)
  else if isD ts ⟨#[114, 97, 105, 115, 101]⟩ st then (madeR 26 [(impD ts g (stepD ts st)).1] (tD ts st).2.2, (impD ts g (stepD ts st)).2)
  else if isD ts ⟨#[97, 115, 115, 101, 114, 116]⟩ st then (madeR 28 [(impD ts g (stepD ts st)).1] (tD ts st).2.2, (impD ts g (stepD ts st)).2)
  else impD ts g st
def ifD (at' : Int) (st : PS) : Ex × PS :=
  let a := g .rE st
  let b := g .rE (mustD ts ⟨#[116, 104, 101, 110]⟩ a.2)
  let c := g .rE (mustD ts ⟨#[101, 108, 115, 101]⟩ b.2)
  (madeR 22 [a.1, b.1, c.1] at', c.2)
def letD (at' : Int) (st : PS) : Ex × PS :=
  let n := nameD ts st
  let a := g .rE (mustD ts ⟨#[61]⟩ n.2)
  let b := g .rE (mustD ts ⟨#[105, 110]⟩ a.2)
  (namedR 23 n.1.2.1 [a.1, b.1] at', b.2)
def tryD (at' : Int) (st : PS) : Ex × PS :=
  let a := g .rE st
  let n := nameD ts (mustD ts ⟨#[119, 105, 116, 104]⟩ a.2)
  let b := g .rE (mustD ts ⟨#[45, 62]⟩ n.2)
  (namedR 27 n.1.2.1 [a.1, b.1] at', b.2)
def innerD (st : PS) : Ex × PS :=
  if isD ts ⟨#[105, 102]⟩ st then ifD ts g (tD ts st).2.2 (stepD ts st)
  else if isD ts ⟨#[108, 101, 116]⟩ st then letD ts g (tD ts st).2.2 (stepD ts st)
  else if isD ts ⟨#[116, 114, 121]⟩ st then tryD ts g (tD ts st).2.2 (stepD ts st)
  else
    let a := partD ts g st
    if isD ts ⟨#[59]⟩ a.2 then (madeR 24 [a.1, (g .rE (stepD ts a.2)).1] (tD ts a.2).2.2, (g .rE (stepD ts a.2)).2) else a
def ruleD (u : Nat) (st : PS) : Ex × PS := match u with
  | 0 => innerD ts g st
  | 1 => impD ts g st
  | _ => unaryD ts g st
end
/-- A rule that is one deeper, where so many more may be. -/
def gD (ts : List (Int × ByteArray × Int)) : Nat → Ru → PS → Ex × PS
  | 0, _, st => (zEx, st.fail (tD ts st).2.2 151)
  | f + 1, u, st => if st.e = 0 then ruleD ts (gD ts f) u st else (zEx, st)
section
variable (ts : List (Int × ByteArray × Int))
/-- An expression of a declaration. -/
def exD (st : PS) : Ex × PS := gD ts 200 .rE st
def typD (st : PS) : Ty × PS :=
  let i := (tD ts st).2.2
  if isD ts ⟨#[105, 110, 116]⟩ st then (.mk 1 ⟨#[]⟩ [] i, stepD ts st)
  else if isD ts ⟨#[98, 111, 111, 108]⟩ st then (.mk 2 ⟨#[]⟩ [] i, stepD ts st)
  else if isD ts ⟨#[117, 110, 105, 116]⟩ st then (.mk 3 ⟨#[]⟩ [] i, stepD ts st)
  else
    let n := nameD ts (mustD ts ⟨#[123]⟩ st)
    let x := exD ts (mustD ts ⟨#[124]⟩ (mustD ts ⟨#[105, 110, 116]⟩ (mustD ts ⟨#[58]⟩ n.2)))
    (.mk 1 n.1.2.1 [x.1] i, mustD ts ⟨#[125]⟩ x.2)
def paramD (st : PS) : Pm × PS :=
  let n := nameD ts (stepD ts st)
  let t := typD ts (mustD ts ⟨#[58]⟩ n.2)
  (.mk n.1.2.1 t.1 n.1.2.2, mustD ts ⟨#[41]⟩ t.2)
/-- Parameters, and whether they are too many. -/
def paramsD : Nat → List Pm → PS → List Pm × PS × Bool
  | 0, l, st => (l, st, false)
  | n + 1, l, st => if isD ts ⟨#[40]⟩ st then (if l.length = 8 then (l, st.fail (tD ts st).2.2 152, true) else paramsD n (l ++ [(paramD ts st).1]) (paramD ts st).2) else (l, st, false)
def effsD : List (ByteArray × Int) := [(⟨#[80, 117, 114, 101]⟩, 1), (⟨#[83, 116, 97, 116, 101]⟩, 2), (⟨#[69, 120, 110]⟩, 3), (⟨#[65, 108, 108]⟩, 4), (⟨#[68, 105, 118]⟩, 5)]
def effD' (st : PS) : Int × PS := match signD ts effsD st with
  | some o => (o, stepD ts st)
  | none => (0, st.fail (tD ts st).2.2 150)
def reqD (st : PS) : List Ex × PS := if isD ts ⟨#[114, 101, 113, 117, 105, 114, 101, 115]⟩ st then ([(exD ts (stepD ts st)).1], (exD ts (stepD ts st)).2) else ([], st)
def ensD (st : PS) : (ByteArray × List Ex) × PS :=
  if isD ts ⟨#[101, 110, 115, 117, 114, 101, 115]⟩ st then
    let n := nameD ts (stepD ts st)
    let x := exD ts (mustD ts ⟨#[46]⟩ n.2)
    ((n.1.2.1, [x.1]), x.2)
  else ((⟨#[]⟩, []), st)
def meaL : Nat → List Ex → PS → List Ex × PS
  | 0, l, st => (l, st)
  | n + 1, l, st => if isD ts ⟨#[44]⟩ st then meaL n (l ++ [(exD ts (stepD ts st)).1]) (exD ts (stepD ts st)).2 else (l, st)
def meaD (st : PS) : List Ex × PS := if isD ts ⟨#[100, 101, 99, 114, 101, 97, 115, 101, 115]⟩ st then meaL ts ts.length [(exD ts (stepD ts st)).1] (exD ts (stepD ts st)).2 else ([], st)
def cellD (st : PS) : De × PS :=
  let n := nameD ts st
  let s1 := mustD ts ⟨#[58, 61]⟩ n.2
  let s2 := eatD ts ⟨#[45]⟩ s1
  let t := tD ts s2
  let s3 := stepD ts (if t.1 = 3 then s2 else s2.fail t.2.2 150)
  (.mk true n.1.2.1 (cellN (isD ts ⟨#[45]⟩ s1) t.2.1) false [] 0 zTy [] ⟨#[]⟩ [] [] zEx n.1.2.2, mustD ts ⟨#[59, 59]⟩ s3)
def defD (st : PS) : De × PS :=
  let again := isD ts ⟨#[114, 101, 99]⟩ st
  let n := nameD ts (eatD ts ⟨#[114, 101, 99]⟩ st)
  let ps := paramsD ts ts.length [] n.2
  if ps.2.2 then (.mk false n.1.2.1 ⟨#[]⟩ again ps.1 0 zTy [] ⟨#[]⟩ [] [] zEx n.1.2.2, ps.2.1)
  else
    let e := effD' ts (mustD ts ⟨#[58]⟩ ps.2.1)
    let t := typD ts e.2
    let a := reqD ts t.2
    let b := ensD ts a.2
    let c := meaD ts b.2
    let x := exD ts (mustD ts ⟨#[105, 115]⟩ c.2)
    (.mk false n.1.2.1 ⟨#[]⟩ again ps.1 e.1 t.1 a.1 b.1.1 b.1.2 c.1 x.1 n.1.2.2, mustD ts ⟨#[59, 59]⟩ x.2)
def declD (st : PS) : De × PS := if isD ts ⟨#[114, 101, 102]⟩ st then cellD ts (stepD ts st) else defD ts (mustD ts ⟨#[108, 101, 116]⟩ st)
def progLD : Nat → List De → PS → List De × PS
  | 0, l, st => (l, st)
  | n + 1, l, st =>
    if st.e = 0 ∧ (tD ts st).1 ≠ 0 then
      (if (isD ts ⟨#[114, 101, 102]⟩ st || isD ts ⟨#[108, 101, 116]⟩ st) ∧ l.length = 100 then (l, st.fail (tD ts st).2.2 152) else progLD n (l ++ [(declD ts st).1]) (declD ts st).2)
    else (l, st)
def progD : Except (Int × Int) (List De) :=
  let x := progLD ts (ts.length + 1) [] ⟨0, 0, 0⟩
  if x.2.e = 0 then .ok x.1 else .error (x.2.a, x.2.e)
end
end Go.Proofs.YtljhpbjngbbjbaaDoor

/- The document's parser: its state in memory, its small functions. -/
namespace Go.Proofs.YtljhpbjngbbjbaaDoor
open Go Go.RowKit
/-- The document's parser: its tokens, its state, its depth. -/
structure PD (w : World) (r : Nat) (ts : List (Int × ByteArray × Int)) (st : PS) (d : Nat) : Prop where
  cells : ∃ g c, w.heap[r]? = some (.cells #[.slice (some ⟨g, 0, none⟩) ts.length c, .int .i64 st.i, .int .i64 st.e, .int .i64 st.a, .int .i64 d] 85) ∧ g < r ∧ ts.length ≤ c ∧ ∀ j x, ts[j]? = some x → w.rangeAt g (j * 3) [.int .i64 x.1, .string x.2.1, .int .i64 x.2.2]
  lt : st.i < ts.length
theorem PD.keep {w w' : World} {r d : Nat} {st : PS} {ts : List (Int × ByteArray × Int)} (h : PD w r ts st d) (hb : Below w.heap.size w w') : PD w' r ts st d := by
  obtain ⟨⟨g, c, h1, h2, h3, h4⟩, h5⟩ := h
  have hr := (Array.getElem?_eq_some_iff.1 h1).1
  exact ⟨⟨g, c, (hb.block r hr).trans h1, h2, h3, fun j x hx => range_same (h4 j x hx) (hb.block g (by omega))⟩, h5⟩
theorem PD.rlt {w : World} {r d : Nat} {st : PS} {ts : List (Int × ByteArray × Int)} (h : PD w r ts st d) : r < w.heap.size := by
  obtain ⟨⟨g, c, h1, -⟩, -⟩ := h
  exact (blk h1).1
theorem PD.set {w w' : World} {r d e : Nat} {st s2 : PS} {ts : List (Int × ByteArray × Int)} (h : PD w r ts st d) (hb : But r w w') (hq : s2.i < ts.length) (hc : ∀ g c, w.heap[r]? = some (.cells #[.slice (some ⟨g, 0, none⟩) ts.length c, .int .i64 st.i, .int .i64 st.e, .int .i64 st.a, .int .i64 d] 85) → w'.heap[r]? = some (.cells #[.slice (some ⟨g, 0, none⟩) ts.length c, .int .i64 s2.i, .int .i64 s2.e, .int .i64 s2.a, .int .i64 e] 85)) : PD w' r ts s2 e := by
  obtain ⟨⟨g, c, h1, h2, h3, h4⟩, h5⟩ := h
  have hr := (Array.getElem?_eq_some_iff.1 h1).1
  exact ⟨⟨g, c, hc g c h1, h2, h3, fun j x hx => range_same (h4 j x hx) (hb.block g (by omega) (by omega))⟩, hq⟩
theorem PD.facts {w w' : World} {r d : Nat} {st : PS} {ts : List (Int × ByteArray × Int)} (h : PD w r ts st d) (hb : Below w.heap.size w w') : ∃ g c, w'.cell? ⟨r, 0, none⟩ = some (.slice (some ⟨g, 0, none⟩) ts.length c) ∧ w'.cell? ⟨r, 1, none⟩ = some (.int .i64 st.i) ∧ w'.cell? ⟨r, 2, none⟩ = some (.int .i64 st.e) ∧ w'.cell? ⟨r, 3, none⟩ = some (.int .i64 st.a) ∧ w'.cell? ⟨r, 4, none⟩ = some (.int .i64 d) ∧ ts.length ≤ c ∧ r < w'.heap.size ∧ (∀ o, w'.frozen? ⟨r, o, none⟩ = false) ∧ ∀ j x, ts[j]? = some x → w'.cell? ⟨g, j * 3, none⟩ = some (.int .i64 x.1) ∧ w'.cell? ⟨g, j * 3 + 1, none⟩ = some (.string x.2.1) ∧ w'.cell? ⟨g, j * 3 + 2, none⟩ = some (.int .i64 x.2.2) := by
  obtain ⟨⟨g, c, h1, h2, h3, h4⟩, h5⟩ := h.keep hb
  exact ⟨g, c, (blk h1).2.1 0 _ rfl, (blk h1).2.1 1 _ rfl, (blk h1).2.1 2 _ rfl, (blk h1).2.1 3 _ rfl, (blk h1).2.1 4 _ rfl, h3, (blk h1).1, (blk h1).2.2, fun j x hx => ⟨h4 j x hx 0 _ rfl, h4 j x hx 1 _ rfl, h4 j x hx 2 _ rfl⟩⟩
/-- What a function of the document's parser answers. -/
def DP {α : Type} (Φ : World → Value → α → Prop) (x : α × PS) (r : Nat) (ts : List (Int × ByteArray × Int)) (d : Nat) (w : World) (e : Ending) (w' : World) : Prop := But r w w' ∧ PD w' r ts x.2 d ∧ ∃ v, e = .returned v ∧ Φ w' v x.1
set_option maxRecDepth 100000 in
set_option maxHeartbeats 4000000 in
theorem dt_any {w : World} {r d : Nat} {st : PS} {ts : List (Int × ByteArray × Int)} (hR : PD w r ts st d) (hT : TsOk ts) : Calls Tryd.prog 33 #[.pointer (some ⟨r, 0, none⟩)] w (VP (tkV (tD ts st)) w) := by
  obtain ⟨A, eA, hbA, hsA, hhA⟩ := box_new w #[.int .i64 0, .string ⟨#[]⟩, .int .i64 0] 87
  obtain ⟨g, c, x0, x1, x2, x3, x4, hc, hr, hf, ht⟩ := hR.facts hbA
  obtain ⟨t0, t1, t2⟩ := ht st.i _ (nx_of hR.lt)
  have hp := hR.lt
  have hl := hT.len
  obtain ⟨i, er, ea⟩ := st
  have g1 : (i : Int) < (ts.length : Int) := by have : i < ts.length := hp; omega
  have g2 : (ts.length : Int) ≤ 100000 := by omega
  have g3 : (0 : Int) ≤ (i : Int) := by omega
  have y0 : A.cell? ⟨w.heap.size, 0, none⟩ = some (.int .i64 0) := (blk hhA).2.1 0 _ rfl
  have y1 : A.cell? ⟨w.heap.size, 1, none⟩ = some (.string ⟨#[]⟩) := (blk hhA).2.1 1 _ rfl
  have y2 : A.cell? ⟨w.heap.size, 2, none⟩ = some (.int .i64 0) := (blk hhA).2.1 2 _ rfl
  have z0 := (blk hhA).2.2 0
  have z1 := (blk hhA).2.2 1
  have z2 := (blk hhA).2.2 2
  have HB := hide (And.intro hbA hhA)
  have HE := hide eA
  rw [← eA] at x0 x1 x2 x3 x4 t0 t1 t2 y0 y1 y2 z0 z1 z2 hr
  unfold tkV VP
  obtain ⟨Y, hY⟩ : ∃ Y, tD ts ⟨i, er, ea⟩ = Y := ⟨_, rfl⟩
  obtain ⟨X, hX⟩ : ∃ X, nx ts i = X := ⟨_, rfl⟩
  obtain ⟨L, hL⟩ : ∃ L, ts.length = L := ⟨_, rfl⟩
  unfold tD at hY
  simp only at t0 t1 t2 x1 x2 hY
  rw [hX] at t0 t1 t2 hY
  rw [hL] at x0 g1 g2
  rw [show tD ts ⟨i, er, ea⟩ = Y by unfold tD; simp only; rw [hX]; exact hY]
  have HY := hide hY
  clear hR hT eA hbA hsA hhA hX hL ht hc hp hl hf hY
  by_cases he : er = 0
  · subst he
    go_enter Tryd.func33, Tryd.ntmps33
    go_wp2_with fail
    go_region
    go_wp2
    obtain ⟨B, eB, hbB, hsB, hhB⟩ := box_new w #[.int .i64 X.1, .string X.2.1, .int .i64 X.2.2] 87
    rw [eB]
    have hY := unhide HY
    obtain rfl : X = Y := by rw [← hY]; rfl
    refine bodyPost_ret (res_row (cs := [.int .i64 X.1, .string X.2.1, .int .i64 X.2.2]) rfl rfl (range_block (by rw [heap_drew]; exact hhB)) rfl rfl rfl) rfl ?_
    exact ⟨rfl, hbB.drew⟩
  · have e1 : (er == 0) = false := by simpa using he
    have e2 : decide (er = 0) = false := by simpa using he
    go_enter Tryd.func33, Tryd.ntmps33
    go_wp2
    rw [unhide HE]
    obtain ⟨hbA, hhA⟩ := unhide HB
    have hY := unhide HY
    rw [if_neg he] at hY
    subst hY
    refine bodyPost_ret (res_row (cs := [.int .i64 0, .string ⟨#[]⟩, .int .i64 0]) rfl rfl (range_block hhA) rfl rfl rfl) rfl ?_
    exact ⟨rfl, hbA⟩
end Go.Proofs.YtljhpbjngbbjbaaDoor

/- The document's parser: is, fail, step, eat, must. -/
namespace Go.Proofs.YtljhpbjngbbjbaaDoor
open Go Go.RowKit
theorem tD_ok {ts : List (Int × ByteArray × Int)} {st : PS} (h : st.e = 0) : tD ts st = nx ts st.i := if_pos h
theorem tD_bad {ts : List (Int × ByteArray × Int)} {st : PS} (h : st.e ≠ 0) : tD ts st = zTk := if_neg h
set_option maxRecDepth 100000 in
set_option maxHeartbeats 4000000 in
theorem is_any {w : World} {r d : Nat} {st : PS} {ts : List (Int × ByteArray × Int)} (hR : PD w r ts st d) (hT : TsOk ts) (s : ByteArray) : Calls Tryd.prog 34 #[.pointer (some ⟨r, 0, none⟩), .string s] w (VP (.bool (isD ts s st)) w) := by
  have HN := hide (dt_any hR hT)
  have HR := hide hR
  unfold tkV at HN
  obtain ⟨b, hb⟩ : ∃ b, isD ts s st = b := ⟨_, rfl⟩
  rw [hb]
  unfold isD at hb
  by_cases he : st.e = 0
  · rw [tD_ok he] at HN
    obtain ⟨⟨k, T, i⟩, hX⟩ : ∃ X, nx ts st.i = X := ⟨_, rfl⟩
    rw [hX] at HN hb
    rw [he] at hb
    have HEr := hide he
    clear hR hT hX he
    unfold VP
    simp only [decide_true, Bool.true_and] at hb
    by_cases k2 : k = 2
    · subst k2
      simp only [decide_true, Bool.true_or, Bool.true_and] at hb
      replace hb := hide hb
      go_enter Tryd.func34, Tryd.ntmps34
      go_wp2_with fail
      refine (unhide HN).mono ?_
      rintro e w2 ⟨rfl, hb2⟩
      obtain ⟨B, eB, hbB, hsB, hhB⟩ := box_new w2 #[.int .i64 2, .string T, .int .i64 i] 87
      have h02 : Below w.heap.size w B := hb2.trans (hbB.mono hb2.size)
      obtain ⟨g, c, x0, x1, x2, x3, x4, hc, hr, hf, ht⟩ := (unhide HR).facts h02
      rw [unhide HEr] at x2
      have y0 : B.cell? ⟨w2.heap.size, 0, none⟩ = some (.int .i64 2) := (blk hhB).2.1 0 _ rfl
      have y1 : B.cell? ⟨w2.heap.size, 1, none⟩ = some (.string T) := (blk hhB).2.1 1 _ rfl
      have HB := hide h02
      have HEB := hide eB
      rw [← eB] at x2 y0 y1 hr
      clear hb2 HN eB hbB hsB hhB h02 x0 x1 x3 x4 hc hf ht
      go_wp2
      go_ret
      rw [unhide HEB]
      refine ⟨?_, unhide HB⟩
      rw [← unhide hb, str_eq]; rfl
    · by_cases k4 : k = 4
      · subst k4
        have hb' : decide (T = s) = b := by rw [← hb]; simp
        clear hb
        replace hb := hide hb'
        clear hb'
        go_enter Tryd.func34, Tryd.ntmps34
        go_wp2_with fail
        refine (unhide HN).mono ?_
        rintro e w2 ⟨rfl, hb2⟩
        obtain ⟨B, eB, hbB, hsB, hhB⟩ := box_new w2 #[.int .i64 4, .string T, .int .i64 i] 87
        have h02 : Below w.heap.size w B := hb2.trans (hbB.mono hb2.size)
        obtain ⟨g, c, x0, x1, x2, x3, x4, hc, hr, hf, ht⟩ := (unhide HR).facts h02
        rw [unhide HEr] at x2
        have y0 : B.cell? ⟨w2.heap.size, 0, none⟩ = some (.int .i64 4) := (blk hhB).2.1 0 _ rfl
        have y1 : B.cell? ⟨w2.heap.size, 1, none⟩ = some (.string T) := (blk hhB).2.1 1 _ rfl
        have HB := hide h02
        have HEB := hide eB
        rw [← eB] at x2 y0 y1 hr
        clear hb2 HN eB hbB hsB hhB h02 x0 x1 x3 x4 hc hf ht
        go_wp2
        go_ret
        rw [unhide HEB]
        refine ⟨?_, unhide HB⟩
        rw [← unhide hb, str_eq]; rfl
      · have hb' : b = false := by rw [← hb]; simp [k2, k4]
        subst hb'
        clear hb
        have e2 : (k == 2) = false := by simpa using k2
        have e4 : (k == 4) = false := by simpa using k4
        have d2 : decide (k = 2) = false := by simpa using k2
        have d4 : decide (k = 4) = false := by simpa using k4
        clear k2 k4
        go_enter Tryd.func34, Tryd.ntmps34
        go_wp2_with fail
        refine (unhide HN).mono ?_
        rintro e w2 ⟨rfl, hb2⟩
        obtain ⟨B, eB, hbB, hsB, hhB⟩ := box_new w2 #[.int .i64 k, .string T, .int .i64 i] 87
        have h02 : Below w.heap.size w B := hb2.trans (hbB.mono hb2.size)
        obtain ⟨g, c, x0, x1, x2, x3, x4, hc, hr, hf, ht⟩ := (unhide HR).facts h02
        rw [unhide HEr] at x2
        have y0 : B.cell? ⟨w2.heap.size, 0, none⟩ = some (.int .i64 k) := (blk hhB).2.1 0 _ rfl
        have y1 : B.cell? ⟨w2.heap.size, 1, none⟩ = some (.string T) := (blk hhB).2.1 1 _ rfl
        have HB := hide h02
        have HEB := hide eB
        rw [← eB] at x2 y0 y1 hr
        clear hb2 HN eB hbB hsB hhB h02 x0 x1 x3 x4 hc hf ht
        go_wp2
        go_ret
        rw [unhide HEB]
        exact ⟨rfl, unhide HB⟩
  · rw [tD_bad he] at HN
    have hb' : b = false := by rw [← hb]; simp [he]
    subst hb'
    obtain ⟨er, her⟩ : ∃ er, st.e = er := ⟨_, rfl⟩
    have HEr := hide her
    rw [her] at he
    clear hR hT hb her
    unfold VP
    unfold zTk at HN
    have e2 : (er == 0) = false := by simpa using he
    have d2 : decide (er = 0) = false := by simpa using he
    clear he
    go_enter Tryd.func34, Tryd.ntmps34
    go_wp2_with fail
    refine (unhide HN).mono ?_
    rintro e w2 ⟨rfl, hb2⟩
    obtain ⟨B, eB, hbB, hsB, hhB⟩ := box_new w2 #[.int .i64 0, .string ⟨#[]⟩, .int .i64 0] 87
    have h02 : Below w.heap.size w B := hb2.trans (hbB.mono hb2.size)
    obtain ⟨g, c, x0, x1, x2, x3, x4, hc, hr, hf, ht⟩ := (unhide HR).facts h02
    rw [unhide HEr] at x2
    have y0 : B.cell? ⟨w2.heap.size, 0, none⟩ = some (.int .i64 0) := (blk hhB).2.1 0 _ rfl
    have y1 : B.cell? ⟨w2.heap.size, 1, none⟩ = some (.string ⟨#[]⟩) := (blk hhB).2.1 1 _ rfl
    have HB := hide h02
    have HEB := hide eB
    rw [← eB] at x2 y0 y1 hr
    clear hb2 HN eB hbB hsB hhB h02 x0 x1 x3 x4 hc hf ht
    go_wp2
    go_ret
    rw [unhide HEB]
    exact ⟨rfl, unhide HB⟩
def StP (r : Nat) (ts : List (Int × ByteArray × Int)) (st : PS) (d : Nat) (v : Value) (w : World) (e : Ending) (w' : World) : Prop := e = .returned v ∧ But r w w' ∧ PD w' r ts st d
set_option maxRecDepth 100000 in
set_option maxHeartbeats 4000000 in
theorem fail_any {w : World} {r d : Nat} {st : PS} {ts : List (Int × ByteArray × Int)} (hR : PD w r ts st d) (a n : Int) : Calls Tryd.prog 35 #[.pointer (some ⟨r, 0, none⟩), .int .i64 a, .int .i64 n] w (StP r ts (st.fail a n) d (.tuple #[]) w) := by
  obtain ⟨g, c, x0, x1, x2, x3, x4, hc, hr, hf, ht⟩ := hR.facts (Below.refl _ _)
  have HR := hide hR
  have f2 := hf 2
  have f3 := hf 3
  obtain ⟨s2, hs⟩ : ∃ s2, st.fail a n = s2 := ⟨_, rfl⟩
  rw [hs]
  unfold PS.fail at hs
  obtain ⟨i, er, ea⟩ := st
  unfold StP
  simp only at x2 hs
  clear hR hc hf ht x0 x1 x4
  by_cases he : er = 0
  · subst he
    rw [if_pos rfl] at hs
    subst hs
    go_enter Tryd.func35, Tryd.ntmps35
    go_wp2
    refine bodyPost_end (results_none rfl _ _ _) rfl ?_
    have hb : But r w ((w.setCell ⟨r, 2, none⟩ (.int .i64 n)).setCell ⟨r, 3, none⟩ (.int .i64 a)) := ((But.refl r w).set _ _).set _ _
    exact ⟨rfl, hb, (unhide HR).set hb (unhide HR).lt fun g c h => set_block (set_block h _) _⟩
  · rw [if_neg he] at hs
    subst hs
    have e2 : (er == 0) = false := by simpa using he
    have d2 : decide (er = 0) = false := by simpa using he
    go_enter Tryd.func35, Tryd.ntmps35
    go_wp2
    refine bodyPost_end (results_none rfl _ _ _) rfl ?_
    exact ⟨rfl, But.refl _ _, unhide HR⟩
set_option maxRecDepth 100000 in
set_option maxHeartbeats 4000000 in
theorem step_any {w : World} {r d : Nat} {st : PS} {ts : List (Int × ByteArray × Int)} (hR : PD w r ts st d) (hT : TsOk ts) : Calls Tryd.prog 52 #[.pointer (some ⟨r, 0, none⟩)] w (StP r ts (stepD ts st) d (.tuple #[]) w) := by
  obtain ⟨g, c, x0, x1, x2, x3, x4, hc, hr, hf, ht⟩ := hR.facts (Below.refl _ _)
  have HR := hide hR
  have f1 := hf 1
  have hl := hT.len
  have hlt := hR.lt
  obtain ⟨s2, hs⟩ : ∃ s2, stepD ts st = s2 := ⟨_, rfl⟩
  rw [hs]
  unfold stepD at hs
  obtain ⟨i, er, ea⟩ := st
  unfold StP
  simp only at x1 x2 hs hlt
  obtain ⟨L, hL⟩ : ∃ L, ts.length = L := ⟨_, rfl⟩
  have HL := hide hL
  rw [hL] at x0 hs hl hlt
  have g1 : (0 : Int) ≤ (i : Int) := by omega
  have g2 : (i : Int) < (L : Int) := by omega
  have g3 : (L : Int) ≤ 100000 := by omega
  clear hR hc hf ht x3 x4 hL hT
  by_cases he : er = 0
  · subst he
    by_cases hi : i + 1 < L
    · rw [if_pos ⟨rfl, hi⟩] at hs
      subst hs
      have g4 : (i : Int) < (L : Int) - 1 := by omega
      clear hl hlt
      replace hi := hide hi
      go_enter Tryd.func52, Tryd.ntmps52
      go_wp2_with fail
      go_region
      go_wp2
      refine bodyPost_end (results_none rfl _ _ _) rfl ?_
      have hb : But r w (w.drew.setCell ⟨r, 1, none⟩ (.int .i64 ((i : Int) + 1))) := (but_drew (But.refl r w)).set _ _
      exact ⟨rfl, hb, (unhide HR).set hb (by rw [unhide HL]; exact unhide hi) fun g c h => set_block (by rw [heap_drew]; exact h) _⟩
    · rw [if_neg (fun h => hi h.2)] at hs
      subst hs
      have g4 : decide ((i : Int) < (L : Int) - 1) = false := by simp; omega
      have g5 : ¬ (i : Int) < (L : Int) - 1 := by omega
      clear hl hlt hi
      go_enter Tryd.func52, Tryd.ntmps52
      go_wp2_with fail
      go_region
      go_wp2
      refine bodyPost_end (results_none rfl _ _ _) rfl ?_
      have hb : But r w w.drew := but_drew (But.refl r w)
      exact ⟨rfl, hb, (unhide HR).set hb (unhide HR).lt fun g c h => by rw [heap_drew]; exact h⟩
  · rw [if_neg (fun h => he h.1)] at hs
    subst hs
    have e2 : (er == 0) = false := by simpa using he
    have d2 : decide (er = 0) = false := by simpa using he
    clear hl hlt
    go_enter Tryd.func52, Tryd.ntmps52
    go_wp2_with fail
    go_region
    go_wp2
    refine bodyPost_end (results_none rfl _ _ _) rfl ?_
    have hb : But r w w.drew := but_drew (But.refl r w)
    exact ⟨rfl, hb, (unhide HR).set hb (unhide HR).lt fun g c h => by rw [heap_drew]; exact h⟩
end Go.Proofs.YtljhpbjngbbjbaaDoor

/- The document's parser: eat, must, name, down, next. -/
namespace Go.Proofs.YtljhpbjngbbjbaaDoor
open Go Go.RowKit
set_option maxRecDepth 100000 in
set_option maxHeartbeats 4000000 in
theorem eat_any {w : World} {r d : Nat} {st : PS} {ts : List (Int × ByteArray × Int)} (hR : PD w r ts st d) (hT : TsOk ts) (s : ByteArray) : Calls Tryd.prog 49 #[.pointer (some ⟨r, 0, none⟩), .string s] w (StP r ts (eatD ts s st) d (.bool (isD ts s st)) w) := by
  have HI := hide (is_any hR hT s)
  have HR := hide hR
  have HT := hide hT
  obtain ⟨b, hb⟩ : ∃ b, isD ts s st = b := ⟨_, rfl⟩
  obtain ⟨s2, hs⟩ : ∃ s2, eatD ts s st = s2 := ⟨_, rfl⟩
  rw [hs]
  unfold eatD at hs
  rw [hb] at HI hs ⊢
  replace hs := hide hs
  clear hR hT hb
  unfold StP
  go_enter Tryd.func49, Tryd.ntmps49
  go_wp2_with fail
  refine (unhide HI).mono ?_
  rintro e w2 ⟨rfl, hb2⟩
  have HB := hide hb2
  clear hb2 HI
  cases b with
  | false =>
    go_wp2
    go_ret
    have h := unhide hs
    simp only [Bool.false_eq_true, if_false] at h
    subst h
    exact ⟨rfl, But.of (unhide HB), (unhide HR).keep (unhide HB)⟩
  | true =>
    have HS := hide (step_any ((unhide HR).keep (unhide HB)) (unhide HT))
    go_wp2_with fail
    refine (unhide HS).mono ?_
    rintro e w3 ⟨rfl, hb3, hR3⟩
    have h := unhide hs
    simp only [if_true] at h
    subst h
    have H3 := hide (And.intro ((But.of (r := r) (unhide HB)).trans hb3) hR3)
    clear hb3 hR3 HS hs
    go_wp2
    go_ret
    exact ⟨rfl, (unhide H3).1, (unhide H3).2⟩
set_option maxRecDepth 100000 in
set_option maxHeartbeats 4000000 in
theorem dmust_any {w : World} {r d : Nat} {st : PS} {ts : List (Int × ByteArray × Int)} (hR : PD w r ts st d) (hT : TsOk ts) (s : ByteArray) : Calls Tryd.prog 51 #[.pointer (some ⟨r, 0, none⟩), .string s] w (StP r ts (mustD ts s st) d (.int .i64 (tD ts st).2.2) w) := by
  have HN := hide (dt_any hR hT)
  have HR := hide hR
  have HT := hide hT
  obtain ⟨s2, hs⟩ : ∃ s2, mustD ts s st = s2 := ⟨_, rfl⟩
  rw [hs]
  unfold mustD at hs
  unfold tkV at HN
  obtain ⟨⟨k, T, i⟩, hX⟩ : ∃ X, tD ts st = X := ⟨_, rfl⟩
  rw [hX] at HN hs ⊢
  have HX := hide hX
  have h2 := fld2 (.int .i64 k) (.string T) (.int .i64 i)
  obtain ⟨b, hb⟩ : ∃ b, isD ts s st = b := ⟨_, rfl⟩
  rw [hb] at hs
  have HBB := hide hb
  replace hs := hide hs
  clear hR hT hb hX
  unfold StP
  go_enter Tryd.func51, Tryd.ntmps51
  go_wp2_with fail
  refine (unhide HN).mono ?_
  rintro e w2 ⟨rfl, hb2⟩
  have HB := hide hb2
  have HE := hide (eat_any ((unhide HR).keep hb2) (unhide HT) s)
  clear hb2 HN
  go_wp2_with fail
  refine (unhide HE).mono ?_
  rintro e w3 ⟨rfl, hb3, hR3⟩
  rw [unhide HBB]
  have H3 := hide ((But.of (r := r) (unhide HB)).trans hb3)
  unfold eatD at hR3
  rw [unhide HBB] at hR3
  have hs1 := unhide hs
  cases b with
  | true =>
    simp only [if_true] at hR3 hs1
    subst hs1
    have HR3 := hide hR3
    clear hb3 hR3 HE hs
    go_wp2
    go_ret
    exact ⟨rfl, unhide H3, unhide HR3⟩
  | false =>
    simp only [Bool.false_eq_true, if_false] at hR3 hs1
    subst hs1
    have HR3 := hide hR3
    have HN2 := hide (dt_any hR3 (unhide HT))
    unfold tkV at HN2
    rw [unhide HX] at HN2
    clear hb3 hR3 HE hs
    go_wp2_with fail
    refine (unhide HN2).mono ?_
    rintro e w4 ⟨rfl, hb4⟩
    have HF := hide (fail_any ((unhide HR3).keep hb4) i 150)
    have H4 := hide ((unhide H3).trans (But.of (r := r) hb4))
    clear hb4 HN2
    go_wp2_with fail
    refine (unhide HF).mono ?_
    rintro e w5 ⟨rfl, hb5, hR5⟩
    have H5 := hide (And.intro ((unhide H4).trans hb5) hR5)
    clear hb5 hR5 HF
    go_wp2
    go_ret
    exact ⟨rfl, (unhide H5).1, (unhide H5).2⟩
theorem PD.out {w w' : World} {r d q : Nat} {st : PS} {ts : List (Int × ByteArray × Int)} (h : PD w r ts st d) (hq : r < q) (hb : ∀ k, k < q → w'.heap[k]? = w.heap[k]?) : PD w' r ts st d := by
  obtain ⟨⟨g, c, h1, h2, h3, h4⟩, h5⟩ := h
  exact ⟨⟨g, c, (hb r hq).trans h1, h2, h3, fun j x hx => range_same (h4 j x hx) (hb g (by omega))⟩, h5⟩
set_option maxRecDepth 100000 in
set_option maxHeartbeats 4000000 in
theorem name_any {w : World} {r d : Nat} {st : PS} {ts : List (Int × ByteArray × Int)} (hR : PD w r ts st d) (hT : TsOk ts) : Calls Tryd.prog 50 #[.pointer (some ⟨r, 0, none⟩)] w (StP r ts (nameD ts st).2 d (tkV (nameD ts st).1) w) := by
  obtain ⟨A, eA, hbA, hsA, hhA⟩ := box_new w #[.int .i64 0, .string ⟨#[]⟩, .int .i64 0] 87
  have hrw := hR.rlt
  have HR := hide (hR.keep hbA)
  have HN := hide (dt_any (unhide HR) hT)
  have HT := hide hT
  have HA := hide (And.intro hbA (And.intro hhA (And.intro hsA hrw)))
  have HEA := hide eA
  obtain ⟨Y, hY⟩ : ∃ Y, nameD ts st = Y := ⟨_, rfl⟩
  rw [hY]
  unfold nameD at hY
  unfold tkV at HN ⊢
  obtain ⟨⟨k, T, i⟩, hX⟩ : ∃ X, tD ts st = X := ⟨_, rfl⟩
  rw [hX] at HN hY
  simp only at hY
  clear hR hT hX eA hbA hhA hsA hrw
  unfold StP
  by_cases hk : k = 1
  · subst hk
    rw [if_pos rfl] at hY
    subst hY
    go_enter Tryd.func50, Tryd.ntmps50
    go_wp2_with fail
    rw [unhide HEA]
    refine (unhide HN).mono ?_
    rintro e w2 ⟨rfl, hb2⟩
    obtain ⟨B, eB, hbB, hsB, hhB⟩ := box_new w2 #[.int .i64 1, .string T, .int .i64 i] 87
    have hAB := hb2.trans (hbB.mono hb2.size)
    have HS := hide (step_any ((unhide HR).keep hAB) (unhide HT))
    have y0 : B.cell? ⟨w2.heap.size, 0, none⟩ = some (.int .i64 1) := (blk hhB).2.1 0 _ rfl
    have H2 := hide (And.intro hAB (And.intro hhB (And.intro hsB hb2.size)))
    have HEB := hide eB
    rw [← eB] at y0
    clear HN hb2 eB hbB hsB hhB hAB
    go_wp2_with fail
    rw [unhide HEB]
    refine (unhide HS).mono ?_
    rintro e w3 ⟨rfl, hb3, hR3⟩
    obtain ⟨hbA, hhA, hsA, hrw⟩ := unhide HA
    obtain ⟨hAB, hhB, hsB, hs2⟩ := unhide H2
    have hh3 := (hb3.block _ (blk hhB).1 (by omega)).trans hhB
    have hA3 := (hb3.block _ (Nat.lt_of_lt_of_le (blk hhA).1 hAB.size) (by omega)).trans ((hAB.block _ (blk hhA).1).trans hhA)
    have x0 : w3.cell? ⟨w2.heap.size, 0, none⟩ = some (.int .i64 1) := (blk hh3).2.1 0 _ rfl
    have x1 : w3.cell? ⟨w2.heap.size, 1, none⟩ = some (.string T) := (blk hh3).2.1 1 _ rfl
    have x2 : w3.cell? ⟨w2.heap.size, 2, none⟩ = some (.int .i64 i) := (blk hh3).2.1 2 _ rfl
    have y0 : w3.cell? ⟨w.heap.size, 0, none⟩ = some (.int .i64 0) := (blk hA3).2.1 0 _ rfl
    have y1 : w3.cell? ⟨w.heap.size, 1, none⟩ = some (.string ⟨#[]⟩) := (blk hA3).2.1 1 _ rfl
    have y2 : w3.cell? ⟨w.heap.size, 2, none⟩ = some (.int .i64 0) := (blk hA3).2.1 2 _ rfl
    have z0 := (blk hA3).2.2 0
    have z1 := (blk hA3).2.2 1
    have z2 := (blk hA3).2.2 2
    have n1 : w2.heap.size ≠ w.heap.size := by omega
    have H3 := hide (And.intro ((But.of (r := r) hbA).trans ((But.of (r := r) hAB).trans hb3)) (And.intro hR3 (And.intro hA3 hrw)))
    clear hb3 hR3 hbA hhA hsA hrw hAB hhB hsB hs2 hh3 hA3 HS
    go_wp2
    obtain ⟨hbu, hR3, hA3, hrw⟩ := unhide H3
    refine bodyPost_ret (res_row (cs := [.int .i64 1, .string T, .int .i64 i]) rfl rfl (range_block (fill3 hA3)) rfl rfl rfl) rfl ?_
    refine ⟨rfl, but_new (but_new (but_new hbu (Nat.le_refl _) _ _) (Nat.le_refl _) _ _) (Nat.le_refl _) _ _, hR3.out hrw fun k hk => ?_⟩
    rw [heap_set _ _ (by omega), heap_set _ _ (by omega), heap_set _ _ (by omega)]
  · rw [if_neg hk] at hY
    subst hY
    have e1 : (k == 1) = false := by simpa using hk
    have e2 : decide (k = 1) = false := by simpa using hk
    clear hk
    go_enter Tryd.func50, Tryd.ntmps50
    go_wp2_with fail
    rw [unhide HEA]
    refine (unhide HN).mono ?_
    rintro e w2 ⟨rfl, hb2⟩
    obtain ⟨B, eB, hbB, hsB, hhB⟩ := box_new w2 #[.int .i64 k, .string T, .int .i64 i] 87
    have hAB := hb2.trans (hbB.mono hb2.size)
    have HS := hide (fail_any ((unhide HR).keep hAB) i 150)
    have y0 : B.cell? ⟨w2.heap.size, 0, none⟩ = some (.int .i64 k) := (blk hhB).2.1 0 _ rfl
    have y2 : B.cell? ⟨w2.heap.size, 2, none⟩ = some (.int .i64 i) := (blk hhB).2.1 2 _ rfl
    have H2 := hide (And.intro hAB (And.intro hhB (And.intro hsB hb2.size)))
    have HEB := hide eB
    rw [← eB] at y0 y2
    clear HN hb2 eB hbB hsB hhB hAB
    go_wp2_with fail
    rw [unhide HEB]
    refine (unhide HS).mono ?_
    rintro e w3 ⟨rfl, hb3, hR3⟩
    obtain ⟨hbA, hhA, hsA, hrw⟩ := unhide HA
    obtain ⟨hAB, hhB, hsB, hs2⟩ := unhide H2
    have hA3 := (hb3.block _ (Nat.lt_of_lt_of_le (blk hhA).1 hAB.size) (by omega)).trans ((hAB.block _ (blk hhA).1).trans hhA)
    have y0 : w3.cell? ⟨w.heap.size, 0, none⟩ = some (.int .i64 0) := (blk hA3).2.1 0 _ rfl
    have y1 : w3.cell? ⟨w.heap.size, 1, none⟩ = some (.string ⟨#[]⟩) := (blk hA3).2.1 1 _ rfl
    have y2 : w3.cell? ⟨w.heap.size, 2, none⟩ = some (.int .i64 0) := (blk hA3).2.1 2 _ rfl
    have z0 := (blk hA3).2.2 0
    have z1 := (blk hA3).2.2 1
    have z2 := (blk hA3).2.2 2
    have H3 := hide (And.intro ((But.of (r := r) hbA).trans ((But.of (r := r) hAB).trans hb3)) (And.intro hR3 (And.intro hA3 hrw)))
    clear hb3 hR3 hbA hhA hsA hrw hAB hhB hsB hs2 hA3 HS
    go_wp2
    obtain ⟨hbu, hR3, hA3, hrw⟩ := unhide H3
    refine bodyPost_ret (res_row (cs := [.int .i64 0, .string ⟨#[]⟩, .int .i64 0]) rfl rfl (range_block (fill3 hA3)) rfl rfl rfl) rfl ?_
    refine ⟨rfl, but_new (but_new (but_new hbu (Nat.le_refl _) _ _) (Nat.le_refl _) _ _) (Nat.le_refl _) _ _, hR3.out hrw fun k hk => ?_⟩
    rw [heap_set _ _ (by omega), heap_set _ _ (by omega), heap_set _ _ (by omega)]
end Go.Proofs.YtljhpbjngbbjbaaDoor

/- The document's parser: down, next. -/
namespace Go.Proofs.YtljhpbjngbbjbaaDoor
open Go Go.RowKit
set_option maxRecDepth 100000 in
set_option maxHeartbeats 4000000 in
theorem down_yes {w : World} {r d : Nat} {st : PS} {ts : List (Int × ByteArray × Int)} (hR : PD w r ts st d) (hd : d < 200) : Calls Tryd.prog 65 #[.pointer (some ⟨r, 0, none⟩)] w (StP r ts st (d + 1) (.bool (decide (st.e = 0))) w) := by
  obtain ⟨g, c, x0, x1, x2, x3, x4, hc, hr, hf, ht⟩ := hR.facts (Below.refl _ _)
  have HR := hide hR
  have f4 := hf 4
  have g1 : (0 : Int) ≤ (d : Int) := by omega
  have g2 : (d : Int) < 200 := by omega
  have g3 : decide ((d : Int) + 1 > 200) = false := by simp; omega
  have g4 : ¬ (d : Int) + 1 > 200 := by omega
  have g5 : decide (200 < (d : Int) + 1) = false := by simp; omega
  unfold StP
  clear hR hc hf ht x0 x1 x3 hd
  go_enter Tryd.func65, Tryd.ntmps65
  go_wp2
  go_ret
  have hb : But r w (w.setCell ⟨r, 4, none⟩ (.int .i64 ((d : Int) + 1))) := (But.refl r w).set _ _
  refine ⟨?_, hb, (unhide HR).set hb (unhide HR).lt fun g c h => ?_⟩
  · rfl
  · exact set_block h _
set_option maxRecDepth 100000 in
set_option maxHeartbeats 4000000 in
theorem down_no {w : World} {r d : Nat} {st : PS} {ts : List (Int × ByteArray × Int)} (hR : PD w r ts st d) (hT : TsOk ts) (hd : 200 ≤ d) (hd2 : d ≤ 100000) : Calls Tryd.prog 65 #[.pointer (some ⟨r, 0, none⟩)] w (StP r ts (st.fail (tD ts st).2.2 151) (d + 1) (.bool false) w) := by
  obtain ⟨g, c, x0, x1, x2, x3, x4, hc, hr, hf, ht⟩ := hR.facts (Below.refl _ _)
  have f4 := hf 4
  have g1 : (0 : Int) ≤ (d : Int) := by omega
  have g2 : (d : Int) ≤ 100000 := by omega
  have g4 : (200 : Int) < (d : Int) + 1 := by omega
  have hb : But r w (w.setCell ⟨r, 4, none⟩ (.int .i64 ((d : Int) + 1))) := (But.refl r w).set _ _
  have hR2 : PD (w.setCell ⟨r, 4, none⟩ (.int .i64 ((d : Int) + 1))) r ts st (d + 1) := hR.set hb hR.lt fun g c h => set_block h _
  have HN := hide (dt_any hR2 hT)
  unfold tkV at HN
  obtain ⟨⟨k, T, i⟩, hX⟩ : ∃ X, tD ts st = X := ⟨_, rfl⟩
  rw [hX] at HN ⊢
  have h2 := fld2 (.int .i64 k) (.string T) (.int .i64 i)
  have HR := hide (And.intro hR2 hb)
  unfold StP
  clear hR hc hf ht x0 x1 x3 x2 hd hd2 hX hb hR2 hT
  go_enter Tryd.func65, Tryd.ntmps65
  go_wp2_with fail
  refine (unhide HN).mono ?_
  rintro e w4 ⟨rfl, hb4⟩
  have HF := hide (fail_any ((unhide HR).1.keep hb4) i 151)
  have H4 := hide ((unhide HR).2.trans (But.of (r := r) hb4))
  clear hb4 HN
  go_wp2_with fail
  refine (unhide HF).mono ?_
  rintro e w5 ⟨rfl, hb5, hR5⟩
  have H5 := hide (And.intro ((unhide H4).trans hb5) hR5)
  clear hb5 hR5 HF
  go_wp2
  go_ret
  exact ⟨rfl, (unhide H5).1, (unhide H5).2⟩
set_option maxRecDepth 100000 in
set_option maxHeartbeats 4000000 in
theorem dnext_any {w : World} {r d : Nat} {st : PS} {ts : List (Int × ByteArray × Int)} (hR : PD w r ts st d) (hT : TsOk ts) : Calls Tryd.prog 77 #[.pointer (some ⟨r, 0, none⟩)] w (VP (tkV (nx ts (st.i + 1))) w) := by
  obtain ⟨A, eA, hbA, hsA, hhA⟩ := box_new w #[.int .i64 0, .string ⟨#[]⟩, .int .i64 0] 87
  obtain ⟨g, c, x0, x1, x2, x3, x4, hc, hr, hf, ht⟩ := hR.facts hbA
  have hp := hR.lt
  have hl := hT.len
  obtain ⟨i, er, ea⟩ := st
  have g1 : (i : Int) < (ts.length : Int) := by have : i < ts.length := hp; omega
  have g2 : (ts.length : Int) ≤ 100000 := by omega
  have g3 : (0 : Int) ≤ (i : Int) := by omega
  have y0 : A.cell? ⟨w.heap.size, 0, none⟩ = some (.int .i64 0) := (blk hhA).2.1 0 _ rfl
  have y1 : A.cell? ⟨w.heap.size, 1, none⟩ = some (.string ⟨#[]⟩) := (blk hhA).2.1 1 _ rfl
  have y2 : A.cell? ⟨w.heap.size, 2, none⟩ = some (.int .i64 0) := (blk hhA).2.1 2 _ rfl
  have z0 := (blk hhA).2.2 0
  have z1 := (blk hhA).2.2 1
  have z2 := (blk hhA).2.2 2
  have HB := hide (And.intro hbA hhA)
  have HE := hide eA
  unfold VP
  obtain ⟨L, hL⟩ : ∃ L, ts.length = L := ⟨_, rfl⟩
  by_cases hi : i + 1 < ts.length
  · obtain ⟨t0, t1, t2⟩ := ht (i + 1) _ (nx_of hi)
    have g4 : (i : Int) + 1 < (ts.length : Int) := by omega
    unfold tkV
    obtain ⟨X, hX⟩ : ∃ X, nx ts (i + 1) = X := ⟨_, rfl⟩
    simp only at t0 t1 t2 x1 ⊢
    rw [hX] at t0 t1 t2 ⊢
    rw [hL] at x0 g1 g2 g4
    clear hR hT eA hbA hsA hhA hX hL ht hc hp hl hf hi
    go_enter Tryd.func77, Tryd.ntmps77
    go_wp2_with fail
    rw [unhide HE]
    go_region
    go_wp2_with fail
    have q0 : A.drew.cell? ⟨r, 0, none⟩ = some (.slice (some ⟨g, 0, none⟩) L c) := x0
    have q1 : A.drew.cell? ⟨r, 1, none⟩ = some (.int .i64 i) := x1
    have p0 : A.drew.cell? ⟨g, (i + 1) * 3, none⟩ = some (.int .i64 X.1) := t0
    have p1 : A.drew.cell? ⟨g, (i + 1) * 3 + 1, none⟩ = some (.string X.2.1) := t1
    have p2 : A.drew.cell? ⟨g, (i + 1) * 3 + 2, none⟩ = some (.int .i64 X.2.2) := t2
    have u0 : A.drew.cell? ⟨w.heap.size, 0, none⟩ = some (.int .i64 0) := y0
    have u1 : A.drew.cell? ⟨w.heap.size, 1, none⟩ = some (.string ⟨#[]⟩) := y1
    have u2 : A.drew.cell? ⟨w.heap.size, 2, none⟩ = some (.int .i64 0) := y2
    have v0 : A.drew.frozen? ⟨w.heap.size, 0, none⟩ = false := z0
    have v1 : A.drew.frozen? ⟨w.heap.size, 1, none⟩ = false := z1
    have v2 : A.drew.frozen? ⟨w.heap.size, 2, none⟩ = false := z2
    have hr2 : r < A.drew.heap.size := hr
    go_region
    go_wp2
    obtain ⟨hbA, hhA⟩ := unhide HB
    refine bodyPost_ret (res_row (cs := [.int .i64 X.1, .string X.2.1, .int .i64 X.2.2]) rfl rfl (range_block (by rw [heap_drew, heap_drew]; exact fill3 hhA)) rfl rfl rfl) rfl ?_
    exact ⟨rfl, (below_set (below_set (below_set hbA (Nat.le_refl _) _ _) (Nat.le_refl _) _ _) (Nat.le_refl _) _ _).drew.drew⟩
  · have g4 : decide ((i : Int) + 1 < (ts.length : Int)) = false := by simp; omega
    have g5 : ¬ (i : Int) + 1 < (ts.length : Int) := by omega
    have hz : nx ts (i + 1) = (0, ⟨#[]⟩, 0) := by
      unfold nx
      rw [List.getD_eq_getElem?_getD, List.getElem?_eq_none (by omega)]
      rfl
    simp only at x1 ⊢
    rw [hz]
    unfold tkV
    rw [hL] at x0 g1 g2 g4 g5
    clear hR hT eA hbA hsA hhA hL ht hc hp hl hf hi hz
    go_enter Tryd.func77, Tryd.ntmps77
    go_wp2_with fail
    rw [unhide HE]
    go_region
    have u0 : A.drew.cell? ⟨w.heap.size, 0, none⟩ = some (.int .i64 0) := y0
    have u1 : A.drew.cell? ⟨w.heap.size, 1, none⟩ = some (.string ⟨#[]⟩) := y1
    have u2 : A.drew.cell? ⟨w.heap.size, 2, none⟩ = some (.int .i64 0) := y2
    have v0 : A.drew.frozen? ⟨w.heap.size, 0, none⟩ = false := z0
    have v1 : A.drew.frozen? ⟨w.heap.size, 1, none⟩ = false := z1
    have v2 : A.drew.frozen? ⟨w.heap.size, 2, none⟩ = false := z2
    go_wp2
    obtain ⟨hbA, hhA⟩ := unhide HB
    refine bodyPost_ret (res_row (cs := [.int .i64 0, .string ⟨#[]⟩, .int .i64 0]) rfl rfl (range_block (fill3 hhA)) rfl rfl rfl) rfl ?_
    exact ⟨rfl, below_set (below_set (below_set hbA.drew (Nat.le_refl _) _ _) (Nat.le_refl _) _ _) (Nat.le_refl _) _ _⟩
end Go.Proofs.YtljhpbjngbbjbaaDoor

/- The document's parser: a rule's contract; expr. -/
namespace Go.Proofs.YtljhpbjngbbjbaaDoor
open Go Go.RowKit
/-- What a rule of expressions answers. -/
def DE (x : Ex × PS) (r : Nat) (ts : List (Int × ByteArray × Int)) (d : Nat) (w : World) (e : Ending) (w' : World) : Prop := DP (fun w' v t => IsE w' w.heap.size v t) x r ts d w e w'
theorem PD.put {w : World} {r d q : Nat} {st : PS} {ts : List (Int × ByteArray × Int)} (h : PD w r ts st d) (hq : r < q) (x0 x1 x2 x3 x4 x5 x6 : Value) : PD (set7 w q x0 x1 x2 x3 x4 x5 x6) r ts st d := h.out hq fun k hk => by
  unfold set7
  exact same7 (by omega) _ _ _ _ _ _ _
theorem PD.deep {w : World} {r d e : Nat} {st : PS} {ts : List (Int × ByteArray × Int)} (h : PD w r ts st d) : PD (w.setCell ⟨r, 4, none⟩ (.int .i64 (e : Int))) r ts st e := h.set ((But.refl r w).set _ _) h.lt fun g c h => set_block h _
theorem dret_put {fn : Func} {a : Act} {tt : Nat} {w w3 : World} {r d lo : Nat} {ts : List (Int × ByteArray × Int)} {t : Ex} {st : PS} {Y : Ex × PS} {x0 x1 x2 x3 x4 x5 x6 : Value} (hf : fn.results = #[.cell tt 51]) (ht : a.tmps[tt]? = some (.pointer (some ⟨w.heap.size, 0, none⟩))) (hdf : a.defers = []) (hbu : But r w w3) (hr : r < w.heap.size) (hz : ZB w3 w.heap.size) (hY : Y = (t, st)) (hR : PD w3 r ts st d) (hlo : w.heap.size < lo) (hv : IsE w3 lo (.agg #[x0, x1, x2, x3, x4, x5, x6]) t) :
    bodyPost Tryd.prog fn (DE Y r ts d w) .ret a (set7 w3 w.heap.size x0 x1 x2 x3 x4 x5 x6) := by
  subst hY
  refine bodyPost_ret (res_row (cs := [x0, x1, x2, x3, x4, x5, x6]) hf ht (range_block (fill7 hz)) Tryd.underlying51 rfl (by kernel_rfl)) hdf ?_
  exact ⟨but7 hbu (Nat.le_refl _) _ _ _ _ _ _ _, hR.put hr _ _ _ _ _ _ _, _, rfl, hv.keep (stays7 (Stays.of (Below.refl _ _)) hlo _ _ _ _ _ _ _) (by omega)⟩
/-- A rule's contract at a depth. -/
def DcC (f : Nat) (r : Nat) (ts : List (Int × ByteArray × Int)) (d : Nat) (X : PS → Ex × PS) : Prop := ∀ (w : World) (st : PS), PD w r ts st d → Calls Tryd.prog f #[.pointer (some ⟨r, 0, none⟩)] w (DE (X st) r ts d w)
set_option maxRecDepth 100000 in
set_option maxHeartbeats 4000000 in
theorem dexpr_top {r d : Nat} {ts : List (Int × ByteArray × Int)} (hT : TsOk ts) (hd : 200 ≤ d) (hd2 : d ≤ 100000) : DcC 54 r ts d (fun st => (zEx, st.fail (tD ts st).2.2 151)) := by
  intro w st hR
  obtain ⟨A, eA, hbA, hzA, hsA⟩ := zb_new w
  have hr := hR.rlt
  have HC := hide (down_no (hR.keep hbA) hT hd hd2)
  have HA := hide (And.intro hbA hzA)
  have HE := hide eA
  obtain ⟨s2, hs⟩ : ∃ s2, st.fail (tD ts st).2.2 151 = s2 := ⟨_, rfl⟩
  rw [hs] at HC
  have HSS := hide hs
  have g1 : (0 : Int) ≤ (d : Int) := by omega
  have g2 : (d : Int) ≤ 100000 := by omega
  have hne : r ≠ w.heap.size := by omega
  clear hR hT hd hd2 eA hbA hzA hsA hs
  go_enter Tryd.func54, Tryd.ntmps54
  go_wp2_with fail
  rw [unhide HE]
  refine (unhide HC).mono ?_
  rintro e w2 ⟨rfl, hb2, hR2⟩
  have hz2 := (unhide HA).2.but hb2 hne
  obtain ⟨g, c, x0, x1, x2, x3, x4, hc, hrl, hf, ht⟩ := hR2.facts (Below.refl _ _)
  have f4 := hf 4
  obtain ⟨y0, y1, y2, y3, y4, y5, y6⟩ := blk7 hz2
  obtain ⟨z0, z1, z2, z3, z4, z5, z6⟩ := frz7 hz2
  have H2 := hide (And.intro ((But.of (r := r) (unhide HA).1).trans hb2) (And.intro hR2 hz2))
  clear hb2 hR2 hz2 HC hc hf ht x0 x1 x2 x3
  go_wp2
  obtain ⟨hb, hR2, hz2⟩ := unhide H2
  have hz3 : ZB (w2.setCell ⟨r, 4, none⟩ (.int .i64 (d : Int))) w.heap.size := hz2.but ((But.refl r w2).set _ _) hne
  refine bodyPost_ret (res_row (cs := [.int .i64 0, .string ⟨#[]⟩, .string ⟨#[]⟩, .bool false, .slice none 0 0, .int .i64 0, .int .i64 0]) rfl rfl (range_block (fill7 hz3)) Tryd.underlying51 rfl (by kernel_rfl)) rfl ?_
  refine ⟨but7 (hb.set 4 _) (Nat.le_refl _) _ _ _ _ _ _ _, ?_, _, rfl, leaf 0 0 ⟨#[]⟩ ⟨#[]⟩ false⟩
  rw [unhide HSS]
  exact hR2.deep.put hr _ _ _ _ _ _ _
end Go.Proofs.YtljhpbjngbbjbaaDoor

namespace Go.Proofs.YtljhpbjngbbjbaaDoor
open Go Go.RowKit
/-- A rule's contract at a depth, where there is no error yet. -/
def DcO (f : Nat) (r : Nat) (ts : List (Int × ByteArray × Int)) (d : Nat) (X : PS → Ex × PS) : Prop := ∀ (w : World) (st : PS), st.e = 0 → PD w r ts st d → Calls Tryd.prog f #[.pointer (some ⟨r, 0, none⟩)] w (DE (X st) r ts d w)
set_option maxRecDepth 100000 in
set_option maxHeartbeats 4000000 in
theorem dexpr_of {r d : Nat} {ts : List (Int × ByteArray × Int)} {X : PS → Ex × PS} (hd : d < 200) (hX : DcO 66 r ts (d + 1) X) : DcC 54 r ts d (fun st => if st.e = 0 then X st else (zEx, st)) := by
  intro w st hR
  obtain ⟨A, eA, hbA, hzA, hsA⟩ := zb_new w
  have hr := hR.rlt
  have HC := hide (down_yes (hR.keep hbA) hd)
  have HA := hide (And.intro hbA hzA)
  have HE := hide eA
  obtain ⟨Y, hY⟩ : ∃ Y, (if st.e = 0 then X st else (zEx, st)) = Y := ⟨_, rfl⟩
  show Calls _ _ _ _ (DE (if st.e = 0 then X st else (zEx, st)) r ts d w)
  rw [hY]
  have g1 : (0 : Int) ≤ (d : Int) := by omega
  have g2 : (d : Int) < 200 := by omega
  have hne : r ≠ w.heap.size := by omega
  clear hR hd eA hbA hzA hsA
  by_cases he : st.e = 0
  · have d1 : decide (st.e = 0) = true := decide_eq_true he
    rw [d1] at HC
    rw [if_pos he] at hY
    have HEr := hide he
    have HX := hide hX
    clear d1 he hX
    have HY := hide hY
    clear hY
    go_enter Tryd.func54, Tryd.ntmps54
    go_wp2_with fail
    rw [unhide HE]
    refine (unhide HC).mono ?_
    rintro e w2 ⟨rfl, hb2, hR2⟩
    have HC2 := hide (unhide HX w2 st (unhide HEr) hR2)
    rw [unhide HY] at HC2
    have H2 := hide (And.intro ((But.of (r := r) (unhide HA).1).trans hb2) ((unhide HA).2.but hb2 hne))
    clear HX hb2 hR2 HC
    go_wp2_with fail
    refine (unhide HC2).mono ?_
    rintro e w3 ⟨hb3, hR3, v, rfl, hv⟩
    obtain ⟨i0, i6, s1, s2, b3, a4, n4, c4, rfl⟩ := hv.form
    have hz3 := (unhide H2).2.but hb3 hne
    obtain ⟨B, eB, hbB, hsB, hhB⟩ := box_new w3 #[.int .i64 i0, .string s1, .string s2, .bool b3, .slice a4 n4 c4, .int .i64 0, .int .i64 i6] 51
    have hzB := hz3.but (But.of (r := r) hbB) hne
    have hRB := hR3.keep hbB
    have n2 : r ≠ w3.heap.size := by have := hR3.rlt; omega
    have n3 : w.heap.size ≠ w3.heap.size := by have := (blk hz3).1; omega
    obtain ⟨g, c, x0, x1, x2, x3, x4, hc, hrl, hf, ht⟩ := hRB.facts (Below.refl _ _)
    have f4 := hf 4
    obtain ⟨y0, y1, y2, y3, y4, y5, y6⟩ := blk7 hzB
    obtain ⟨z0, z1, z2, z3, z4, z5, z6⟩ := frz7 hzB
    obtain ⟨q0, q1, q2, q3, q4, q5, q6⟩ := blk7 hhB
    have hs2 := (blk (unhide H2).2).1
    have H3 := hide (And.intro ((unhide H2).1.trans (hb3.trans (But.of (r := r) hbB))) (And.intro hRB (And.intro hzB (And.intro hv (And.intro hbB hs2)))))
    have HEB := hide eB
    rw [← eB] at x4 hrl f4 y0 y1 y2 y3 y4 y5 y6 z0 z1 z2 z3 z4 z5 z6 q0 q1 q2 q3 q4 q5 q6
    clear hb3 hR3 hv hz3 eB hbB hsB hhB hzB hRB hc hf ht x0 x1 x2 x3 HC2 hs2
    go_wp2
    rw [unhide HEB]
    obtain ⟨hbu, hRB, hzB, hv, hbB, hs2⟩ := unhide H3
    have hz4 : ZB (B.setCell ⟨r, 4, none⟩ (.int .i64 (d : Int))) w.heap.size := hzB.but ((But.refl r B).set _ _) hne
    refine bodyPost_ret (res_row (cs := [.int .i64 i0, .string s1, .string s2, .bool b3, .slice a4 n4 c4, .int .i64 0, .int .i64 i6]) rfl rfl (range_block (fill7 hz4)) Tryd.underlying51 rfl (by kernel_rfl)) rfl ?_
    refine ⟨but7 (hbu.set 4 _) (Nat.le_refl _) _ _ _ _ _ _ _, hRB.deep.put hr _ _ _ _ _ _ _, _, rfl, ?_⟩
    exact hv.keep (stays7 ((Stays.of hbB).set (by omega) _ _) hs2 _ _ _ _ _ _ _) (by omega)
  · have d1 : decide (st.e = 0) = false := decide_eq_false he
    rw [d1] at HC
    rw [if_neg he] at hY
    subst hY
    clear d1 he hX
    go_enter Tryd.func54, Tryd.ntmps54
    go_wp2_with fail
    rw [unhide HE]
    refine (unhide HC).mono ?_
    rintro e w2 ⟨rfl, hb2, hR2⟩
    have hz2 := (unhide HA).2.but hb2 hne
    obtain ⟨g, c, x0, x1, x2, x3, x4, hc, hrl, hf, ht⟩ := hR2.facts (Below.refl _ _)
    have f4 := hf 4
    obtain ⟨y0, y1, y2, y3, y4, y5, y6⟩ := blk7 hz2
    obtain ⟨z0, z1, z2, z3, z4, z5, z6⟩ := frz7 hz2
    have H2 := hide (And.intro ((But.of (r := r) (unhide HA).1).trans hb2) (And.intro hR2 hz2))
    clear hb2 hR2 hz2 HC hc hf ht x0 x1 x2 x3
    go_wp2
    obtain ⟨hb, hR2, hz2⟩ := unhide H2
    have hz3 : ZB (w2.setCell ⟨r, 4, none⟩ (.int .i64 (d : Int))) w.heap.size := hz2.but ((But.refl r w2).set _ _) hne
    refine bodyPost_ret (res_row (cs := [.int .i64 0, .string ⟨#[]⟩, .string ⟨#[]⟩, .bool false, .slice none 0 0, .int .i64 0, .int .i64 0]) rfl rfl (range_block (fill7 hz3)) Tryd.underlying51 rfl (by kernel_rfl)) rfl ?_
    exact ⟨but7 (hb.set 4 _) (Nat.le_refl _) _ _ _ _ _ _ _, hR2.deep.put hr _ _ _ _ _ _ _, _, rfl, leaf 0 0 ⟨#[]⟩ ⟨#[]⟩ false⟩
end Go.Proofs.YtljhpbjngbbjbaaDoor
