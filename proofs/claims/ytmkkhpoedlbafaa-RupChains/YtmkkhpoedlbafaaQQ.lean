/- Package rup: add stands. -/
import Derived.Test.YtmkkhpoedlbafaaQN
import Derived.Test.YtmkkhpoedlbafaaQO
import Derived.Test.YtmkkhpoedlbafaaQP
set_option linter.unusedVariables false
set_option linter.unusedSimpArgs false

/- Package rup: add: a clause is kept. -/
namespace Go.Proofs.Ytmkkhpoedlbafaa
open Go Go.RowKit Go.Sort
theorem inf_cl : ∃ i, Try.prog.info? 57 = some i ∧ i.zero = some (.agg #[.slice none 0 0, .int .i64 0]) ∧ i.size = 2 ∧ i.bytes = 32 := inf_of (by kernel_rfl)
theorem us_cl : Try.prog.underlying 47 = some (.slice 57) := by kernel_rfl
/-- One clause is appended. -/
theorem app_cl {ops : Array Oper} {rest : List Oper} {o : Oper} {a : Act} {Q : Exit → Act → World → Prop} (wa : World) (hgd : o.guard = none) (s x : Operand) (ho : o.op = .call { callee := .builtin .append, args := #[s, x], argTypes := #[47, 47] })
    (B : Nat) (v : Value) (n : Nat) (xs : List Value) (hs : a.eval s = v) (hown : wa.ownsRow B 57 2 v n xs) (g0 gl nl capl : Nat) (hx : a.eval x = .slice (some ⟨g0, 0, none⟩) 1 1) (hblk : wa.heap[g0]? = some (.cells #[.slice (some ⟨gl, 0, none⟩) nl capl, .int .i64 2] 57)) (hn : n ≤ 10000000000) (hbase : B ≤ wa.heap.size)
    (h : ∀ g cap w', w'.ownsRow B 57 2 (.slice (some ⟨g, 0, none⟩) (n + 1) cap) (n + 1) (xs ++ [.slice (some ⟨gl, 0, none⟩) nl capl, .int .i64 2]) → wa.grownBy w' v.ownBlock → (v.ownBlock = some g ∨ g = wa.heap.size) → g < w'.heap.size → wpList Try.prog ops Q rest (a.put o.dst (.slice (some ⟨g, 0, none⟩) (n + 1) cap)) w') : wpList Try.prog ops Q (o :: rest) a wa := by
  obtain ⟨i, hi, hz, h1, h2⟩ := inf_cl
  refine wpList_append_lies wa hgd s x 47 ho B 57 i (.agg #[.slice none 0 0, .int .i64 0]) 2 32 us_cl hi hz h1 h2 rfl (by omega) v n xs hs hown ⟨g0, 0, none⟩ 1 1 [.slice (some ⟨gl, 0, none⟩) nl capl, .int .i64 2] hx rfl (World.news_of_block hblk) (fun u hu => ?_) (by omega) (by unfold maxLen; omega) (by omega) hbase _ rfl h
  simp only [List.mem_cons, List.not_mem_nil, or_false] at hu
  rcases hu with rfl | rfl <;> rfl
set_option maxRecDepth 100000 in
set_option maxHeartbeats 16000000 in
theorem keep_cl {Q : Exit → Act → World → Prop} {a : Act} {w0 w : World} {B r g n cap : Nat} {ρ : Nat → Nat × Nat} {q : Mv} {k : KS} {zs : List Nat} (hs : AS a r g n cap) (hO : Own w0 w B r ρ q k g n cap (zs.map (fun y : Nat => (y : Int)))) (hcs : k.cs.length ≤ 1000000000)
    (hq : ∀ a' w' ρ' q', a'.defers = [] → Ck w0 w' B r ρ' q' { k with cs := k.cs ++ [(zs, 2)] } (trs (2 * k.pl.length) k.trail) → Q .normal a' w') : Code.wp Try.prog (aCl Try.f22) Q a w := by
  obtain ⟨u, rfl⟩ := hs.lit
  clear hs
  have hck := hO.ck
  have d1 := hck.cells.2.1
  have f1 := hck.cells.2.2.2.2.2.2.2.2 1
  obtain ⟨aC, capC, haC, _, _⟩ := hck.rc.form
  rw [haC] at d1
  have hzl : zs.length = n := by have := hO.ln; rwa [List.length_map] at this
  have HL := hide hO.row
  rw [← Own.ints] at HL
  have HA := hide (hck.alloc (.cells #[.slice (some ⟨g, 0, none⟩) n cap, .int .i64 2] 57))
  have HLA := hide (owns_stay (unhide HL) (Below.heap_alloc w (.cells #[.slice (some ⟨g, 0, none⟩) n cap, .int .i64 2] 57) g hO.lt))
  have HAC := hide haC
  have HM := hide hO.mr
  have HZ := hide hzl
  have HCS := hide (show k.cs.length ≤ 10000000000 by omega)
  have HQ := hide hq
  clear hq hck hO haC hzl hcs HL
  conv => arg 2; whnf
  go_wp2_with (at_builtin; refine app_cl _ rfl _ _ rfl B (.slice aC k.cs.length capC) k.cs.length _ rfl (by rw [← unhide HAC]; exact (unhide HA).rc.1) _ g n cap rfl (alloc_at (by simp)) (unhide HCS) (unhide HA).size ?_; intro g1 cap1 w3 ho hg hw hl; have e4 := (unhide HA).rcell hg (by rw [← unhide HAC]; intro b hb; rw [(unhide HA).rc.2 b hb]; simp) 1; rw [(unhide HA).cells.2.1] at e4; obtain ⟨e4, e5⟩ := e4; have HO := hide ho; have HG := hide hg; have HW := hide hw; clear ho hg hw hl)
  refine unhide HQ _ _ _ _ rfl ((unhide HA).pushClause (v := .slice (some ⟨g, 0, none⟩) n cap) (gl := g) (c := zs) (unhide HO) (by rw [unhide HAC]; exact unhide HG) (by rw [unhide HAC]; exact unhide HW) rfl (by rw [unhide HZ]; exact unhide HLA) (unhide HM))
end Go.Proofs.Ytmkkhpoedlbafaa

/- Package rup: add, whole. -/
namespace Go.Proofs.Ytmkkhpoedlbafaa
open Go Go.RowKit Go.Sort
theorem two_any {Q : Exit → Act → World → Prop} {a : Act} {w0 w : World} {B r g n cap : Nat} {ρ : Nat → Nat × Nat} {q : Mv} {k : KS} {L : List (List Int)} {xs : List Int} {ys : List Nat} {x y : Nat} {t : List Nat} (hs : AS a r g n cap) (hO : Own w0 w B r ρ q k g n cap ((x :: y :: t).map (fun y : Nat => (y : Int)))) (hB : Bs k) (hR : Rq L k) (hr : k.refuted = false) (hw : Whole xs) (ht : Tidy k.pl xs ys) (hp : (x :: y :: t).Perm ys) (hx : op x ∉ k.trail) (hy : op y ∉ k.trail) (hcs : k.cs.length ≤ 1000000000)
    (hq : ∀ a' w', a'.defers = [] → AE w0 B r L xs k w' → Q .normal a' w') : Code.wp Try.prog (aTwo Try.f22) Q a w := by
  obtain ⟨s0, _, _⟩ := hR.no hr
  have hxl := ht.lt x (hp.mem_iff.1 (.head _))
  have hyl := ht.lt y (hp.mem_iff.1 (.tail _ (.head _)))
  have hnd : x ≠ y := by
    have := hp.nodup_iff.2 ht.nd
    simp only [List.nodup_cons, List.mem_cons, not_or] at this
    exact this.1.1
  rw [← hB.wl] at hxl hyl
  obtain ⟨lx, hlx⟩ : ∃ l, k.ws[x]? = some l := ⟨_, List.getElem?_eq_getElem hxl⟩
  obtain ⟨ly, hly⟩ : ∃ l, k.ws[y]? = some l := ⟨_, List.getElem?_eq_getElem hyl⟩
  have b1 := s0.wlen hlx
  have b2 := s0.wlen hly
  change Code.wp Try.prog (.seq (aW0 Try.f22) (.seq (aW1 Try.f22) (aCl Try.f22))) Q a w
  refine wp_seq (watch0_any hs hO rfl hlx (by omega) hcs fun a1 w1 ρ1 q1 h1 h2 => ?_)
  refine wp_seq (watch1_any (k := { k with ws := k.ws.set x (lx ++ [k.cs.length]) }) h1 h2 rfl (ly := ly) (by show (k.ws.set x _)[y]? = _; rw [List.getElem?_set_ne hnd]; exact hly) (by omega) hcs fun a2 w2 ρ2 q2 h3 h4 => ?_)
  refine keep_cl (k := { k with ws := (k.ws.set x (lx ++ [k.cs.length])).set y (ly ++ [k.cs.length]) }) h3 h4 hcs fun a3 w3 ρ3 q3 h5 h6 => ?_
  exact hq a3 w3 h5 ⟨_, ρ3, q3, h6, add_two hR hr hw ht hp hx hy hlx hly, ⟨by simpa using hB.wl, hB.tlt, hB.ppl⟩, rfl, rfl, by simp⟩
/-- The switch. -/
theorem sw_any {a : Act} {w0 w : World} {B r g n cap : Nat} {ρ : Nat → Nat × Nat} {q : Mv} {k : KS} {L : List (List Int)} {xs : List Int} {ys zs : List Nat} {o : Nat} {Q : Exit → Act → World → Prop} (hs : AA a r g n cap o) (hO : Own w0 w B r ρ q k g n cap (zs.map (fun y : Nat => (y : Int)))) (hS : Sift k.trail ys zs n o) (hB : Bs k) (hR : Rq L k) (hr : k.refuted = false) (hw : Whole xs) (ht : Tidy k.pl xs ys) (hP : k.pl.length ≤ 1000000000) (hcs : k.cs.length ≤ 1000000000)
    (hq : ∀ a' w', a'.defers = [] → AE w0 B r L xs k w' → Q .normal a' w') : Code.wp Try.prog (aSw Try.f22) Q a w := by
  have hzl : zs.length = n := by have := hO.ln; rwa [List.length_map] at this
  obtain ⟨u, rfl⟩ := hs.lit
  clear hs
  have ho : o = 0 ∨ o = 1 ∨ o = 2 := by have := hS.o2; omega
  rcases ho with rfl | rfl | rfl
  · have HN := hide (fun (a' : Act) (h : AS a' r g n cap) (Q' : Exit → Act → World → Prop) (hq : ∀ a' w', a'.defers = [] → AE w0 B r L xs k w' → Q' .normal a' w') => none_any h hO.ck hB hR hr hw ht (hS.none (by omega)) hq)
    have HQ := hide hq
    clear hq hO hS hB hR hr hw ht hP hcs hzl
    change Code.wp Try.prog (.seq (cL (aSw Try.f22)) (.block 2 (.seq (cL (aBody Try.f22)) (.cond (.tmp 128) (aNone Try.f22) (aMore Try.f22))))) _ _ _
    conv => arg 2; arg 1; whnf
    conv => arg 2; arg 2; arg 2; arg 1; whnf
    go_wp2
    exact unhide HN _ ⟨rfl, rfl, rfl, rfl⟩ _ (unhide HQ)
  · obtain ⟨z, t, rfl, h1, h2⟩ := hS.one hzl
    have HN := hide (fun (a' : Act) (h : AS a' r g n cap) (Q' : Exit → Act → World → Prop) (hq : ∀ a' w', a'.defers = [] → AE w0 B r L xs k w' → Q' .normal a' w') => one_any h hO hR hr hw ht hS.pm h1 h2 hP hcs hq)
    have HQ := hide hq
    clear hq hO hS hB hR hr hw ht hP hcs hzl h1 h2
    change Code.wp Try.prog (.seq (cL (aSw Try.f22)) (.block 2 (.seq (cL (aBody Try.f22)) (.cond (.tmp 128) (aNone Try.f22) (.seq (cL (aMore Try.f22)) (.cond (.tmp 133) (aOne Try.f22) (aTwo Try.f22))))))) _ _ _
    conv => arg 2; arg 1; whnf
    conv => arg 2; arg 2; arg 2; arg 1; whnf
    conv => arg 2; arg 2; arg 2; arg 2; arg 3; arg 1; whnf
    go_wp2
    exact unhide HN _ ⟨rfl, rfl, rfl, rfl⟩ _ (unhide HQ)
  · obtain ⟨x, y, t, rfl, h1, h2⟩ := hS.two hzl
    have HN := hide (fun (a' : Act) (h : AS a' r g n cap) (Q' : Exit → Act → World → Prop) (hq : ∀ a' w', a'.defers = [] → AE w0 B r L xs k w' → Q' .normal a' w') => two_any h hO hB hR hr hw ht hS.pm h1 h2 hcs hq)
    have HQ := hide hq
    clear hq hO hS hB hR hr hw ht hP hcs hzl h1 h2
    change Code.wp Try.prog (.seq (cL (aSw Try.f22)) (.block 2 (.seq (cL (aBody Try.f22)) (.cond (.tmp 128) (aNone Try.f22) (.seq (cL (aMore Try.f22)) (.cond (.tmp 133) (aOne Try.f22) (aTwo Try.f22))))))) _ _ _
    conv => arg 2; arg 1; whnf
    conv => arg 2; arg 2; arg 2; arg 1; whnf
    conv => arg 2; arg 2; arg 2; arg 2; arg 3; arg 1; whnf
    go_wp2
    exact unhide HN _ ⟨rfl, rfl, rfl, rfl⟩ _ (unhide HQ)
/-- From the look on. -/
theorem rest_any {a : Act} {w0 w : World} {B r g n cap : Nat} {ρ : Nat → Nat × Nat} {q : Mv} {k : KS} {L : List (List Int)} {xs : List Int} {ys : List Nat} {Q : Exit → Act → World → Prop} (hs : AS a r g n cap) (hO : Own w0 w B r ρ q k g n cap (ys.map (fun y : Nat => (y : Int)))) (hB : Bs k) (hR : Rq L k) (hr : k.refuted = false) (hw : Whole xs) (ht : Tidy k.pl xs ys) (hP : k.pl.length ≤ 1000000000) (hcs : k.cs.length ≤ 1000000000) (hn : n ≤ 1000000000)
    (hq : ∀ a' w', a'.defers = [] → AE w0 B r L xs k w' → Q .normal a' w') : Code.wp Try.prog (aRest Try.f22) Q a w := by
  obtain ⟨u, rfl⟩ := hs.lit
  clear hs
  obtain ⟨s0, _, _⟩ := hR.no hr
  have HI : Hid (∀ a' : Act, AG a' r g n cap ((0 : Nat) : Int) ((0 : Nat) : Int) → AI w0 B r ρ q k g n cap ys a' w) := fun a' h => ⟨0, 0, ys, h, Nat.zero_le _, hO, Sift.start _ _⟩
  have HR : Hid (∀ (a' : Act) (w' : World), AI w0 B r ρ q k g n cap ys a' w' → ∀ (Q' : Exit → Act → World → Prop), (∀ a2 w2 (o : Nat) (zs : List Nat), AA a2 r g n cap o → Own w0 w2 B r ρ q k g n cap (zs.map (fun y : Nat => (y : Int))) → Sift k.trail ys zs n o → Q' (.exit 0) a2 w2) →
      Code.wp Try.prog (aLoop Try.f22) (Exit.then (fun a2 w2 => AI w0 B r ρ q k g n cap ys a2 w2 ∧ n - (intOf (a2.tmps.getD 37 undef)).toNat < n - (intOf (a'.tmps.getD 37 undef)).toNat) Q') a' w') := fun a' w' hI Q' h1 => look_round hI ht.lt hP s0.tcon hn h1
  have HS := hide (fun (a2 : Act) (w2 : World) (o : Nat) (zs : List Nat) (h1 : AA a2 r g n cap o) (h2 : Own w0 w2 B r ρ q k g n cap (zs.map (fun y : Nat => (y : Int)))) (h3 : Sift k.trail ys zs n o) (Q' : Exit → Act → World → Prop) (hq : ∀ a' w', a'.defers = [] → AE w0 B r L xs k w' → Q' .normal a' w') => sw_any h1 h2 h3 hB hR hr hw ht hP hcs hq)
  have HQ := hide hq
  clear hq hO hB hR hr hw ht hP hcs s0 hn
  change Code.wp Try.prog (.seq (cL (aRest Try.f22)) (.seq (.seq (cL (cL (aFor Try.f22))) (.block 0 (.loop (aLoop Try.f22)))) (aSw Try.f22))) _ _ _
  conv => arg 2; arg 1; whnf
  conv => arg 2; arg 2; arg 1; arg 1; whnf
  go_wp2
  refine wp_loop (AI w0 B r ρ q k g n cap ys) (fun a w => n - (intOf (a.tmps.getD 37 undef)).toNat) ?_ (fun a' w' hI => unhide HR a' w' hI _ ?_)
  · exact unhide HI _ ⟨rfl, rfl, rfl, rfl, rfl, rfl, rfl, rfl⟩
  · intro a2 w2 o zs h1 h2 h3
    rename_i K hK
    exact hK _ _ (unhide HS a2 w2 o zs h1 h2 h3 _ (unhide HQ))
end Go.Proofs.Ytmkkhpoedlbafaa

namespace Go.Proofs.Ytmkkhpoedlbafaa
open Go Go.RowKit Go.Sort
def aMid (f : Func) : Code := cR (aAll f)
def AddPost (w0 : World) (B r : Nat) (n c : Nat) (xs : List Int) (L : List (List Int)) (e : Ending) (w' : World) : Prop := e = .returned (.tuple #[]) ∧ ∃ k' ρ' q', Ck w0 w' B r ρ' q' k' (trs (2 * k'.pl.length) k'.trail) ∧ Rep (L ++ [xs]) k' ∧ Bs k' ∧ k'.pl.length ≤ n + xs.length ∧ k'.cs.length ≤ c + 1
/-- Behind the first store. -/
structure AM (a : Act) (r : Nat) (v : Value) : Prop where
  dfr : a.defers = []
  sz : a.tmps.size = 146
  s0 : a.tmps[0]? = some (.pointer (some ⟨r, 0, none⟩))
  s1 : a.tmps[1]? = some (v)
set_option maxRecDepth 100000 in
theorem AM.lit {a : Act} {r : Nat} {v : Value} (h : AM a r v) : ∃ u : Nat → Value, a = ⟨#[.pointer (some ⟨r, 0, none⟩), v, u 2, u 3, u 4, u 5, u 6, u 7, u 8, u 9, u 10, u 11, u 12, u 13, u 14, u 15, u 16, u 17, u 18, u 19, u 20, u 21, u 22, u 23, u 24, u 25, u 26, u 27, u 28, u 29, u 30, u 31, u 32, u 33, u 34, u 35, u 36, u 37, u 38, u 39, u 40, u 41, u 42, u 43, u 44, u 45, u 46, u 47, u 48, u 49, u 50, u 51, u 52, u 53, u 54, u 55, u 56, u 57, u 58, u 59, u 60, u 61, u 62, u 63, u 64, u 65, u 66, u 67, u 68, u 69, u 70, u 71, u 72, u 73, u 74, u 75, u 76, u 77, u 78, u 79, u 80, u 81, u 82, u 83, u 84, u 85, u 86, u 87, u 88, u 89, u 90, u 91, u 92, u 93, u 94, u 95, u 96, u 97, u 98, u 99, u 100, u 101, u 102, u 103, u 104, u 105, u 106, u 107, u 108, u 109, u 110, u 111, u 112, u 113, u 114, u 115, u 116, u 117, u 118, u 119, u 120, u 121, u 122, u 123, u 124, u 125, u 126, u 127, u 128, u 129, u 130, u 131, u 132, u 133, u 134, u 135, u 136, u 137, u 138, u 139, u 140, u 141, u 142, u 143, u 144, u 145], []⟩ := by
  obtain ⟨tmps, dfr⟩ := a
  refine ⟨fun i => tmps.getD i undef, ?_⟩
  have hd : dfr = [] := h.dfr
  have hl := arr_lit (show tmps.size = 146 from h.sz)
  have g0 : tmps.getD 0 undef = .pointer (some ⟨r, 0, none⟩) := getD_some h.s0
  have g1 : tmps.getD 1 undef = v := getD_some h.s1
  subst hd
  congr 1
  have e : ((List.range 146).map fun i => tmps.getD i undef).toArray = #[tmps.getD 0 undef, tmps.getD 1 undef, tmps.getD 2 undef, tmps.getD 3 undef, tmps.getD 4 undef, tmps.getD 5 undef, tmps.getD 6 undef, tmps.getD 7 undef, tmps.getD 8 undef, tmps.getD 9 undef, tmps.getD 10 undef, tmps.getD 11 undef, tmps.getD 12 undef, tmps.getD 13 undef, tmps.getD 14 undef, tmps.getD 15 undef, tmps.getD 16 undef, tmps.getD 17 undef, tmps.getD 18 undef, tmps.getD 19 undef, tmps.getD 20 undef, tmps.getD 21 undef, tmps.getD 22 undef, tmps.getD 23 undef, tmps.getD 24 undef, tmps.getD 25 undef, tmps.getD 26 undef, tmps.getD 27 undef, tmps.getD 28 undef, tmps.getD 29 undef, tmps.getD 30 undef, tmps.getD 31 undef, tmps.getD 32 undef, tmps.getD 33 undef, tmps.getD 34 undef, tmps.getD 35 undef, tmps.getD 36 undef, tmps.getD 37 undef, tmps.getD 38 undef, tmps.getD 39 undef, tmps.getD 40 undef, tmps.getD 41 undef, tmps.getD 42 undef, tmps.getD 43 undef, tmps.getD 44 undef, tmps.getD 45 undef, tmps.getD 46 undef, tmps.getD 47 undef, tmps.getD 48 undef, tmps.getD 49 undef, tmps.getD 50 undef, tmps.getD 51 undef, tmps.getD 52 undef, tmps.getD 53 undef, tmps.getD 54 undef, tmps.getD 55 undef, tmps.getD 56 undef, tmps.getD 57 undef, tmps.getD 58 undef, tmps.getD 59 undef, tmps.getD 60 undef, tmps.getD 61 undef, tmps.getD 62 undef, tmps.getD 63 undef, tmps.getD 64 undef, tmps.getD 65 undef, tmps.getD 66 undef, tmps.getD 67 undef, tmps.getD 68 undef, tmps.getD 69 undef, tmps.getD 70 undef, tmps.getD 71 undef, tmps.getD 72 undef, tmps.getD 73 undef, tmps.getD 74 undef, tmps.getD 75 undef, tmps.getD 76 undef, tmps.getD 77 undef, tmps.getD 78 undef, tmps.getD 79 undef, tmps.getD 80 undef, tmps.getD 81 undef, tmps.getD 82 undef, tmps.getD 83 undef, tmps.getD 84 undef, tmps.getD 85 undef, tmps.getD 86 undef, tmps.getD 87 undef, tmps.getD 88 undef, tmps.getD 89 undef, tmps.getD 90 undef, tmps.getD 91 undef, tmps.getD 92 undef, tmps.getD 93 undef, tmps.getD 94 undef, tmps.getD 95 undef, tmps.getD 96 undef, tmps.getD 97 undef, tmps.getD 98 undef, tmps.getD 99 undef, tmps.getD 100 undef, tmps.getD 101 undef, tmps.getD 102 undef, tmps.getD 103 undef, tmps.getD 104 undef, tmps.getD 105 undef, tmps.getD 106 undef, tmps.getD 107 undef, tmps.getD 108 undef, tmps.getD 109 undef, tmps.getD 110 undef, tmps.getD 111 undef, tmps.getD 112 undef, tmps.getD 113 undef, tmps.getD 114 undef, tmps.getD 115 undef, tmps.getD 116 undef, tmps.getD 117 undef, tmps.getD 118 undef, tmps.getD 119 undef, tmps.getD 120 undef, tmps.getD 121 undef, tmps.getD 122 undef, tmps.getD 123 undef, tmps.getD 124 undef, tmps.getD 125 undef, tmps.getD 126 undef, tmps.getD 127 undef, tmps.getD 128 undef, tmps.getD 129 undef, tmps.getD 130 undef, tmps.getD 131 undef, tmps.getD 132 undef, tmps.getD 133 undef, tmps.getD 134 undef, tmps.getD 135 undef, tmps.getD 136 undef, tmps.getD 137 undef, tmps.getD 138 undef, tmps.getD 139 undef, tmps.getD 140 undef, tmps.getD 141 undef, tmps.getD 142 undef, tmps.getD 143 undef, tmps.getD 144 undef, tmps.getD 145 undef] := rfl
  rw [e, g0, g1] at hl
  exact hl
theorem res_void {W : World} {fn : Func} {a : Act} (hf : fn.results = #[]) : (results fn a.tmps).run Try.prog W = .ok (.tuple #[]) W := by simp [results, hf, go_sem]
theorem Rq.rep {L : List (List Int)} {k : KS} (h : Rq L k) (he : k.empty = true ↔ [] ∈ L) : Rep L k := ⟨h.yes, h.no, he⟩
theorem sub_le : ∀ (l m : List Int), l.Nodup → (∀ x ∈ l, x ∈ m) → l.length ≤ m.length
  | [], _, _, _ => Nat.zero_le _
  | x :: l, m, hn, hs => by
    rw [List.nodup_cons] at hn
    have hx := hs x (.head _)
    have := sub_le l (m.erase x) hn.2 fun y hy => (List.mem_erase_of_ne (show y ≠ x from fun e => hn.1 (by rw [← e]; exact hy))).2 (hs y (.tail _ hy))
    rw [List.length_erase_of_mem hx] at this
    have := List.length_pos_of_mem hx
    simp
    omega
theorem Tidy.len {pl xs : List Int} {ys : List Nat} (h : Tidy pl xs ys) (hp : Pl pl) : ys.length ≤ xs.length := by
  have h1 : (ys.map (num pl)).Nodup := by
    unfold List.Nodup
    rw [List.pairwise_map]
    exact h.nd.imp_of_mem fun {a b} ha hb hne e => hne (num_inj hp (h.lt a ha) (h.lt b hb) e)
  have := sub_le _ xs h1 fun x hx => by
    obtain ⟨y, hy, e⟩ := List.mem_map.1 hx
    exact (h.mem x).2 ⟨y, hy, e⟩
  rwa [List.length_map] at this
set_option maxRecDepth 100000 in
set_option maxHeartbeats 16000000 in
theorem add_mid {a : Act} {w0 w : World} {B r : Nat} {ρ : Nat → Nat × Nat} {q : Mv} {k : KS} {v : Value} {xs : List Int} {L : List (List Int)} (hs : AM a r v) (hC : Ck w0 w B r ρ q k (trs (2 * k.pl.length) k.trail)) (hR : Rq L k) (hB : Bs k) (he : k.empty = true ↔ [] ∈ L ++ [xs]) (hv : Sl w0 B v xs) (hw : Whole xs) (hP : k.pl.length + xs.length ≤ 1000000000) (hcs : k.cs.length ≤ 1000000000) :
    Code.wp Try.prog (aMid Try.f22) (bodyPost Try.prog Try.f22 (AddPost w0 B r k.pl.length k.cs.length xs L)) a w := by
  have HLits := hide (literals_any w0 w B r ρ q k v xs hC hB hv hw hP)
  obtain ⟨av, cap0, rfl, _, _⟩ := hv.open
  obtain ⟨u, rfl⟩ := hs.lit
  clear hs
  have HEnd : Hid (∀ (k1 : KS) (ρ1 : Nat → Nat × Nat) (q1 : Mv) (w1 : World), Ck w0 w1 B r ρ1 q1 k1 (trs (2 * k1.pl.length) k1.trail) → Rq (L ++ [xs]) k1 → Bs k1 → k1.empty = k.empty → k1.pl.length ≤ k.pl.length + xs.length → k1.cs.length ≤ k.cs.length + 1 → AddPost w0 B r k.pl.length k.cs.length xs L (.returned (.tuple #[])) w1) := fun k1 ρ1 q1 w1 h1 h2 h3 h4 h5 h6 => ⟨rfl, k1, ρ1, q1, h1, h2.rep (by rw [h4]; exact he), h3, h5, h6⟩
  have HR := hide hR
  have HB := hide (And.intro hP hcs)
  have HW := hide hw
  clear hC hR hB he hv hw hP hcs
  change Code.wp Try.prog (.seq (cL (aMid Try.f22)) (.seq (cL (cR (aMid Try.f22))) (aRest Try.f22))) _ _ _
  conv => arg 2; arg 1; whnf
  conv => arg 2; arg 2; arg 1; whnf
  go_wp2_with (go_at_call 27; refine (unhide HLits).mono ?_; intro e w1 h1; have H1 := hide h1; clear h1; refine ?roundEnd)
  case roundEnd =>
    obtain ⟨k1, ρ1, q1, hG, h2⟩ := unhide H1
    have hR1 := hG.rq (unhide HR)
    have hcs1 : k1.cs.length ≤ k.cs.length + 1 := by rw [hG.cs]; exact Nat.le_succ _
    obtain ⟨hb1, hb2⟩ := unhide HB
    rcases h2 with ⟨rfl, hck, hpair⟩ | ⟨g, cap, ys, rfl, hO, hT, _⟩
    · have H := hide (unhide HEnd k1 ρ1 q1 w1 hck (hR1.more fun _ => .inl hpair) hG.bs hG.em hG.len hcs1)
      clear hck hpair hG hR1 hcs1 H1 HLits HEnd HR HB HW hb1 hb2
      go_wp2
      exact bodyPost_ret (res_void rfl) rfl (unhide H)
    · have d7 := hO.ck.cells.2.2.2.2.2.2.2.1
      cases hre : k1.refuted with
      | true =>
        have H := hide (unhide HEnd k1 ρ1 q1 w1 hO.ck (hR1.more fun e => by rw [hre] at e; cases e) hG.bs hG.em hG.len hcs1)
        rw [hre] at d7
        clear hO hT hG hR1 hcs1 H1 HLits HEnd HR HB HW hb1 hb2 hre
        go_wp2
        exact bodyPost_ret (res_void rfl) rfl (unhide H)
      | false =>
        have hyl : ys.length ≤ 1000000000 := by
          have h3 := hT.len hG.bs.ppl
          omega
        have H := hide (fun (a' : Act) (h : AS a' r g ys.length cap) (Q : Exit → Act → World → Prop) hq => rest_any (Q := Q) h hO hG.bs hR1 hre (unhide HW) hT (by have := hG.len; omega) (by rw [hG.cs]; exact hb2) hyl hq)
        have HE := hide (fun (w2 : World) (h : AE w0 B r L xs k1 w2) => by
          obtain ⟨k2, ρ2, q2, c2, r2, b2, e2, p2, l2⟩ := h
          exact unhide HEnd k2 ρ2 q2 w2 c2 r2 b2 (e2.trans hG.em) (by rw [p2]; exact hG.len) (by rw [hG.cs] at l2; exact l2))
        rw [hre] at d7
        clear hO hT hG hR1 hcs1 H1 HLits HEnd HR HB HW hb1 hb2 hre hyl
        go_wp2
        exact unhide H _ ⟨rfl, rfl, rfl, rfl⟩ _ fun a2 w2 h1 h2 => ⟨h1, _, res_void rfl, unhide HE w2 h2⟩
set_option maxRecDepth 100000 in
set_option maxHeartbeats 16000000 in
theorem add_any (w0 w : World) (B r : Nat) (ρ : Nat → Nat × Nat) (q : Mv) (k : KS) (v : Value) (xs : List Int) (L : List (List Int)) (hC : Ck w0 w B r ρ q k (trs (2 * k.pl.length) k.trail)) (hR : Rep L k) (hB : Bs k) (hv : Sl w0 B v xs) (hw : Whole xs) (hP : k.pl.length + xs.length ≤ 1000000000) (hcs : k.cs.length ≤ 1000000000) :
    Calls Try.prog 22 #[.pointer (some ⟨r, 0, none⟩), v] w (AddPost w0 B r k.pl.length k.cs.length xs L) := by
  have d6 := hC.cells.2.2.2.2.2.2.1
  have f6 := hC.cells.2.2.2.2.2.2.2.2 6
  obtain ⟨av, cap0, hva, _, _⟩ := hv.open
  have HM : Hid (∀ (b : Bool), (b = true ↔ [] ∈ L ++ [xs]) → ∀ a : Act, AM a r v → Code.wp Try.prog (aMid Try.f22) (bodyPost Try.prog Try.f22 (AddPost w0 B r k.pl.length k.cs.length xs L)) a (w.setCell ⟨r, 6, none⟩ (.bool b))) := fun b hb a ha => add_mid (k := { k with empty := b }) ha (hC.setEmpty b) (hR.rq.empty b) ⟨hB.wl, hB.tlt, hB.ppl⟩ hb hv hw hP hcs
  cases hke : k.empty with
  | true =>
    have hb : (true = true ↔ [] ∈ L ++ [xs]) := ⟨fun _ => List.mem_append_left _ (hR.emp.1 hke), fun _ => rfl⟩
    have H := hide (unhide HM true hb)
    rw [hke] at d6
    rw [hva] at H ⊢
    clear hC hR hB hv hw hP hcs HM hb hke hva
    go_enter Try.func22, Try.ntmps22
    change Code.wp Try.prog (.seq (cL (aAll Try.f22)) (aMid Try.f22)) _ _ _
    conv => arg 2; arg 1; whnf
    go_wp2
    exact unhide H _ ⟨rfl, rfl, rfl, rfl⟩
  | false =>
    have hne : [] ∉ L := fun h => by have := hR.emp.2 h; rw [hke] at this; cases this
    obtain ⟨n, hn⟩ : ∃ n, xs.length = n := ⟨_, rfl⟩
    by_cases h0 : n = 0
    · have hx : xs = [] := List.eq_nil_of_length_eq_zero (hn.trans h0)
      have hb : (true = true ↔ [] ∈ L ++ [xs]) := ⟨fun _ => by simp [hx], fun _ => rfl⟩
      have H := hide (unhide HM true hb)
      rw [hke] at d6
      rw [hva, hn] at H ⊢
      subst h0
      clear hC hR hB hv hw hP hcs HM hb hke hne hx hn hva
      go_enter Try.func22, Try.ntmps22
      change Code.wp Try.prog (.seq (cL (aAll Try.f22)) (aMid Try.f22)) _ _ _
      conv => arg 2; arg 1; whnf
      go_wp2
      exact unhide H _ ⟨rfl, rfl, rfl, rfl⟩
    · have hb : (false = true ↔ [] ∈ L ++ [xs]) := ⟨fun h => (by cases h), fun h => by
        rcases List.mem_append.1 h with h | h
        · exact absurd h hne
        · simp only [List.mem_singleton] at h
          rw [← h] at hn
          exact absurd hn.symm h0⟩
      have H := hide (unhide HM false hb)
      rw [hke] at d6
      rw [hva, hn] at H ⊢
      have hn0 : ((n : Int) == 0) = false := by simp; omega
      clear hC hR hB hv hw hP hcs HM hb hke hne hn h0 hva
      go_enter Try.func22, Try.ntmps22
      change Code.wp Try.prog (.seq (cL (aAll Try.f22)) (aMid Try.f22)) _ _ _
      conv => arg 2; arg 1; whnf
      go_wp2
      exact unhide H _ ⟨rfl, rfl, rfl, rfl⟩
end Go.Proofs.Ytmkkhpoedlbafaa
