/- Package rup: newChecker. -/
import Derived.Test.YtmkkhpoedlbafaaQQ
set_option linter.unusedVariables false
set_option linter.unusedSimpArgs false

namespace Go.Proofs.Ytmkkhpoedlbafaa
open Go Go.RowKit Go.Sort
/-- So many literals and clauses. -/
def tot (ls : List (List Int)) : Nat := (ls.map fun c => c.length + 1).sum
theorem tot_app (ls ms : List (List Int)) : tot (ls ++ ms) = tot ls + tot ms := by simp [tot, List.sum_append]
theorem tot_take (ls : List (List Int)) (i : Nat) : tot (ls.take i) ≤ tot ls := by
  have := tot_app (ls.take i) (ls.drop i)
  rw [List.take_append_drop] at this
  omega
theorem take_one' {ls : List (List Int)} {i : Nat} {c : List Int} (h : ls[i]? = some c) : ls.take (i + 1) = ls.take i ++ [c] := by
  rw [List.take_add_one, h]; rfl
theorem tot_one (c : List Int) : tot [c] = c.length + 1 := by simp [tot]
theorem Rep.skip {L : List (List Int)} {k : KS} {e : List Int} (h : Rep L k) (hn : ¬ Whole e) : Rep (L ++ [e]) k := by
  refine ⟨fun r => (h.yes r).mono inl fun _ h => h, fun r => ?_, ?_⟩
  · obtain ⟨s0, s1, s2⟩ := h.no r
    have s := s0.moreL (L' := L ++ [e]) inl
    refine ⟨⟨s.ppl, s.wl, s.tlt, s.tnd, s.tcon, s.hn, s.cl, s.wnd, s.wat, s.fr, fun d hd hw => ?_, s.up, s.bw⟩, s1, s2⟩
    rcases List.mem_append.1 hd with hd | hd
    · exact s.to d hd hw
    · simp only [List.mem_singleton] at hd
      subst hd
      exact absurd hw hn
  · rw [h.emp, List.mem_append, List.mem_singleton]
    constructor
    · exact .inl
    · rintro (h | rfl)
      · exact h
      · exact absurd (fun x hx => by cases hx) hn
/-- A checker of no clauses, in new memory. -/
def zeroCk (m : Nat) : Array Value := #[.map (some m), .slice none 0 0, .slice none 0 0, .slice none 0 0, .slice none 0 0, .int .i64 0, .bool false, .bool false]
def ρ0 (m : Nat) : Nat → Nat × Nat := fun g => if g = m then (1, 0) else if g = m + 1 then (0, 0) else (8, 8)
theorem Ck.new (w : World) : Ck w ((w.alloc (.map #[] 0)).alloc (.cells (zeroCk w.heap.size) 50)) w.heap.size (w.heap.size + 1) (ρ0 w.heap.size) ⟨w.heap.size, .slice none 0 0, .slice none 0 0, .slice none 0 0, .slice none 0 0, [], []⟩ KS.nil (trs (2 * KS.nil.pl.length) KS.nil.trail) := by
  have e : (w.alloc (.map #[] 0)).heap.size = w.heap.size + 1 := World.size_alloc w _
  have h1 := MapKept.heap_alloc w (.map #[] 0)
  have h2 := MapKept.heap_alloc (w.alloc (.map #[] 0)) (.cells (zeroCk w.heap.size) 50)
  rw [e] at h2
  have hrow : ∀ (W : World) (B : Nat) (ρ : Nat → Nat × Nat) (role : Nat × Nat) (t : TypeId) (s : Nat), Rw W B ρ role t s (.slice none 0 0) 0 [] := fun W B ρ role t s => ⟨⟨by simp, .inl ⟨rfl, rfl⟩⟩, fun g h => by cases h⟩
  refine ⟨h2.1, Nat.le_succ _, ?_, ⟨#[], 0, (h2.2 w.heap.size (Nat.lt_succ_self _)).trans h1.1, rfl, fun j a h => by simp [KS.nil] at h⟩, Nat.le_refl _, if_pos rfl, hrow _ _ _ _ _ _, rfl, fun i v c h => by simp at h, hrow _ _ _ _ _ _, fun i v c h => by simp at h, ?_, hrow _ _ _ _ _ _, ((Below.refl _ w).alloc (Nat.le_refl _) _).alloc (by rw [e]; omega) _⟩
  · unfold ρ0; rw [if_neg (by omega), if_pos rfl]
  · exact hrow _ _ _ _ _ _
theorem Bs.nil : Bs KS.nil := ⟨rfl, fun y hy => (by cases hy), Pl.nil⟩
def NCPost (w : World) (ls : List (List Int)) (e : Ending) (w' : World) : Prop := ∃ r k ρ q, e = .returned (.pointer (some ⟨r, 0, none⟩)) ∧ Ck w w' w.heap.size r ρ q k (trs (2 * k.pl.length) k.trail) ∧ Rep ls k ∧ Bs k ∧ k.pl.length + k.cs.length ≤ tot ls
/-- Behind so many clauses. -/
structure NR (w w' : World) (r : Nat) (ls : List (List Int)) (i : Nat) (k : KS) (ρ : Nat → Nat × Nat) (q : Mv) : Prop where
  ck : Ck w w' w.heap.size r ρ q k (trs (2 * k.pl.length) k.trail)
  rep : Rep (ls.take i) k
  bs : Bs k
  len : k.pl.length + k.cs.length ≤ tot (ls.take i)
set_option maxRecDepth 100000 in
set_option maxHeartbeats 16000000 in
theorem newChecker_any (w : World) (v : Value) (ls : List (List Int)) (hv : Sl2 w w.heap.size v ls) (hT : tot ls ≤ 100000000) :
    Calls Try.prog 20 #[v] w (NCPost w ls) := by
  obtain ⟨a, cap, rfl, hmax, hcell⟩ := hv.open
  obtain ⟨n, hn⟩ : ∃ n, ls.length = n := ⟨_, rfl⟩
  have h0 : NR w ((w.alloc (.map #[] 0)).alloc (.cells (zeroCk w.heap.size) 50)) (w.heap.size + 1) ls 0 KS.nil (ρ0 w.heap.size) ⟨w.heap.size, .slice none 0 0, .slice none 0 0, .slice none 0 0, .slice none 0 0, [], []⟩ := ⟨Ck.new w, by rw [List.take_zero]; exact Rep.nil, Bs.nil, by simp [KS.nil]⟩
  have hsz : (w.alloc (.map #[] 0)).heap.size = w.heap.size + 1 := World.size_alloc w _
  have H0 := hide h0
  have HN := hide hn
  have HC := hide hcell
  have HT := hide hT
  rw [hn] at hmax ⊢
  have hnb : (n : Int) ≤ 100000000 := by
    have : ls.length ≤ tot ls := by
      clear hn hT HN HC HT H0 h0 hmax hcell hv
      induction ls with
      | nil => simp
      | cons c l ih => simp [tot] at ih ⊢; omega
    omega
  have km : (Instr.makeMap 46 none).run Try.prog w = .ok (.map (some w.heap.size)) (w.alloc (.map #[] 0)) := rfl
  clear hv h0 hn hcell hT
  go_enter Try.func20, Try.ntmps20
  go_wp2
  go_loopw [11] (fun iv w' => ∃ (i : Nat) (k : KS) (ρ : Nat → Nat × Nat) (q : Mv), iv = .int .i64 i ∧ i ≤ n ∧ NR w w' (w.heap.size + 1) ls i k ρ q) (fun iv _ => n - (intOf iv).toNat)
  case atStart => exact ⟨0, _, _, _, rfl, Nat.zero_le _, unhide H0⟩
  case round =>
    obtain ⟨i, k, ρ, q, rfl, him, hr⟩ := hrel
    clear H0 km
    by_cases hi : i < n
    · have hil : i < ls.length := by rw [unhide HN]; exact hi
      obtain ⟨b, off, u, hab, hc, hb, hS⟩ := unhide HC i hil
      subst hab
      obtain ⟨c, hcl⟩ : ∃ c, ls[i]? = some c := ⟨_, List.getElem?_eq_getElem hil⟩
      have hce : ls[i] = c := (List.getElem?_eq_some_iff.1 hcl).2
      rw [hce] at hS
      have hc2 := (hr.ck.bl.cell (p := ⟨b, off + i, none⟩) hb).trans hc
      have htk := take_one' hcl
      have htt := tot_take ls (i + 1)
      rw [htk, tot_app, tot_one] at htt
      have hT := unhide HT
      have hlen := hr.len
      have HI := hide (isClause_any w.heap.size u c _ (hS.below hr.ck.bl))
      obtain ⟨au, capu, hu, _, _⟩ := hS.open
      have p1 : (0 : Int) ≤ (i : Int) := by omega
      have p2 : (i : Int) < (n : Int) := by omega
      cases hwh : whB c with
      | false =>
        have hnw : ¬ Whole c := fun h => by have := whB_iff.2 h; rw [hwh] at this; cases this
        have HE : Hid (NR w _ (w.heap.size + 1) ls (i + 1) k ρ q) := ⟨hr.ck, by rw [htk]; exact hr.rep.skip hnw, hr.bs, by rw [htk, tot_app]; omega⟩
        have HW := hide hwh
        subst hu
        clear hr hS hc hcl hce htk htt hT hlen hwh hnw hil
        go_wp2_with (go_at_call 23; refine (unhide HI).mono ?_; rintro e w2 ⟨rfl, rfl⟩; rw [unhide HW])
        exact ⟨⟨i + 1, k, ρ, q, by simp, by omega, unhide HE⟩, by simp [intOf]; omega⟩
      | true =>
        have HA := hide (add_any w _ w.heap.size (w.heap.size + 1) ρ q k u c (ls.take i) hr.ck hr.rep hr.bs hS (whB_iff.1 hwh) (by omega) (by omega))
        have HE : Hid (∀ e w2, AddPost w w.heap.size (w.heap.size + 1) k.pl.length k.cs.length c (ls.take i) e w2 → e = .returned (.tuple #[]) ∧ ∃ k' ρ' q', NR w w2 (w.heap.size + 1) ls (i + 1) k' ρ' q') := by
          rintro e w2 ⟨rfl, k', ρ', q', a1, a2, a3, a4, a5⟩
          exact ⟨rfl, k', ρ', q', a1, by rw [htk]; exact a2, a3, by rw [htk, tot_app, tot_one]; omega⟩
        have HW := hide hwh
        subst hu
        clear hr hS hc hcl hce htk htt hT hlen hwh hil
        go_wp2_with (first
          | (go_at_call 23; refine (unhide HI).mono ?_; rintro e w2 ⟨rfl, rfl⟩; rw [unhide HW])
          | (go_at_call 22; refine (unhide HA).mono ?_; intro e w2 h2; obtain ⟨rfl, k', ρ', q', h3⟩ := unhide HE e w2 h2; have H3 := hide h3; clear h2 h3))
        exact ⟨⟨i + 1, k', ρ', q', by simp, by omega, unhide H3⟩, by simp [intOf]; omega⟩
    · have hf : decide ((i : Int) < (n : Int)) = false := by simp; omega
      have hle : (n : Int) ≤ (i : Int) := by omega
      have HE : Hid (∀ e, e = .returned (.pointer (some ⟨w.heap.size + 1, 0, none⟩)) → NCPost w ls e _) := fun e he => by
        have htk : ls.take i = ls := List.take_of_length_le (by rw [unhide HN]; omega)
        have h1 := hr.rep
        have h2 := hr.len
        rw [htk] at h1 h2
        exact ⟨w.heap.size + 1, k, ρ, q, he, hr.ck, h1, hr.bs, h2⟩
      clear hr
      go_wp2
      go_ret
      exact unhide HE _ rfl
end Go.Proofs.Ytmkkhpoedlbafaa
