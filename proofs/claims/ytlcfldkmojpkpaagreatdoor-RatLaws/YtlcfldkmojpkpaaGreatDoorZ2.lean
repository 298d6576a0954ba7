/- slices.Backward over a slice that the loop's body writes: the places from the top down, whatever stands there. -/
import Derived.Test.YtlcfldkmojpkpaaGreatDoorF
namespace Go.Proofs.YtlcfldkmojpkpaaGreatDoor
open Go.RowKit Go.Shelf
attribute [local go_sem] Oper.semAt_some

/-- A box is kept, and a row of so many uint32s stays one. -/
def KpO (p q n : Nat) (W W' : World) : Prop := W'.heap[p]? = W.heap[p]? ∧ ∀ zs : List Int, zs.length = n → At W q 0 zs → ∃ zs' : List Int, zs'.length = n ∧ At W' q 0 zs'
theorem KpO.refl (p q n : Nat) (W : World) : KpO p q n W W := ⟨rfl, fun zs h1 h2 => ⟨zs, h1, h2⟩⟩
theorem kpO_t {p q n : Nat} {A B C : World} (h : KpO p q n A B) (k : KpO p q n B C) : KpO p q n A C := ⟨k.1.trans h.1, fun zs h1 h2 => by
  obtain ⟨zs', a, b⟩ := h.2 zs h1 h2
  exact k.2 zs' a b⟩
theorem kpO_b {p q n : Nat} {w : World} (hp : p < w.heap.size) (hq : q < w.heap.size) (W : World) (l : Nat) (o o' : Obj) (hl : w.heap.size ≤ l) (_ : W.heap[l]? = some o) (_ : o.isCells = false) (_ : o.isWalk = false) : KpO p q n W (W.putObj l o') :=
  ⟨World.putObj_heap_other (by omega), fun zs h1 h2 => ⟨zs, h1, fun j hj => (World.cell?_of_block (w := W) (a := ⟨q, 0 + j, none⟩) (World.putObj_heap_other (by show q ≠ l; omega))).trans (h2 j hj)⟩⟩

set_option maxRecDepth 100000 in
set_option maxHeartbeats 1000000 in
theorem backo_in (l Bs b n cap : Nat) (hl : n ≤ 1000000) (hcap : n ≤ cap) (J Jx : List (Fin n × Int) → World → Prop)
    (hY : ∀ pre (x : Fin n × Int) W, J pre W → pre.length < n → YieldAt Fence.wide (9 - 1) Tryz.prog l #[.int .i64 (x.1.1 : Int), (.int .u32 x.2)] W fun e W' =>
      (e = .returned (.bool true) ∧ J (pre ++ [x]) W' ∧ KpO Bs b n W W') ∨ (e = .returned (.bool false) ∧ Jx (pre ++ [x]) W'))
    (W : World) (zs : List Int) (hzl : zs.length = n) (hBs : W.cell? ⟨Bs, 0, none⟩ = some (.slice (some ⟨b, 0, none⟩) n cap)) (hc : At W b 0 zs) (h0 : J [] W) :
    CallsIn Fence.wide 9 Tryz.prog 100 #[.func (.yield l) #[] #[], .pointer (some ⟨Bs, 0, none⟩)] W fun e W' => (∃ v, e = .returned v) ∧
      ((∃ ys : List (Fin n × Int), ys.map Prod.fst = dn n ∧ J ys W') ∨ (∃ pre : List (Fin n × Int), (∃ k, k ≤ n ∧ pre.map Prod.fst = (dn n).take k) ∧ Jx pre W')) := by
  refine callsIn_of_wp Tryz.func100 rfl trivial ?_ rfl
  simp only [Tryz.ntmps100, List.size_toArray, List.length_cons, List.length_nil, Nat.reduceAdd, Nat.reduceSub, Array.replicate_succ, Array.replicate_zero, List.push_toArray, List.append_toArray, List.nil_append, List.cons_append]
  gi_wp2
  gi_loopw [3] (fun i wr => ∃ (k : Nat) (pre : List (Fin n × Int)), k ≤ n ∧ i = .int .i64 ((n : Int) - 1 - k) ∧ pre.map Prod.fst = (dn n).take k ∧ J pre wr ∧ KpO Bs b n W wr)
    (fun i _ => (intOf i + 1).toNat)
  case atStart => exact ⟨0, [], Nat.zero_le _, by simp, by simp, h0, KpO.refl _ _ _ _⟩
  case round =>
    obtain ⟨k, pre, hk, rfl, hpre, hJs, hkp⟩ := hrel
    have hBr : wr.cell? ⟨Bs, 0, none⟩ = some (.slice (some ⟨b, 0, none⟩) n cap) := (World.cell?_of_block (w := W) hkp.1).trans hBs
    obtain ⟨zr, hzr, hcr⟩ := hkp.2 zs hzl hc
    have hpl : pre.length = k := by
      have := congrArg List.length hpre
      simp [dn_length] at this
      omega
    by_cases hlt : k < n
    · have hfin : n - 1 - k < n := by omega
      obtain ⟨fn, tmps, assign, body, hy, hR⟩ := hY pre ((⟨n - 1 - k, hfin⟩ : Fin n), dg zr (n - 1 - k)) wr hJs (by omega)
      dsimp only at hy
      have hcx : wr.cell? ⟨b, n - 1 - k, none⟩ = some (.int .u32 (dg zr (n - 1 - k))) := by
        have := hcr (n - 1 - k) (by omega)
        rwa [Nat.zero_add] at this
      have hix : (n : Int) - 1 - k = ((n - 1 - k : Nat) : Int) := by omega
      have hnn : (0 : Int) ≤ (n : Int) - 1 - k := by omega
      have HP := hide hpre
      have HZ := hide hzr
      clear hpre hzr
      rw [hix]
      gi_wp2
      refine hR.mono ?_
      rintro e W3 (⟨rfl, hJ3, hk3⟩ | ⟨rfl, hJx3⟩)
      · gi_wp2
        go_roundw
        case rel => exact ⟨k + 1, _, by omega, by simp; omega, by rw [dn_take_succ _ _ hlt, List.map_append, unhide HP]; rfl, hJ3, kpO_t hkp hk3⟩
        case measure => simp [intOf] <;> omega
      · gi_wp2
        refine bodyPost_ret (results_none rfl _ _ _) rfl ?_
        exact ⟨⟨_, rfl⟩, .inr ⟨_, ⟨k + 1, by omega, by rw [dn_take_succ _ _ hlt, List.map_append, unhide HP]; rfl⟩, hJx3⟩⟩
    · obtain rfl : k = n := by omega
      gi_wp2
      go_end0
      exact ⟨⟨_, rfl⟩, .inl ⟨pre, by rw [hpre, List.take_of_length_le (by rw [dn_length]; omega)], hJs⟩⟩

/-- .. as the rule of a loop over it takes it. -/
theorem backo_stops (Bs b n cap : Nat) (hl : n ≤ 1000000) (hcap : n ≤ cap) (w : World) (hBs : Bs < w.heap.size) (hb : b < w.heap.size) (zs : List Int) (hzl : zs.length = n)
    (hc : w.cell? ⟨Bs, 0, none⟩ = some (.slice (some ⟨b, 0, none⟩) n cap)) (hat : At w b 0 zs) :
    SeqStopsK Fence.wide 9 Tryz.prog 100 #[.pointer (some ⟨Bs, 0, none⟩)] (fun x : Fin n × Int => #[Value.int .i64 (x.1.1 : Int), Value.int .u32 x.2]) (KpO Bs b n) (fun ys => ys.map Prod.fst = dn n)
      (fun pre => ∃ k, k ≤ n ∧ pre.map Prod.fst = (dn n).take k) n w := fun l J Jx W hW _ _ hY h0 =>
  backo_in l Bs b n cap hl hcap J Jx hY W zs hzl ((hW.cell (p := ⟨Bs, 0, none⟩) hBs).trans hc) (fun j hj => (hW.cell (p := ⟨b, 0 + j, none⟩) hb).trans (hat j hj)) h0

end Go.Proofs.YtlcfldkmojpkpaaGreatDoor
