/- The document's own memory (a list, of which each access makes another one), walked. The document's own places and walk. -/
import Derived.Test.YtbpfkhpnfkbacaaJ6
import Derived.Test.YtbpfkhpnfkbacaaJ12
namespace Go.Proofs.Ytbpfkhpnfkbacaa
open Go.RowKit
set_option linter.unusedVariables false

/-- A row that an append of words to nil has made. -/
def Fresh (B g n cap : Nat) (w0 wr : World) (zs : List Int) : Prop := wr.ownsRow B 39 1 (.slice (some ⟨g, 0, none⟩) n cap) n (zs.map (Value.int .u64)) ∧ Below B w0 wr ∧ zs.length = n
theorem Fresh.cell {B g n cap : Nat} {w0 wr : World} {zs : List Int} (h : Fresh B g n cap w0 wr zs) (i : Nat) (hi : i < n) : wr.cell? ⟨g, i, none⟩ = some (.int .u64 (zs.getD i 0)) ∧ wr.frozen? ⟨g, i, none⟩ = false := by
  refine ⟨?_, h.1.frozenAt i⟩
  rw [h.1.cellAt i (by omega)]
  exact map_get .u64 zs i (by rw [h.2.2]; exact hi)
theorem Fresh.lt {B g n cap : Nat} {w0 wr : World} {zs : List Int} (h : Fresh B g n cap w0 wr zs) : B ≤ g ∧ g < wr.heap.size := h.1.lt g rfl
theorem Fresh.set {B g n cap : Nat} {w0 wr : World} {zs : List Int} (h : Fresh B g n cap w0 wr zs) (i : Nat) (v : Int) : Fresh B g n cap w0 (wr.setCell ⟨g, i, none⟩ (.int .u64 v)) (zs.set i v) := by
  have s := (h.1.stored i (.int .u64 v)).1
  rw [← List.map_set] at s
  exact ⟨s, h.2.1.setCell h.lt.1 _, by rw [List.length_set]; exact h.2.2⟩
theorem Fresh.reads {B g n cap : Nat} {w0 wr : World} {zs : List Int} (h : Fresh B g n cap w0 wr zs) : Reads .u64 wr (some ⟨g, 0, none⟩) zs := fun _ =>
  ⟨g, 0, rfl, h.lt.2, fun j hj => by rw [Nat.zero_add]; exact (h.cell j (by rw [← h.2.2]; exact hj)).1⟩
/-- A slice of words in a block of this kind. -/
def ReadsW (P : Nat → Prop) (w : World) (A : Option Addr) (zs : List Int) : Prop :=
  0 < zs.length → ∃ b off, A = some ⟨b, off, none⟩ ∧ b < w.heap.size ∧ P b ∧ ∀ j, j < zs.length → w.cell? ⟨b, off + j, none⟩ = some (.int .u64 (zs.getD j 0))
theorem ReadsW.reads {P : Nat → Prop} {w : World} {A : Option Addr} {zs : List Int} (h : ReadsW P w A zs) : Reads .u64 w A zs := fun h0 => by
  obtain ⟨b, off, e, hlt, _, hc⟩ := h h0
  exact ⟨b, off, e, hlt, hc⟩
theorem ReadsW.upd {P Q : Nat → Prop} {S D : Nat} {w w' : World} {A : Option Addr} {zs : List Int} (h : ReadsW P w A zs) (u : Upd S D w w') (hP : ∀ b, P b → b < w.heap.size → b ≠ S ∧ b ≠ D ∧ Q b) : ReadsW Q w' A zs := fun h0 => by
  obtain ⟨b, off, e, hlt, hp, hc⟩ := h h0
  obtain ⟨h1, h2, h3⟩ := hP b hp hlt
  exact ⟨b, off, e, Nat.lt_of_lt_of_le hlt u.size, h3, fun j hj => (World.cell?_of_block (w := w) (a := ⟨b, off + j, none⟩) (u.block b hlt h1 h2)).trans (hc j hj)⟩
theorem ReadsW.below {P : Nat → Prop} {w w' : World} {A : Option Addr} {zs : List Int} (h : ReadsW P w A zs) (hb : Below w.heap.size w w') : ReadsW P w' A zs := fun h0 => by
  obtain ⟨b, off, e, hlt, hp, hc⟩ := h h0
  exact ⟨b, off, e, Nat.lt_of_lt_of_le hlt hb.size, hp, fun j hj => (hb.cell (p := ⟨b, off + j, none⟩) hlt).trans (hc j hj)⟩
theorem Reads.toP {P : Nat → Prop} {w : World} {A : Option Addr} {zs : List Int} (h : Reads .u64 w A zs) (hP : ∀ b, b < w.heap.size → P b) : ReadsW P w A zs := fun h0 => by
  obtain ⟨b, off, e, hlt, hc⟩ := h h0
  exact ⟨b, off, e, hlt, hP b hlt, hc⟩
theorem Fresh.readsW {P : Nat → Prop} {B g n cap : Nat} {w0 wr : World} {zs : List Int} (h : Fresh B g n cap w0 wr zs) (hP : ∀ b, B ≤ b → P b) : ReadsW P wr (some ⟨g, 0, none⟩) zs := fun _ =>
  ⟨g, 0, rfl, h.lt.2, hP g h.lt.1, fun j hj => by rw [Nat.zero_add]; exact (h.cell j (by rw [← h.2.2]; exact hj)).1⟩

theorem append_words {w : World} {ops : Array Oper} {rest : List Oper} {o : Oper} {a : Act} {Q : Exit → Act → World → Prop} (hg : o.guard = none) (s x : Operand)
    (ho : o.op = .call { callee := .builtin .append, args := #[s, x], argTypes := #[25, 25] })
    (A : Option Addr) (n cap : Nat) (zs : List Int) (hs : a.eval s = .slice none 0 0) (hx : a.eval x = .slice A n cap) (hn : n = zs.length) (h0 : 0 < n) (hl : n ≤ 1000000) (hr : Reads .u64 w A zs)
    (h : ∀ g cap' w', Fresh w.heap.size g n cap' w w' zs → wpList Try.prog ops Q rest (a.put o.dst (.slice (some ⟨g, 0, none⟩) n cap')) w') :
    wpList Try.prog ops Q (o :: rest) a w := by
  obtain ⟨i0, hi0, hz0, hz1, hz2⟩ := info_parts info34
  obtain ⟨b, off, rfl, hlt, hc⟩ := hr (by omega)
  refine wpList_append_own _ hg s x 25 ho w.heap.size 39 i0 _ 1 8 Try.underlying25 hi0 hz0 hz1 hz2 rfl (by decide) _ 0 [] hs (World.ownsRow_nil _ _ _ _) ⟨b, off, none⟩ n cap (zs.map (Value.int .u64)) hx (by simp [hn]) ?_ ?_ (by unfold maxLen; omega) (by omega) (by omega) ?_
  · intro j u hj
    rcases Nat.lt_or_ge j zs.length with hj' | hj'
    · rw [map_get .u64 zs j hj'] at hj
      cases hj
      rw [add_off]; exact hc j hj'
    · rw [List.getElem?_eq_none (by simpa using hj')] at hj; cases hj
  · intro u hu
    obtain ⟨y, _, rfl⟩ := List.mem_map.1 hu
    rfl
  · intro v' w' h1 h2 _
    rw [Nat.zero_add, List.nil_append] at h1
    obtain ⟨g, cap', rfl⟩ : ∃ g cap', v' = .slice (some ⟨g, 0, none⟩) n cap' := by
      rcases h1.2 with ⟨_, e⟩ | ⟨g, cap', cur, e, _⟩
      · omega
      · exact ⟨g, cap', e⟩
    exact h g cap' w' ⟨h1, (Below.refl _ _).grown h2 (Nat.le_refl _) (fun k hk => by cases hk), hn.symm⟩

set_option maxHeartbeats 1000000 in
theorem rload_any (A : Option Addr) (n cap : Nat) (zs : List Int) (at' : Int) (w : World) (hn : n = zs.length) (h : Reads .u64 w A zs) :
    Calls Try.prog 54 #[.slice A n cap, .int .i64 at'] w fun e w' => e = .returned (.int .u64 (ldv zs at')) ∧ w = w' := by
  cases hb : inB zs at'
  · have e : ldv zs at' = 0 := by unfold ldv; rw [if_neg (by rw [hb]; simp)]
    have hno := in_no hb
    rw [e]
    by_cases hz : at' < 0
    · have ht : decide (at' < 0) = true := by simpa using hz
      clear hb e hno h hn
      go_enter Try.func54, Try.ntmps54
      go_wp2_with (fail)
      go_ret
      exact ⟨rfl, rfl⟩
    · have ht : decide (at' < 0) = false := by simpa using hz
      have ht2 : decide (at' ≥ (n : Int)) = true := by simp; omega
      have ht3 : (n : Int) ≤ at' := by omega
      clear hb e hno h hn
      go_enter Try.func54, Try.ntmps54
      go_wp2_with (fail)
      go_ret
      exact ⟨rfl, rfl⟩
  · have hi := in_yes hb
    obtain ⟨i, rfl⟩ : ∃ i : Nat, at' = (i : Int) := ⟨at'.toNat, by omega⟩
    have e : ldv zs i = zs.getD i 0 := by unfold ldv; rw [if_pos hb]; simp
    rw [e]
    obtain ⟨b, off, rfl, hlt, hc⟩ := h (by omega)
    have hcl := hc i (by omega)
    obtain ⟨z, hz⟩ : ∃ z, z = zs.getD i 0 := ⟨_, rfl⟩
    rw [← hz] at hcl ⊢
    have hi0 : (0 : Int) ≤ (i : Int) := by omega
    have hi1 : (i : Int) < (n : Int) := by omega
    clear hb e hn hz hi hc h hlt
    go_enter Try.func54, Try.ntmps54
    go_wp2_with (fail)
    go_ret
    exact ⟨rfl, rfl⟩

/-- A slice that reads as these, apart from both blocks. -/
def SomeSl (P : Nat → Prop) (w : World) (n : Nat) (zs : List Int) (e : Ending) (w' : World) : Prop :=
  ∃ A cap, e = .returned (.slice A n cap) ∧ ReadsW P w' A zs ∧ Below w.heap.size w w'

/-- The same, and a bool; and a word. -/
def SomeSlB (P : Nat → Prop) (w : World) (n : Nat) (zs : List Int) (b : Bool) (e : Ending) (w' : World) : Prop :=
  ∃ A cap, e = .returned (.tuple #[.slice A n cap, .bool b]) ∧ ReadsW P w' A zs ∧ Below w.heap.size w w'
end Go.Proofs.Ytbpfkhpnfkbacaa

namespace Go.Proofs.Ytbpfkhpnfkbacaa
open Go.RowKit
set_option linter.unusedVariables false
set_option linter.unusedSimpArgs false

abbrev kval (h : Int) (A : Option Addr) (n cap : Nat) : Value := .agg #[.int .i64 h, .slice A n cap]

set_option maxHeartbeats 1000000 in
theorem refAt_any (h : Int) (A : Option Addr) (n cap : Nat) (zs : List Int) (x : Int) (w : World) (hn : n = zs.length) (hR : Reads .i64 w A zs) (hl : n ≤ 1000000) (x0 : 0 ≤ x) (x1 : x ≤ 4294967295) :
    Calls Try.prog 79 #[kval h A n cap, .int .u32 x] w fun e w' => e = .returned (.int .i64 (atOf zs x)) ∧ Below w.heap.size w w' := by
  by_cases h1 : x < 1
  · have e : atOf zs x = -1 := by unfold atOf; rw [if_neg (by omega)]
    rw [e]
    have d1 : decide (x < 1) = true := by simpa using h1
    clear hR hl e hn
    go_enter Try.func79, Try.ntmps79
    go_wp2_with (fail)
    go_ret
    exact ⟨rfl, below_alloc0 (Below.refl _ _) _⟩
  · have d1 : decide (x < 1) = false := by simpa using h1
    by_cases h2 : (n : Int) < x
    · have e : atOf zs x = -1 := by unfold atOf; rw [if_neg (by omega)]
      rw [e]
      have d2 : decide (x > (n : Int)) = true := by simpa using h2
      clear hR hl e hn
      go_enter Try.func79, Try.ntmps79
      go_wp2_with (fail)
      go_ret
      exact ⟨rfl, below_alloc0 (Below.refl _ _) _⟩
    · have d2 : decide (x > (n : Int)) = false := by simpa using h2
      obtain ⟨i, hi⟩ : ∃ i : Nat, x - 1 = (i : Int) := ⟨(x - 1).toNat, by omega⟩
      have hi1 : i < n := by omega
      have e : atOf zs x = zs.getD i 0 := by unfold atOf; rw [if_pos (by omega), hi]; rfl
      rw [e]
      obtain ⟨b, off, rfl, hbl, hc2⟩ := hR (by omega)
      have c1 := hc2 i (by omega)
      have hi0 : (0 : Int) ≤ (i : Int) := by omega
      have hi2 : (i : Int) < (n : Int) := by omega
      obtain ⟨z, hzz⟩ : ∃ z, z = zs.getD i 0 := ⟨_, rfl⟩
      rw [← hzz] at c1 ⊢
      have c2 : (w.alloc (.cells #[.int .i64 h, .slice (some ⟨b, off, none⟩) n cap] 91)).cell? ⟨b, off + i, none⟩ = some (.int .i64 z) := ((below_alloc0 (Below.refl _ _) _).cell (p := ⟨b, off + i, none⟩) hbl).trans c1
      clear hR hc2 hl e hn hzz
      go_enter Try.func79, Try.ntmps79
      go_wp2_with (fail)
      go_ret
      exact ⟨rfl, below_alloc0 (Below.refl _ _) _⟩

def lenV : Value → Nat
  | .slice _ n _ => n
  | _ => 0
/-- Two cells of a box. -/
theorem box_kv {w : World} {h : Int} {A : Option Addr} {n cap : Nat} {w' : World} (hb : Below (w.heap.size + 1) (w.alloc (.cells #[.int .i64 h, .slice A n cap] 91)) w') :
    w'.cell? ⟨w.heap.size, 0, none⟩ = some (.int .i64 h) ∧ w'.cell? ⟨w.heap.size, 1, none⟩ = some (.slice A n cap) := by
  constructor
  · rw [hb.cell (p := ⟨w.heap.size, 0, none⟩) (by simp), World.cell?_alloc_at _ _ _ _ rfl]; rfl
  · rw [hb.cell (p := ⟨w.heap.size, 1, none⟩) (by simp), World.cell?_alloc_at _ _ _ _ rfl]; rfl

set_option maxHeartbeats 8000000 in
theorem refWalk_any (B : Option Addr) (m capB : Nat) (L : List Int) (h : Int) (A : Option Addr) (n cap : Nat) (zs : List Int) (most : Int) (w : World) (hm : m = L.length) (hL : Reads .u64 w B L) (ww : WW L) (hn : n = zs.length) (hR : Reads .i64 w A zs) (hl : n ≤ 1000000) (hmo : most ≤ 1000) :
    Calls Try.prog 52 #[.slice B m capB, kval h A n cap, .int .i64 most] w fun e w' => ∃ v, e = .returned v ∧ OwnI .i64 3 (w.heap.size + 1) (w.alloc (.cells #[.int .i64 h, .slice A n cap] 91)) w' v (walkQ L ⟨h, zs⟩ most.toNat h) := by
  obtain ⟨W, hW⟩ : ∃ W, W = walkQ L ⟨h, zs⟩ most.toNat h := ⟨_, rfl⟩
  obtain ⟨w1, hw1⟩ : ∃ w1, w1 = w.alloc (.cells #[.int .i64 h, .slice A n cap] 91) := ⟨_, rfl⟩
  rw [← hW, ← hw1]
  have hb0 : w1.heap.size = w.heap.size + 1 := by rw [hw1]; simp
  have HW1 := Lib.hid hw1
  have HM := Lib.hid hm; have HN := Lib.hid hn; have HW := Lib.hid hW; have WW' := Lib.hid ww
  have HBel : Hid (Below w.heap.size w w1) := Lib.hid (by rw [hw1]; exact below_alloc0 (Below.refl _ _) _)
  have HL := Lib.hid hL; have HR := Lib.hid hR
  have hkc := fun (w' : World) (hb : Below (w.heap.size + 1) w1 w') => box_kv (h := h) (A := A) (n := n) (cap := cap) (by rw [← hw1]; exact hb)
  have HKC := Lib.hid hkc
  have hB0 : w.heap.size + 1 ≤ w1.heap.size := by omega
  have HB0 := Lib.hid hB0
  obtain ⟨k0, k1⟩ := hkc w1 (Below.refl _ _)
  clear hm hn hW ww hL hR hkc hB0 hb0
  go_enter Try.func52, Try.ntmps52
  go_wp2
  rw [← hw1]
  clear hw1
  go_loopw [7, 8] (fun v p wr => ∃ (Q0 : List Int) (f : Nat) (a : Int), p = .int .i64 a ∧ OwnI .i64 3 (w.heap.size + 1) w1 wr v Q0 ∧ Q0.length + f = most.toNat ∧ Q0 ++ walkQ L ⟨h, zs⟩ f a = W) (fun v _ _ => most.toNat - lenV v)
  case atStart => exact ⟨[], most.toNat, h, rfl, OwnI.nil (Below.refl _ _), by simp, by rw [HW.out]; rfl⟩
  case round =>
    obtain ⟨Q0, f, a, rfl, hO, hf, hres⟩ := hrel
    obtain ⟨A', c', rfl, _⟩ := hO.reads
    obtain ⟨C, hC⟩ : ∃ C, C = Q0.length := ⟨_, rfl⟩
    rw [← hC] at hf
    have hv : ∀ c'', Value.slice A' Q0.length c'' = Value.slice A' C c'' := fun _ => by rw [hC]
    rw [hv] at hO ⊢
    clear hv
    have HC := Lib.hid hC
    obtain ⟨z0, z1⟩ := HKC.out wr hO.bel
    obtain ⟨x, hx⟩ : ∃ x, x = low (ldq L a) := ⟨_, rfl⟩
    have HX := Lib.hid hx
    have ho : f = 0 ∨ x = 0 → OwnI .i64 3 (w.heap.size + 1) w1 wr (.slice A' C c') W := by
      intro h0
      have e : walkQ L ⟨h, zs⟩ f a = [] := by
        rw [walk_wlk, ← hx]
        cases f with
        | zero => rfl
        | succ f => rcases h0 with h0 | h0
                    · omega
                    · rw [h0]; unfold wlk; simp
      rw [← hres, e, List.append_nil]; exact hO
    by_cases hf0 : f = 0
    · have HE := Lib.hid (ho (.inl hf0))
      have d1 : decide ((C : Int) < most) = false := by simp; omega
      clear hO hres hC hx ho
      go_wp2_with (fail)
      go_ret
      exact ⟨_, rfl, HE.out⟩
    have d1 : decide ((C : Int) < most) = true := by simp; omega
    by_cases ha0 : a < 0
    · have HE := Lib.hid (ho (.inr (by rw [hx]; unfold ldq; rw [if_neg (by omega)]; rfl)))
      have d2 : decide (a ≥ 0) = false := by simp; omega
      clear hO hres hC hx ho
      go_wp2_with (fail)
      go_ret
      exact ⟨_, rfl, HE.out⟩
    have d2 : decide (a ≥ 0) = true := by simp; omega
    by_cases ha1 : (m : Int) ≤ a
    · have HE := Lib.hid (ho (.inr (by have := HM.out; rw [hx]; unfold ldq; rw [if_neg (by omega)]; rfl)))
      have d3 : decide (a < (m : Int)) = false := by simp; omega
      clear hO hres hC hx ho
      go_wp2_with (fail)
      go_ret
      exact ⟨_, rfl, HE.out⟩
    have d3 : decide (a < (m : Int)) = true := by simp; omega
    obtain ⟨i, rfl⟩ : ∃ i : Nat, a = (i : Int) := ⟨a.toNat, by omega⟩
    obtain ⟨g, hg⟩ : ∃ g, g = ldq L (i : Int) := ⟨_, rfl⟩
    have hgr := WW'.out.ldq (i : Int)
    rw [← hg] at hgr
    obtain ⟨g0, g1⟩ := hgr
    have hxg : x = g % 4294967296 := by rw [hx, ← hg]; rfl
    have HXG := Lib.hid hxg
    obtain ⟨b, off, rfl, hbl, hcL⟩ := HL.out (by have := HM.out; omega)
    have hgL : L.getD i 0 = g := by rw [hg]; unfold ldq; rw [if_pos (by have := HM.out; omega)]; simp
    have cg := hcL i (by have := HM.out; omega)
    rw [hgL] at cg
    have hw1 := HBel.out
    have hwr : Below w.heap.size w wr := hw1.trans (hO.bel.mono (Nat.le_succ _))
    have cw := (hwr.cell (p := ⟨b, off + i, none⟩) hbl).trans cg
    have hi0 : (0 : Int) ≤ (i : Int) := by omega
    have hi1 : (i : Int) < (m : Int) := by omega
    have x0 : 0 ≤ x := by omega
    have x1 : x ≤ 4294967295 := by omega
    by_cases hz : x = 0
    · have HE := Lib.hid (ho (.inr hz))
      have d4 : decide (x > 0) = false := by simp; omega
      clear hO hres hC hx ho hg hxg hgL hcL cg hw1 hwr
      subst hz
      go_wp2_with (first
        | (go_at_call 78; (with_reducible refine (refLow_any _ g0 g1 _).mono ?_); rintro r w5 ⟨rfl, hw⟩; cases hw; rw [← HXG.out])
        | fail)
      go_ret
      exact ⟨_, rfl, HE.out⟩
    have d4 : decide (x > 0) = true := by simp; omega
    have hq : Q0.length ≤ 100000 := by omega
    have HO := Lib.hid hO; have HQ := Lib.hid hq; have HRS := Lib.hid hres; have HZ := Lib.hid hz; have HF := Lib.hid hf
    have HWR := Lib.hid hwr
    have HF0 := Lib.hid hf0
    have HBl := Lib.hid hbl; have CG := Lib.hid cg
    clear hO hq hres hC hx ho hg hxg hgL hcL cg hw1 hwr hf hf0
    go_wp2_with (first
      | (go_at_call 78; (with_reducible refine (refLow_any _ g0 g1 _).mono ?_); rintro r w5 ⟨rfl, hw⟩; cases hw; rw [← HXG.out])
      | (at_builtin; refine append_int rfl _ _ 55 3 rfl Try.underlying55 info3 _ _ _ _ rfl HO.out rfl ?_ ?_ ?_; (exact HQ.out); (exact HB0.out); intro v' w5 HO5; obtain ⟨A2, c2, hv', _⟩ := HO5.reads; rw [List.length_append, ← HC.out] at hv'; subst hv'; have HP := Lib.hid HO5; clear HO5)
      | fail)
    have hall : ∀ w', Below (w.heap.size + 1) w1 w' → (w'.cell? ⟨w.heap.size, 0, none⟩ = some (.int .i64 h) ∧ w'.cell? ⟨w.heap.size, 1, none⟩ = some (.slice A n cap) ∧ w'.cell? ⟨b, off + i, none⟩ = some (.int .u64 g)) := fun w' hb => by
      obtain ⟨p0, p1⟩ := HKC.out w' hb
      have hb2 : Below w.heap.size w w' := HBel.out.trans (hb.mono (Nat.le_succ _))
      exact ⟨p0, p1, (hb2.cell (p := ⟨b, off + i, none⟩) hbl).trans CG.out⟩
    have HS := Lib.hid hall
    have HPD := Lib.hid (HP.out.step HB0.out (Below.refl _ _).drew)
    have HRD := Lib.hid (HR.out.below (HBel.out.trans (HPD.out.bel.mono (Nat.le_succ _))) (Nat.le_refl _))
    obtain ⟨y0, y1, y2⟩ := hall w5 HP.out.bel
    clear hall z0 z1 cw k0 k1
    go_region_held3 (fun w' => w'.cell? ⟨w.heap.size, 0, none⟩ = some (.int .i64 h) ∧ w'.cell? ⟨w.heap.size, 1, none⟩ = some (.slice A n cap) ∧ w'.cell? ⟨b, off + i, none⟩ = some (.int .u64 g))
      (first | with_reducible exact HS.out _ HP2.out.bel | with_reducible exact HS.out _ HPD.out.bel | go_keep)
      (first
        | (go_at_call 78; (with_reducible refine (refLow_any _ g0 g1 _).mono ?_); rintro r w6 ⟨rfl, hw⟩; cases hw; rw [← HXG.out])
        | (go_at_call 79; (with_reducible refine (refAt_any h A n cap zs x _ HN.out HRD.out hl x0 x1).mono ?_); rintro r w7 ⟨rfl, hb⟩; have HP2 := Lib.hid (HPD.out.step HB0.out hb); clear hb)
        | fail)
    go_roundw
    case rel =>
      iterate apply Exists.intro
      refine And.intro ?_ rfl
      obtain ⟨f', hf'⟩ : ∃ f', f = f' + 1 := ⟨f - 1, by have := HF0.out; omega⟩
      refine ⟨Q0 ++ [x], f', _, rfl, HP2.out, ?_, ?_⟩
      · have := HF.out; have := HC.out; simp; omega
      · rw [← HRS.out, hf', walk_wlk, walk_wlk L ⟨h, zs⟩ (f' + 1), ← HX.out]
        conv => rhs; unfold wlk
        rw [if_neg HZ.out]; simp
    case measure =>
      have := HF.out; have := HF0.out
      show most.toNat - (C + 1) < most.toNat - C
      omega
end Go.Proofs.Ytbpfkhpnfkbacaa
