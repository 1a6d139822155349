/- The document's own memory (a list, of which each access makes another one), walked. -/
import Derived.Test.YtbpkcoemehmpbaaGreatJ2
namespace Go.Proofs.YtbpkcoemehmpbaaGreat
open Go.RowKit
set_option linter.unusedVariables false

/-- A row that an append of words to nil has made. -/
def Fresh (B g n cap : Nat) (w0 wr : World) (zs : List Int) : Prop := wr.ownsRow B 25 1 (.slice (some ⟨g, 0, none⟩) n cap) n (zs.map (Value.int .u64)) ∧ Below B w0 wr ∧ zs.length = n
theorem Fresh.cell {B g n cap : Nat} {w0 wr : World} {zs : List Int} (h : Fresh B g n cap w0 wr zs) (i : Nat) (hi : i < n) : wr.cell? ⟨g, i, none⟩ = some (.int .u64 (zs.getD i 0)) ∧ wr.frozen? ⟨g, i, none⟩ = false := by
  refine ⟨?_, h.1.frozenAt i⟩
  rw [h.1.cellAt i (by omega)]
  exact map_get .u64 zs i (by rw [h.2.2]; exact hi)
theorem Fresh.lt {B g n cap : Nat} {w0 wr : World} {zs : List Int} (h : Fresh B g n cap w0 wr zs) : B ≤ g ∧ g < wr.heap.size := h.1.lt g rfl
theorem Fresh.set {B g n cap : Nat} {w0 wr : World} {zs : List Int} (h : Fresh B g n cap w0 wr zs) (i : Nat) (v : Int) : Fresh B g n cap w0 (wr.setCell ⟨g, i, none⟩ (.int .u64 v)) (zs.set i v) := by
  have s := (h.1.stored i (.int .u64 v)).1
  rw [← List.map_set] at s
  exact ⟨s, h.2.1.setCell h.lt.1 _, by rw [List.length_set]; exact h.2.2⟩
theorem Fresh.reads {B g n cap : Nat} {w0 wr : World} {zs : List Int} (h : Fresh B g n cap w0 wr zs) : Reads .u64 wr (some ⟨g, 0, none⟩) zs := fun _ =>
  ⟨g, 0, rfl, h.lt.2, fun j hj => by rw [Nat.zero_add]; exact (h.cell j (by rw [← h.2.2]; exact hj)).1⟩
/-- A slice of words in a block of this kind. -/
def ReadsW (P : Nat → Prop) (w : World) (A : Option Addr) (zs : List Int) : Prop :=
  0 < zs.length → ∃ b off, A = some ⟨b, off, none⟩ ∧ b < w.heap.size ∧ P b ∧ ∀ j, j < zs.length → w.cell? ⟨b, off + j, none⟩ = some (.int .u64 (zs.getD j 0))
theorem ReadsW.reads {P : Nat → Prop} {w : World} {A : Option Addr} {zs : List Int} (h : ReadsW P w A zs) : Reads .u64 w A zs := fun h0 => by
  obtain ⟨b, off, e, hlt, _, hc⟩ := h h0
  exact ⟨b, off, e, hlt, hc⟩
theorem ReadsW.upd {P Q : Nat → Prop} {S D : Nat} {w w' : World} {A : Option Addr} {zs : List Int} (h : ReadsW P w A zs) (u : Upd S D w w') (hP : ∀ b, P b → b < w.heap.size → b ≠ S ∧ b ≠ D ∧ Q b) : ReadsW Q w' A zs := fun h0 => by
  obtain ⟨b, off, e, hlt, hp, hc⟩ := h h0
  obtain ⟨h1, h2, h3⟩ := hP b hp hlt
  exact ⟨b, off, e, Nat.lt_of_lt_of_le hlt u.size, h3, fun j hj => (World.cell?_of_block (w := w) (a := ⟨b, off + j, none⟩) (u.block b hlt h1 h2)).trans (hc j hj)⟩
theorem ReadsW.below {P : Nat → Prop} {w w' : World} {A : Option Addr} {zs : List Int} (h : ReadsW P w A zs) (hb : Below w.heap.size w w') : ReadsW P w' A zs := fun h0 => by
  obtain ⟨b, off, e, hlt, hp, hc⟩ := h h0
  exact ⟨b, off, e, Nat.lt_of_lt_of_le hlt hb.size, hp, fun j hj => (hb.cell (p := ⟨b, off + j, none⟩) hlt).trans (hc j hj)⟩
theorem Reads.toP {P : Nat → Prop} {w : World} {A : Option Addr} {zs : List Int} (h : Reads .u64 w A zs) (hP : ∀ b, b < w.heap.size → P b) : ReadsW P w A zs := fun h0 => by
  obtain ⟨b, off, e, hlt, hc⟩ := h h0
  exact ⟨b, off, e, hlt, hP b hlt, hc⟩
theorem Fresh.readsW {P : Nat → Prop} {B g n cap : Nat} {w0 wr : World} {zs : List Int} (h : Fresh B g n cap w0 wr zs) (hP : ∀ b, B ≤ b → P b) : ReadsW P wr (some ⟨g, 0, none⟩) zs := fun _ =>
  ⟨g, 0, rfl, h.lt.2, hP g h.lt.1, fun j hj => by rw [Nat.zero_add]; exact (h.cell j (by rw [← h.2.2]; exact hj)).1⟩

theorem append_words {w : World} {ops : Array Oper} {rest : List Oper} {o : Oper} {a : Act} {Q : Exit → Act → World → Prop} (hg : o.guard = none) (s x : Operand)
    (ho : o.op = .call { callee := .builtin .append, args := #[s, x], argTypes := #[42, 42] })
    (A : Option Addr) (n cap : Nat) (zs : List Int) (hs : a.eval s = .slice none 0 0) (hx : a.eval x = .slice A n cap) (hn : n = zs.length) (h0 : 0 < n) (hl : n ≤ 1000000) (hr : Reads .u64 w A zs)
    (h : ∀ g cap' w', Fresh w.heap.size g n cap' w w' zs → wpList Tryz.prog ops Q rest (a.put o.dst (.slice (some ⟨g, 0, none⟩) n cap')) w') :
    wpList Tryz.prog ops Q (o :: rest) a w := by
  obtain ⟨i0, hi0, hz0, hz1, hz2⟩ := info_parts info34
  obtain ⟨b, off, rfl, hlt, hc⟩ := hr (by omega)
  refine wpList_append_own _ hg s x 42 ho w.heap.size 25 i0 _ 1 8 Tryz.underlying42 hi0 hz0 hz1 hz2 rfl (by decide) _ 0 [] hs (World.ownsRow_nil _ _ _ _) ⟨b, off, none⟩ n cap (zs.map (Value.int .u64)) hx (by simp [hn]) ?_ ?_ (by unfold maxLen; omega) (by omega) (by omega) ?_
  · intro j u hj
    rcases Nat.lt_or_ge j zs.length with hj' | hj'
    · rw [map_get .u64 zs j hj'] at hj
      cases hj
      rw [add_off]; exact hc j hj'
    · rw [List.getElem?_eq_none (by simpa using hj')] at hj; cases hj
  · intro u hu
    obtain ⟨y, _, rfl⟩ := List.mem_map.1 hu
    rfl
  · intro v' w' h1 h2 _
    rw [Nat.zero_add, List.nil_append] at h1
    obtain ⟨g, cap', rfl⟩ : ∃ g cap', v' = .slice (some ⟨g, 0, none⟩) n cap' := by
      rcases h1.2 with ⟨_, e⟩ | ⟨g, cap', cur, e, _⟩
      · omega
      · exact ⟨g, cap', e⟩
    exact h g cap' w' ⟨h1, (Below.refl _ _).grown h2 (Nat.le_refl _) (fun k hk => by cases hk), hn.symm⟩

set_option maxHeartbeats 1000000 in
theorem rload_any (A : Option Addr) (n cap : Nat) (zs : List Int) (at' : Int) (w : World) (hn : n = zs.length) (h : Reads .u64 w A zs) :
    Calls Tryz.prog 43 #[.slice A n cap, .int .i64 at'] w fun e w' => e = .returned (.int .u64 (ldv zs at')) ∧ w = w' := by
  cases hb : inB zs at'
  · have e : ldv zs at' = 0 := by unfold ldv; rw [if_neg (by rw [hb]; simp)]
    have hno := in_no hb
    rw [e]
    by_cases hz : at' < 0
    · have ht : decide (at' < 0) = true := by simpa using hz
      clear hb e hno h hn
      go_enter Tryz.func43, Tryz.ntmps43
      go_wp2_with (fail)
      go_ret
      exact ⟨rfl, rfl⟩
    · have ht : decide (at' < 0) = false := by simpa using hz
      have ht2 : decide (at' ≥ (n : Int)) = true := by simp; omega
      have ht3 : (n : Int) ≤ at' := by omega
      clear hb e hno h hn
      go_enter Tryz.func43, Tryz.ntmps43
      go_wp2_with (fail)
      go_ret
      exact ⟨rfl, rfl⟩
  · have hi := in_yes hb
    obtain ⟨i, rfl⟩ : ∃ i : Nat, at' = (i : Int) := ⟨at'.toNat, by omega⟩
    have e : ldv zs i = zs.getD i 0 := by unfold ldv; rw [if_pos hb]; simp
    rw [e]
    obtain ⟨b, off, rfl, hlt, hc⟩ := h (by omega)
    have hcl := hc i (by omega)
    obtain ⟨z, hz⟩ : ∃ z, z = zs.getD i 0 := ⟨_, rfl⟩
    rw [← hz] at hcl ⊢
    have hi0 : (0 : Int) ≤ (i : Int) := by omega
    have hi1 : (i : Int) < (n : Int) := by omega
    clear hb e hn hz hi hc h hlt
    go_enter Tryz.func43, Tryz.ntmps43
    go_wp2_with (fail)
    go_ret
    exact ⟨rfl, rfl⟩

/-- A slice that reads as these, apart from both blocks. -/
def SomeSl (P : Nat → Prop) (w : World) (n : Nat) (zs : List Int) (e : Ending) (w' : World) : Prop :=
  ∃ A cap, e = .returned (.slice A n cap) ∧ ReadsW P w' A zs ∧ Below w.heap.size w w'

set_option maxHeartbeats 2000000 in
theorem rput_any (P : Nat → Prop) (A : Option Addr) (n cap : Nat) (zs : List Int) (at' v : Int) (w : World) (hn : n = zs.length) (hl : n ≤ 1000000) (h : ReadsW P w A zs) (hP : ∀ b, w.heap.size ≤ b → P b) :
    Calls Tryz.prog 14 #[.slice A n cap, .int .i64 at', .int .u64 v] w (SomeSl P w n (ptv zs at' v)) := by
  cases hb : inB zs at'
  · have e : ptv zs at' v = zs := by unfold ptv; rw [if_neg (by rw [hb]; simp)]
    have hno := in_no hb
    rw [e]
    have H := Lib.hid h
    by_cases hz : at' < 0
    · have ht : decide (at' < 0) = true := by simpa using hz
      clear hb e hno h hn
      go_enter Tryz.func14, Tryz.ntmps14
      go_wp2_with (fail)
      go_ret
      exact ⟨A, cap, rfl, H.out, Below.refl _ _⟩
    · have ht : decide (at' < 0) = false := by simpa using hz
      have ht2 : decide (at' ≥ (n : Int)) = true := by simp; omega
      have ht3 : (n : Int) ≤ at' := by omega
      clear hb e hno h hn
      go_enter Tryz.func14, Tryz.ntmps14
      go_wp2_with (fail)
      go_ret
      exact ⟨A, cap, rfl, H.out, Below.refl _ _⟩
  · have hi := in_yes hb
    obtain ⟨i, rfl⟩ : ∃ i : Nat, at' = (i : Int) := ⟨at'.toNat, by omega⟩
    have e : ptv zs i v = zs.set i v := by unfold ptv; rw [if_pos hb]; simp
    rw [e]
    have H := Lib.hid h.reads
    have HI : Hid (i < n) := Lib.hid (by omega)
    have hi0 : (0 : Int) ≤ (i : Int) := by omega
    have hi1 : (i : Int) < (n : Int) := by omega
    have hn0 : 0 < n := by omega
    have HN := Lib.hid hn
    clear hb e hn hi h
    go_enter Tryz.func14, Tryz.ntmps14
    go_wp2_with (first
      | (at_builtin; refine append_words rfl _ _ rfl A n cap zs rfl rfl HN.out hn0 hl H.out ?_; intro g cap' w1 hf; obtain ⟨hcl, hfr⟩ := hf.cell i HI.out; have HF := Lib.hid (hf.set i v); clear hf)
      | fail)
    go_ret
    exact ⟨_, _, rfl, HF.out.readsW hP, HF.out.2.1⟩

/-- The same, and a bool; and a word. -/
def SomeSlB (P : Nat → Prop) (w : World) (n : Nat) (zs : List Int) (b : Bool) (e : Ending) (w' : World) : Prop :=
  ∃ A cap, e = .returned (.tuple #[.slice A n cap, .bool b]) ∧ ReadsW P w' A zs ∧ Below w.heap.size w w'
set_option maxHeartbeats 2000000 in
theorem rswap_any (P : Nat → Prop) (A : Option Addr) (n cap : Nat) (zs : List Int) (at' o v : Int) (w : World) (hn : n = zs.length) (hl : n ≤ 1000000) (h : ReadsW P w A zs) (hP : ∀ b, w.heap.size ≤ b → P b) :
    Calls Tryz.prog 80 #[.slice A n cap, .int .i64 at', .int .u64 o, .int .u64 v] w (SomeSlB P w n (swv zs at' o v) (swB zs at' o)) := by
  cases hb : inB zs at'
  · have e : swB zs at' o = false := by unfold swB; rw [hb]; rfl
    have e2 : swv zs at' o v = zs := by unfold swv; rw [e]; simp
    have hno := in_no hb
    rw [e, e2]
    have H := Lib.hid h
    by_cases hz : at' < 0
    · have ht : decide (at' < 0) = true := by simpa using hz
      clear hb e e2 hno h hn
      go_enter Tryz.func80, Tryz.ntmps80
      go_wp2_with (fail)
      go_ret2
      exact ⟨A, cap, rfl, H.out, Below.refl _ _⟩
    · have ht : decide (at' < 0) = false := by simpa using hz
      have ht2 : decide (at' ≥ (n : Int)) = true := by simp; omega
      have ht3 : (n : Int) ≤ at' := by omega
      clear hb e e2 hno h hn
      go_enter Tryz.func80, Tryz.ntmps80
      go_wp2_with (fail)
      go_ret2
      exact ⟨A, cap, rfl, H.out, Below.refl _ _⟩
  · have hi := in_yes hb
    obtain ⟨i, rfl⟩ : ∃ i : Nat, at' = (i : Int) := ⟨at'.toNat, by omega⟩
    obtain ⟨b, off, rfl, hlt, hc⟩ := h.reads (by omega)
    have hcl := hc i (by omega)
    obtain ⟨z, hz⟩ : ∃ z, z = zs.getD i 0 := ⟨_, rfl⟩
    rw [← hz] at hcl
    have e0 : swB zs i o = decide (z = o) := by unfold swB; rw [hb, hz]; simp
    have H := Lib.hid h; have HN := Lib.hid hn
    have hi0 : (0 : Int) ≤ (i : Int) := by omega
    have hi1 : (i : Int) < (n : Int) := by omega
    by_cases hzo : z = o
    · have e : swB zs i o = true := by rw [e0]; simpa using hzo
      have e2 : swv zs i o v = ptv zs i v := by unfold swv ptv; rw [e, hb]
      rw [e, e2]
      have ht : (z != o) = false := by simp [hzo]
      clear hb e e2 e0 hn hz hi hc h hlt hzo
      go_enter Tryz.func80, Tryz.ntmps80
      go_wp2_with (first
        | (go_at_call 14; (with_reducible refine (rput_any P _ n cap zs _ _ _ HN.out hl H.out hP).mono ?_); rintro r w1 ⟨A2, cap2, rfl, hk⟩; have HK := Lib.hid hk; clear hk)
        | fail)
      go_ret2
      exact ⟨A2, cap2, rfl, HK.out⟩
    · have e : swB zs i o = false := by rw [e0]; simpa using hzo
      have e2 : swv zs i o v = zs := by unfold swv; rw [e]; simp
      rw [e, e2]
      have ht : (z != o) = true := by simp [hzo]
      clear hb e e2 e0 hn hz hi hc h hlt hzo
      go_enter Tryz.func80, Tryz.ntmps80
      go_wp2_with (fail)
      go_ret2
      exact ⟨_, cap, rfl, H.out, Below.refl _ _⟩
end Go.Proofs.YtbpkcoemehmpbaaGreat
