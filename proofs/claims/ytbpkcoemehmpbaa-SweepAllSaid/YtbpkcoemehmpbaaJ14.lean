/- The document's example, a choice of two words, and an access by its kind, walked. Two stores of the call's own, apart from each other; the words of a slice that came in, read later on. The document's own memory (a list, of which each access makes another one), walked. Words that are added to, by the program and by the document; how many accesses there were; walked. -/
import Derived.Test.YtbpkcoemehmpbaaJ2
namespace Go.Proofs.Ytbpkcoemehmpbaa
open Go.RowKit
set_option linter.unusedVariables false

/-- A store of the call's own. -/
def Own (B S D : Nat) (w0 w : World) (L : List Int) (c : Int) : Prop := B ≤ S ∧ B ≤ D ∧ B ≤ w0.heap.size ∧ St w S D L c ∧ Below B w0 w
theorem Own.of_new {w0 w w' : World} {B S D : Nat} {L : List Int} (hb : Below B w0 w) (hB : B ≤ w0.heap.size) (hS : w.heap.size ≤ S) (hD : w.heap.size ≤ D) (h : St w' S D L 0) (hb' : Below w.heap.size w w') : Own B S D w0 w' L 0 := by
  have := hb.size
  exact ⟨by omega, by omega, hB, h, below_step hb (by omega) hb'⟩
theorem Own.left {w0 w w' : World} {B S D : Nat} {L L' : List Int} {c c' : Int} (h : Own B S D w0 w L c) (k : Left S D L' c' w w') : Own B S D w0 w' L' c' :=
  ⟨h.1, h.2.1, h.2.2.1, k.1, below_upd h.2.2.2.2 h.2.2.1 k.2 h.1 h.2.1⟩
theorem Own.step {w0 w w' : World} {B S D : Nat} {L : List Int} {c : Int} (h : Own B S D w0 w L c) (k : Below w.heap.size w w') : Own B S D w0 w' L c :=
  ⟨h.1, h.2.1, h.2.2.1, h.2.2.2.1.below k, below_step h.2.2.2.2 (Nat.le_trans h.2.2.1 h.2.2.2.2.size) k⟩
theorem Own.st {w0 w : World} {B S D : Nat} {L : List Int} {c : Int} (h : Own B S D w0 w L c) : St w S D L c := h.2.2.2.1
theorem Own.bel {w0 w : World} {B S D : Nat} {L : List Int} {c : Int} (h : Own B S D w0 w L c) : Below B w0 w := h.2.2.2.2

theorem reads_lit2 (w : World) (x y : Int) : Reads .u64 (w.alloc (.cells #[.int .u64 x, .int .u64 y] 25)) (some ⟨w.heap.size, 0, none⟩) [x, y] := fun _ =>
  ⟨w.heap.size, 0, rfl, by simp, fun j hj => by
    rw [Nat.zero_add, World.cell?_alloc_at _ _ _ _ rfl]
    match j, hj with
    | 0, _ => rfl
    | 1, _ => rfl⟩
theorem reads_lit1 (w : World) (x : Int) : Reads .u64 (w.alloc (.cells #[.int .u64 x] 25)) (some ⟨w.heap.size, 0, none⟩) [x] := fun _ =>
  ⟨w.heap.size, 0, rfl, by simp, fun j hj => by
    rw [Nat.zero_add, World.cell?_alloc_at _ _ _ _ rfl]
    match j, hj with
    | 0, _ => rfl⟩

end Go.Proofs.Ytbpkcoemehmpbaa

namespace Go.Proofs.Ytbpkcoemehmpbaa
open Go.RowKit
set_option linter.unusedVariables false

/-- Two stores of the call's own. -/
structure Two (B S D E F : Nat) (w0 w : World) (L : List Int) (c : Int) (M : List Int) (d : Int) : Prop where
  one : Own B S D w0 w L c
  two : Own B E F w0 w M d
  n1 : S ≠ E
  n2 : S ≠ F
  n3 : D ≠ E
  n4 : D ≠ F
theorem Two.of_new {B S D E F : Nat} {w0 w w' : World} {L M : List Int} {c : Int} (h : Own B S D w0 w L c) (hE : w.heap.size ≤ E) (hF : w.heap.size ≤ F) (hs : St w' E F M 0) (hb : Below w.heap.size w w') : Two B S D E F w0 w' L c M 0 := by
  have h1 := h.st.ltS
  have h2 := h.st.row.lt
  exact ⟨h.step hb, Own.of_new h.bel h.2.2.1 hE hF hs hb, by omega, by omega, by omega, by omega⟩
theorem Two.left1 {B S D E F : Nat} {w0 w w' : World} {L L' M : List Int} {c c' d : Int} (h : Two B S D E F w0 w L c M d) (k : Left S D L' c' w w') : Two B S D E F w0 w' L' c' M d :=
  ⟨h.one.left k, ⟨h.two.1, h.two.2.1, h.two.2.2.1, h.two.st.upd k.2 (Ne.symm h.n1) (Ne.symm h.n3) (Ne.symm h.n2) (Ne.symm h.n4), (h.one.left k).bel⟩, h.n1, h.n2, h.n3, h.n4⟩
theorem Two.left2 {B S D E F : Nat} {w0 w w' : World} {L M M' : List Int} {c d d' : Int} (h : Two B S D E F w0 w L c M d) (k : Left E F M' d' w w') : Two B S D E F w0 w' L c M' d' :=
  ⟨⟨h.one.1, h.one.2.1, h.one.2.2.1, h.one.st.upd k.2 h.n1 h.n2 h.n3 h.n4, (h.two.left k).bel⟩, h.two.left k, h.n1, h.n2, h.n3, h.n4⟩
theorem Two.step {B S D E F : Nat} {w0 w w' : World} {L M : List Int} {c d : Int} (h : Two B S D E F w0 w L c M d) (k : Below w.heap.size w w') : Two B S D E F w0 w' L c M d :=
  ⟨h.one.step k, h.two.step k, h.n1, h.n2, h.n3, h.n4⟩
theorem Two.st1 {B S D E F : Nat} {w0 w : World} {L M : List Int} {c d : Int} (h : Two B S D E F w0 w L c M d) : St w S D L c := h.one.st
theorem Two.st2 {B S D E F : Nat} {w0 w : World} {L M : List Int} {c d : Int} (h : Two B S D E F w0 w L c M d) : St w E F M d := h.two.st
theorem Two.bel {B S D E F : Nat} {w0 w : World} {L M : List Int} {c d : Int} (h : Two B S D E F w0 w L c M d) : Below B w0 w := h.one.bel
end Go.Proofs.Ytbpkcoemehmpbaa

namespace Go.Proofs.Ytbpkcoemehmpbaa
open Go.RowKit
set_option linter.unusedVariables false

/-- A row that an append of words to nil has made. -/
def Fresh (B g n cap : Nat) (w0 wr : World) (zs : List Int) : Prop := wr.ownsRow B 25 1 (.slice (some ⟨g, 0, none⟩) n cap) n (zs.map (Value.int .u64)) ∧ Below B w0 wr ∧ zs.length = n
theorem Fresh.cell {B g n cap : Nat} {w0 wr : World} {zs : List Int} (h : Fresh B g n cap w0 wr zs) (i : Nat) (hi : i < n) : wr.cell? ⟨g, i, none⟩ = some (.int .u64 (zs.getD i 0)) ∧ wr.frozen? ⟨g, i, none⟩ = false := by
  refine ⟨?_, h.1.frozenAt i⟩
  rw [h.1.cellAt i (by omega)]
  exact map_get .u64 zs i (by rw [h.2.2]; exact hi)
theorem Fresh.lt {B g n cap : Nat} {w0 wr : World} {zs : List Int} (h : Fresh B g n cap w0 wr zs) : B ≤ g ∧ g < wr.heap.size := h.1.lt g rfl
theorem Fresh.set {B g n cap : Nat} {w0 wr : World} {zs : List Int} (h : Fresh B g n cap w0 wr zs) (i : Nat) (v : Int) : Fresh B g n cap w0 (wr.setCell ⟨g, i, none⟩ (.int .u64 v)) (zs.set i v) := by
  have s := (h.1.stored i (.int .u64 v)).1
  rw [← List.map_set] at s
  exact ⟨s, h.2.1.setCell h.lt.1 _, by rw [List.length_set]; exact h.2.2⟩
theorem Fresh.reads {B g n cap : Nat} {w0 wr : World} {zs : List Int} (h : Fresh B g n cap w0 wr zs) : Reads .u64 wr (some ⟨g, 0, none⟩) zs := fun _ =>
  ⟨g, 0, rfl, h.lt.2, fun j hj => by rw [Nat.zero_add]; exact (h.cell j (by rw [← h.2.2]; exact hj)).1⟩
/-- A slice of words in a block of this kind. -/
def ReadsW (P : Nat → Prop) (w : World) (A : Option Addr) (zs : List Int) : Prop :=
  0 < zs.length → ∃ b off, A = some ⟨b, off, none⟩ ∧ b < w.heap.size ∧ P b ∧ ∀ j, j < zs.length → w.cell? ⟨b, off + j, none⟩ = some (.int .u64 (zs.getD j 0))
theorem ReadsW.reads {P : Nat → Prop} {w : World} {A : Option Addr} {zs : List Int} (h : ReadsW P w A zs) : Reads .u64 w A zs := fun h0 => by
  obtain ⟨b, off, e, hlt, _, hc⟩ := h h0
  exact ⟨b, off, e, hlt, hc⟩
theorem ReadsW.upd {P Q : Nat → Prop} {S D : Nat} {w w' : World} {A : Option Addr} {zs : List Int} (h : ReadsW P w A zs) (u : Upd S D w w') (hP : ∀ b, P b → b < w.heap.size → b ≠ S ∧ b ≠ D ∧ Q b) : ReadsW Q w' A zs := fun h0 => by
  obtain ⟨b, off, e, hlt, hp, hc⟩ := h h0
  obtain ⟨h1, h2, h3⟩ := hP b hp hlt
  exact ⟨b, off, e, Nat.lt_of_lt_of_le hlt u.size, h3, fun j hj => (World.cell?_of_block (w := w) (a := ⟨b, off + j, none⟩) (u.block b hlt h1 h2)).trans (hc j hj)⟩
theorem ReadsW.below {P : Nat → Prop} {w w' : World} {A : Option Addr} {zs : List Int} (h : ReadsW P w A zs) (hb : Below w.heap.size w w') : ReadsW P w' A zs := fun h0 => by
  obtain ⟨b, off, e, hlt, hp, hc⟩ := h h0
  exact ⟨b, off, e, Nat.lt_of_lt_of_le hlt hb.size, hp, fun j hj => (hb.cell (p := ⟨b, off + j, none⟩) hlt).trans (hc j hj)⟩
theorem Reads.toP {P : Nat → Prop} {w : World} {A : Option Addr} {zs : List Int} (h : Reads .u64 w A zs) (hP : ∀ b, b < w.heap.size → P b) : ReadsW P w A zs := fun h0 => by
  obtain ⟨b, off, e, hlt, hc⟩ := h h0
  exact ⟨b, off, e, hlt, hP b hlt, hc⟩
theorem Fresh.readsW {P : Nat → Prop} {B g n cap : Nat} {w0 wr : World} {zs : List Int} (h : Fresh B g n cap w0 wr zs) (hP : ∀ b, B ≤ b → P b) : ReadsW P wr (some ⟨g, 0, none⟩) zs := fun _ =>
  ⟨g, 0, rfl, h.lt.2, hP g h.lt.1, fun j hj => by rw [Nat.zero_add]; exact (h.cell j (by rw [← h.2.2]; exact hj)).1⟩

theorem append_words {w : World} {ops : Array Oper} {rest : List Oper} {o : Oper} {a : Act} {Q : Exit → Act → World → Prop} (hg : o.guard = none) (s x : Operand)
    (ho : o.op = .call { callee := .builtin .append, args := #[s, x], argTypes := #[37, 37] })
    (A : Option Addr) (n cap : Nat) (zs : List Int) (hs : a.eval s = .slice none 0 0) (hx : a.eval x = .slice A n cap) (hn : n = zs.length) (h0 : 0 < n) (hl : n ≤ 1000000) (hr : Reads .u64 w A zs)
    (h : ∀ g cap' w', Fresh w.heap.size g n cap' w w' zs → wpList Try.prog ops Q rest (a.put o.dst (.slice (some ⟨g, 0, none⟩) n cap')) w') :
    wpList Try.prog ops Q (o :: rest) a w := by
  obtain ⟨i0, hi0, hz0, hz1, hz2⟩ := info_parts info34
  obtain ⟨b, off, rfl, hlt, hc⟩ := hr (by omega)
  refine wpList_append_own _ hg s x 37 ho w.heap.size 25 i0 _ 1 8 Try.underlying37 hi0 hz0 hz1 hz2 rfl (by decide) _ 0 [] hs (World.ownsRow_nil _ _ _ _) ⟨b, off, none⟩ n cap (zs.map (Value.int .u64)) hx (by simp [hn]) ?_ ?_ (by unfold maxLen; omega) (by omega) (by omega) ?_
  · intro j u hj
    rcases Nat.lt_or_ge j zs.length with hj' | hj'
    · rw [map_get .u64 zs j hj'] at hj
      cases hj
      rw [add_off]; exact hc j hj'
    · rw [List.getElem?_eq_none (by simpa using hj')] at hj; cases hj
  · intro u hu
    obtain ⟨y, _, rfl⟩ := List.mem_map.1 hu
    rfl
  · intro v' w' h1 h2 _
    rw [Nat.zero_add, List.nil_append] at h1
    obtain ⟨g, cap', rfl⟩ : ∃ g cap', v' = .slice (some ⟨g, 0, none⟩) n cap' := by
      rcases h1.2 with ⟨_, e⟩ | ⟨g, cap', cur, e, _⟩
      · omega
      · exact ⟨g, cap', e⟩
    exact h g cap' w' ⟨h1, (Below.refl _ _).grown h2 (Nat.le_refl _) (fun k hk => by cases hk), hn.symm⟩

/-- A slice that reads as these, apart from both blocks. -/
def SomeSl (P : Nat → Prop) (w : World) (n : Nat) (zs : List Int) (e : Ending) (w' : World) : Prop :=
  ∃ A cap, e = .returned (.slice A n cap) ∧ ReadsW P w' A zs ∧ Below w.heap.size w w'

/-- The same, and a bool; and a word. -/
def SomeSlB (P : Nat → Prop) (w : World) (n : Nat) (zs : List Int) (b : Bool) (e : Ending) (w' : World) : Prop :=
  ∃ A cap, e = .returned (.tuple #[.slice A n cap, .bool b]) ∧ ReadsW P w' A zs ∧ Below w.heap.size w w'
end Go.Proofs.Ytbpkcoemehmpbaa

namespace Go.Proofs.Ytbpkcoemehmpbaa
open Go.RowKit
set_option linter.unusedVariables false

set_option maxHeartbeats 1000000 in
theorem add_any {S D : Nat} {L : List Int} {c : Int} (at' v : Int) (w : World) (h : St w S D L c) (h0 : 0 ≤ c) (h1 : c ≤ 1000000000) :
    Calls Try.prog 78 #[ptr S, .int .i64 at', .int .u64 v] w fun e w' => e = .returned (.int .u64 (ldv L at')) ∧ Left S D (adv L at' v) (c + 1) w w' := by
  obtain ⟨b, hb⟩ : ∃ b, b = inB L at' := ⟨_, rfl⟩
  have H := Lib.hid h; clear h
  cases b
  · have e : ldv L at' = 0 := by unfold ldv; rw [if_neg (by rw [← hb]; simp)]
    have e2 : adv L at' v = L := by unfold adv ptv; rw [if_neg (by rw [← hb]; simp)]
    rw [e, e2]
    have HB := Lib.hid hb; clear hb e e2
    go_enter Try.func78, Try.ntmps78
    go_wp2_with (first
      | (go_at_call 38; (with_reducible refine (reaches_any _ _ H.out h0 h1).mono ?_); rintro r w1 ⟨rfl, hk⟩; rw [← HB.out])
      | fail)
    go_ret
    exact ⟨rfl, hk⟩
  · have hi := in_yes hb.symm
    obtain ⟨i, rfl⟩ : ∃ i : Nat, at' = (i : Int) := ⟨at'.toNat, by omega⟩
    have hil : i < L.length := by omega
    have e : ldv L i = L.getD i 0 := by unfold ldv; rw [if_pos hb.symm]; simp
    have e2 : adv L i v = L.set i (IntKind.u64.wrap (L.getD i 0 + v)) := by unfold adv ptv; rw [if_pos hb.symm, e]; simp
    rw [e, e2]
    obtain ⟨n, hn⟩ : ∃ n, n = L.length := ⟨_, rfl⟩
    rw [← hn] at hi hil
    have HN := Lib.hid hn
    have HB := Lib.hid hb
    have HI := Lib.hid hil
    obtain ⟨z, hz⟩ : ∃ z, z = L.getD i 0 := ⟨_, rfl⟩
    rw [← hz]
    obtain ⟨y, hy⟩ : ∃ y, y = IntKind.u64.wrap (z + v) := ⟨_, rfl⟩
    rw [← hy]
    have HZ := Lib.hid hz
    have hi0 : (0 : Int) ≤ (i : Int) := by omega
    have hi1 : (i : Int) < (n : Int) := by omega
    have hy' := hy.symm
    clear hb e e2 hn hz hi hil hy
    go_enter Try.func78, Try.ntmps78
    go_wp2_with (first
      | (go_at_call 38; (with_reducible refine (reaches_any _ _ H.out h0 h1).mono ?_); rintro r w1 ⟨rfl, hk⟩; rw [← HB.out]; have hd := hk.1.head; rw [← HN.out] at hd; have hcl := hk.1.row.cell i (by have := HN.out; have := HI.out; omega); rw [← HZ.out] at hcl; have hfr := hk.1.row.frozen i; have HK := Lib.hid (left_set hk i y); clear hk)
      | fail)
    go_ret
    exact ⟨rfl, HK.out⟩


def SomeSlI (P : Nat → Prop) (w : World) (n : Nat) (zs : List Int) (x : Int) (e : Ending) (w' : World) : Prop :=
  ∃ A cap, e = .returned (.tuple #[.slice A n cap, .int .u64 x]) ∧ ReadsW P w' A zs ∧ Below w.heap.size w w'

end Go.Proofs.Ytbpkcoemehmpbaa
