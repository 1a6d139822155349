/- The document's own map, places and stacks of packets, walked. -/
import Derived.Test.YtbjhciccpkbmoaaTwo
import Derived.Test.YtbjhciccpkbmoaaRef
import Derived.Test.YtbjhciccpkbmoaaLayPlace
import Derived.Test.YtbjhciccpkbmoaaLayListsPure
import Derived.Test.YtbjhciccpkbmoaaLayThings
import Derived.Deep.AppendLies
namespace Go.Proofs.Ytbjhciccpkbmoaa
open Go.RowKit
set_option linter.unusedVariables false
open Lay (plcc plc shOf packN nodesN OkC Cfg Norm firstV Rep lenL things)

/-- The document's map of a configuration, by value. -/
abbrev aVal (A : Option Addr) (n cap : Nat) (P : Int) : Value := .agg #[.slice A n cap, .int .i64 P]
structure IsA (w : World) (c : Cfg) (A : Option Addr) (n : Nat) : Prop where
  ln : n = (things (shOf c)).length
  rd : Lay.ReadsT w A (things (shOf c))
  le : n ≤ 10000
theorem IsA.below {w w' : World} {c : Cfg} {A : Option Addr} {n : Nat} (h : IsA w c A n) (hb : Below w.heap.size w w') : IsA w' c A n := ⟨h.ln, h.rd.below hb, h.le⟩

set_option maxHeartbeats 1000000 in
theorem rat_any (c : Cfg) (A : Option Addr) (n cap : Nat) (P k x y : Int) (w : World) (h : IsA w c A n) (hn : Norm ⟨k, x, y⟩) :
    Calls Try.prog 53 #[aVal A n cap P, .int .i64 k, .int .i64 x, .int .i64 y] w fun e w' => e = .returned (.int .i64 (plcc c k x y)) ∧ Below w.heap.size w w' := by
  have HA := Lib.hid (h.below (below_alloc0 (Below.refl _ _) (.cells #[.slice A n cap, .int .i64 P] 35)))
  have HN := Lib.hid hn
  have HB := below_alloc0 (Below.refl w.heap.size w) (.cells #[.slice A n cap, .int .i64 P] 35)
  clear h hn
  go_enter Try.func53, Try.ntmps53
  go_wp2_with (first
    | (go_at_call 71; (with_reducible refine (Lay.place_any (shOf c) A cap n ⟨k, x, y⟩ _ HA.out.ln HA.out.rd HN.out HA.out.le).mono ?_); rintro r w1 ⟨rfl, hb⟩; have HB := below_then HB hb)
    | fail)
  go_ret
  exact ⟨rfl, HB⟩

/-- An append to a row of integers of the call's own at a step of a region that draws its order. -/
theorem step_append_row {k : IntKind} {wr : World} {T : TypeId} {x : Int} {ops : Array Oper} {o : Oper} {a : Act} {K : Act → World → Prop} {Q : Exit → Act → World → Prop} {E : Prop} (hg : o.guard = none) (s c : Operand) (t e : TypeId)
    (ho : o.op = .call { callee := .builtin .append, args := #[s, c], argTypes := #[t, t] }) (ht : Try.prog.underlying t = some (.slice e))
    (hi : (Try.prog.info? e).map (fun i => (i.zero, i.size, i.bytes)) = some (some (.int k 0), 1, 8))
    (B : Nat) (v : Value) (l : List Int) (hs : a.eval s = v) (hown : wr.ownsRow B e 1 v l.length (l.map (Value.int k))) (hx : a.eval c = .slice (some ⟨wr.heap.size, 0, none⟩) 1 1) (hl : l.length ≤ 100000) (hB : B ≤ wr.heap.size)
    (h : ∀ g cap w', w'.ownsRow B e 1 (.slice (some ⟨g, 0, none⟩) (l.length + 1) cap) (l.length + 1) ((l ++ [x]).map (Value.int k)) → (wr.alloc (.cells #[.int k x] T)).grownBy w' v.ownBlock → (v.ownBlock = some g ∨ wr.heap.size ≤ g) → K (a.put o.dst (.slice (some ⟨g, 0, none⟩) (l.length + 1) cap)) w') :
    if Region.wanted o (yielded ops a.tmps) = true then Oper.wp Try.prog o a (wr.alloc (.cells #[.int k x] T)) K Q else E := by
  obtain ⟨i0, hi0, hz0, hz1, hz2⟩ := info_parts hi
  have hn := hown.alloc (.cells #[.int k x] T)
  refine step_append_lies _ hg s c t ho B e i0 _ 1 8 ht hi0 hz0 hz1 hz2 rfl (by decide) v l.length _ hs hn ⟨wr.heap.size, 0, none⟩ 1 1 [.int k x] hx rfl ?_ ?_ (by decide) (by unfold maxLen; omega) (by omega) (by simp; omega) _ rfl ?_
  · intro j u hj
    rw [add_off, World.cell?_alloc_at _ _ _ _ rfl]
    match j, hj with
    | 0, hj => simp at hj; subst hj; rfl
  · intro u hu
    simp at hu
    rcases hu with rfl
    rfl
  · intro g cap w' h1 h2 h3 _
    refine h g cap w' (by simpa using h1) h2 ?_
    rcases h3 with h3 | h3
    · exact .inl h3
    · exact .inr (by rw [h3]; simp)

theorem adr_ne {b b' o o' : Nat} (h : b ≠ b' ∨ o ≠ o') : (⟨b, o, none⟩ : Addr) ≠ ⟨b', o', none⟩ := by
  intro e; injection e with e1 e2; omega
theorem put2_cells {w : World} {k : Nat} {a0 a1 : Value} (h0 : w.cell? ⟨k, 0, none⟩ = some a0) (h1 : w.cell? ⟨k, 1, none⟩ = some a1) (u0 u1 : Value) :
    ((w.setCell ⟨k, 0, none⟩ u0).setCell ⟨k, 1, none⟩ u1).cell? ⟨k, 0, none⟩ = some u0 ∧ ((w.setCell ⟨k, 0, none⟩ u0).setCell ⟨k, 1, none⟩ u1).cell? ⟨k, 1, none⟩ = some u1 := by
  refine ⟨?_, ?_⟩
  · rw [World.cell?_setCell_other _ _ _ _ (adr_ne (.inr (by omega)))]
    exact World.cell?_setCell_same _ _ _ h0
  · refine World.cell?_setCell_same _ _ _ (u := a1) ?_
    rw [World.cell?_setCell_other _ _ _ _ (adr_ne (.inr (by omega)))]; exact h1

section
variable {w0 w w' : World} {G n cap : Nat} {A : Option Addr} {P hd : Int} {v : Value} {zs : List Int} {c : Cfg}
abbrev SKc (w : World) (w0 : World) (G : Nat) (A : Option Addr) (n cap : Nat) (P : Int) (v : Value) : Prop :=
  w.cell? ⟨G, 1, none⟩ = some v ∧ w.cell? ⟨w0.heap.size, 0, none⟩ = some (.slice A n cap) ∧ w.cell? ⟨w0.heap.size, 1, none⟩ = some (.int .i64 P) ∧ w.frozen? ⟨G, 1, none⟩ = false
end

end Go.Proofs.Ytbjhciccpkbmoaa
