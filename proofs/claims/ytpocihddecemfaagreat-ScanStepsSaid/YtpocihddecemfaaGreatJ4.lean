/-  -/
import Derived.WalkKit
import Derived.Test.YtpocihddecemfaaGreatRows
import Derived.Test.YtpocihddecemfaaGreatLayLayPure
import Derived.WalkSpells
import Derived.WalkLawsBesides
import Derived.WalkSmall
import Derived.BigQuiet
import Derived.BigRegion
import Derived.StillTailTactics
import Derived.Deep.QuietTactic
import Derived.Deep.RegionWith
import Derived.Deep.RegionHeld3
import Derived.Deep.DeepCutAuto
import Derived.Deep.AppendLies
import Derived.Deep.Onto
import Derived.Lib.Hide
import Derived.Lib.SmallJoins
import Derived.Handy
import Derived.IntWalk
import Derived.Below
import Derived.Laws.ResultCell
import Derived.Laws.StructEq
import Derived.LoopN
import Derived.OpenShut
import Derived.OwnWalk
import Derived.Laws.AppendOwn
import Derived.Laws.AppendOwnNone
namespace Go.Proofs.YtpocihddecemfaaGreat.Lay
def lowTo (p : Nat → Bool) (n : Nat) : Nat → Nat
  | 0 => 0
  | j + 1 => if p (n - 1 - j) = true then n - 1 - j else lowTo p n j
def ofK (ks : List Int) (k : Int) (v : Nat) : Bool := decide (ks.getD (v - 1) 9 = k)
def cl (ks : List Int) (k : Int) : Nat → Nat
  | 0 => 0
  | v + 1 => cl ks k v + if 1 ≤ v ∧ ofK ks k v = true then 1 else 0
end Go.Proofs.YtpocihddecemfaaGreat.Lay

namespace Go.Proofs.YtpocihddecemfaaGreat.Lay
open Go.RowKit
set_option linter.unusedVariables false
theorem info3 : (Tryz.prog.info? 3).map (fun i => (i.zero, i.size, i.bytes)) = some (some (.int .i64 0), 1, 8) := by kernel_rfl
theorem info54 : (Tryz.prog.info? 25).map (fun i => (i.zero, i.size, i.bytes)) = some (some (.int .u64 0), 1, 8) := by kernel_rfl
theorem info39 : (Tryz.prog.info? 135).map (fun i => (i.zero, i.size, i.bytes)) = some (some (.agg #[.int .i64 0, .int .i64 0, .int .i64 0]), 3, 24) := by kernel_rfl
theorem ret_int {k : IntKind} {a b : Int} (h : a = b) : Ending.returned (.int k a) = .returned (.int k b) := by rw [h]
theorem below_step {B : Nat} {a w w' : World} (h : Below B a w) (hB : B ≤ w.heap.size) (k : Below w.heap.size w w') : Below B a w' := h.trans (k.mono hB)
theorem below_drewN {B : Nat} {a w : World} (h : Below B a w) : ∀ n, Below B a (w.drewN n)
  | 0 => h
  | n + 1 => (below_drewN h n).drew
theorem below_alloc0 {w w' : World} (h : Below w.heap.size w w') (o : Obj) : Below w.heap.size w (w'.alloc o) := h.alloc h.size o
theorem below_then {w w1 w2 : World} (h : Below w.heap.size w w1) (k : Below w1.heap.size w1 w2) : Below w.heap.size w w2 := below_step h h.size k
theorem add_off (b off j : Nat) : (⟨b, off, none⟩ : Addr).add j = ⟨b, off + j, none⟩ := by
  unfold Addr.add
  split
  · rename_i e; subst e; rfl
  · rfl
theorem grown_of_below {a b : World} {row : Option Nat} (h : Below a.heap.size a b) : a.grownBy b row :=
  ⟨h.os, h.tape, h.output, h.size, fun i hi _ => h.block i hi⟩
theorem map_get (k : IntKind) (l : List Int) (u : Nat) (h : u < l.length) : (l.map (Value.int k))[u]? = some (.int k (l.getD u 0)) := by
  simp [List.getElem?_map, List.getElem?_eq_getElem h, List.getD]
def Reads (k : IntKind) (w : World) (A : Option Addr) (zs : List Int) : Prop :=
  0 < zs.length → ∃ b off, A = some ⟨b, off, none⟩ ∧ b < w.heap.size ∧ ∀ j, j < zs.length → w.cell? ⟨b, off + j, none⟩ = some (.int k (zs.getD j 0))
def ReadsT (w : World) (A : Option Addr) (l : List Th) : Prop :=
  0 < l.length → ∃ b off, A = some ⟨b, off, none⟩ ∧ b < w.heap.size ∧ ∀ j, j < l.length → w.cell? ⟨b, off + j * 3, none⟩ = some (.int .i64 (gt l j).k) ∧ w.cell? ⟨b, off + (j * 3 + 1), none⟩ = some (.int .i64 (gt l j).a) ∧ w.cell? ⟨b, off + (j * 3 + 2), none⟩ = some (.int .i64 (gt l j).b)
theorem ReadsT.below {w w' : World} {A : Option Addr} {l : List Th} (h : ReadsT w A l) (hb : Below w.heap.size w w') : ReadsT w' A l := fun h0 => by
  obtain ⟨b, off, e, hlt, hc⟩ := h h0
  exact ⟨b, off, e, Nat.lt_of_lt_of_le hlt hb.size, fun j hj => ⟨(hb.cell (p := ⟨b, off + j * 3, none⟩) hlt).trans (hc j hj).1, (hb.cell (p := ⟨b, off + (j * 3 + 1), none⟩) hlt).trans (hc j hj).2.1, (hb.cell (p := ⟨b, off + (j * 3 + 2), none⟩) hlt).trans (hc j hj).2.2⟩⟩
def flat (l : List Th) : List Value := l.flatMap fun x => [.int .i64 x.k, .int .i64 x.a, .int .i64 x.b]
theorem flat_app (l m : List Th) : flat (l ++ m) = flat l ++ flat m := by simp [flat]
theorem flat_get : ∀ (l : List Th) (i : Nat), i < l.length → (flat l)[i * 3]? = some (.int .i64 (gt l i).k) ∧ (flat l)[i * 3 + 1]? = some (.int .i64 (gt l i).a) ∧ (flat l)[i * 3 + 2]? = some (.int .i64 (gt l i).b)
  | [], i, h => by simp at h
  | a :: l, 0, _ => ⟨rfl, rfl, rfl⟩
  | a :: l, i + 1, h => by
    have ih := flat_get l i (by simpa using h)
    have e : flat (a :: l) = .int .i64 a.k :: .int .i64 a.a :: .int .i64 a.b :: flat l := rfl
    rw [e, show (i + 1) * 3 = i * 3 + 1 + 1 + 1 by omega, show (i * 3 + 1 + 1 + 1) + 1 = (i * 3 + 1) + 1 + 1 + 1 by omega, show (i * 3 + 1 + 1 + 1) + 2 = (i * 3 + 2) + 1 + 1 + 1 by omega]
    simpa [gt] using ih
def OwnT (B : Nat) (w0 wr : World) (v : Value) (l : List Th) : Prop :=
  wr.ownsRow B 135 3 v l.length (flat l) ∧ Below B w0 wr
theorem OwnT.nil {B : Nat} {w0 wr : World} (h : Below B w0 wr) : OwnT B w0 wr (.slice none 0 0) [] := ⟨World.ownsRow_nil _ _ _ _, h⟩
theorem OwnT.step {B : Nat} {w0 wr w' : World} {v : Value} {l : List Th} (h : OwnT B w0 wr v l) (hB : B ≤ w0.heap.size) (k : Below wr.heap.size wr w') : OwnT B w0 w' v l :=
  ⟨h.1.kept (grown_of_below (row := none) k) (by cases v.ownBlock <;> simp), below_step h.2 (Nat.le_trans hB h.2.size) k⟩
theorem OwnT.alloc {B : Nat} {w0 wr : World} {v : Value} {l : List Th} (h : OwnT B w0 wr v l) (hB : B ≤ w0.heap.size) (o : Obj) : OwnT B w0 (wr.alloc o) v l :=
  ⟨h.1.alloc o, h.2.alloc (Nat.le_trans hB h.2.size) o⟩
theorem OwnT.reads {B : Nat} {w0 wr : World} {v : Value} {l : List Th} (h : OwnT B w0 wr v l) : ∃ A cap, v = .slice A l.length cap ∧ ReadsT wr A l ∧ (A = none → cap = 0) ∧ l.length ≤ cap ∧ cap ≤ maxLen := by
  obtain ⟨ho, hb⟩ := h
  have hlt := ho.lt
  have hcell := fun g (hg : v.ownBlock = some g) => ho.cells hg
  obtain ⟨hl, ⟨h1, h2⟩ | ⟨g, cap, cur, h1, h2, h3, h4, h5, h6, h7⟩⟩ := ho
  · exact ⟨none, 0, by rw [h1, h2], fun h => by omega, fun _ => rfl, by omega, by unfold maxLen; omega⟩
  · refine ⟨_, cap, h1, fun _ => ⟨g, 0, rfl, (hlt g (by rw [h1]; rfl)).2, fun i hi => ?_⟩, (fun e => by cases e), h4, h5⟩
    have hc := hcell g (by rw [h1]; rfl)
    obtain ⟨f0, f1, f2⟩ := flat_get l i hi
    have c0 := hc (i * 3) _ f0
    have c1 := hc (i * 3 + 1) _ f1
    have c2 := hc (i * 3 + 2) _ f2
    rw [add_off] at c0 c1 c2
    exact ⟨c0, c1, c2⟩
theorem append_one {wr : World} {T : TypeId} {x y z : Int} {ops : Array Oper} {rest : List Oper} {o : Oper} {a : Act} {Q : Exit → Act → World → Prop} (hg : o.guard = none) (s c : Operand)
    (ho : o.op = .call { callee := .builtin .append, args := #[s, c], argTypes := #[34, 34] })
    (B : Nat) (w0 : World) (v : Value) (l : List Th) (hs : a.eval s = v) (hown : OwnT B w0 wr v l) (hx : a.eval c = .slice (some ⟨wr.heap.size, 0, none⟩) 1 1) (hl : l.length ≤ 100000) (hB : B ≤ w0.heap.size)
    (h : ∀ v' w', OwnT B w0 w' v' (l ++ [⟨x, y, z⟩]) → wpList Tryz.prog ops Q rest (a.put o.dst v') w') :
    wpList Tryz.prog ops Q (o :: rest) a (wr.alloc (.cells #[.int .i64 x, .int .i64 y, .int .i64 z] T)) := by
  obtain ⟨i0, hi0, hz0, hz1, hz2⟩ := info_parts info39
  have hsz := hown.2.size
  have hn := hown.alloc hB (.cells #[.int .i64 x, .int .i64 y, .int .i64 z] T)
  refine wpList_append_own _ hg s c 34 ho B 135 i0 _ 3 24 Tryz.underlying34 hi0 hz0 hz1 hz2 rfl (by decide) v l.length _ hs hn.1 ⟨wr.heap.size, 0, none⟩ 1 1 [.int .i64 x, .int .i64 y, .int .i64 z] hx rfl ?_ ?_ (by unfold maxLen; omega) (by omega) (by simp; omega) ?_
  · intro j u hj
    rw [add_off, World.cell?_alloc_at _ _ _ _ rfl]
    match j, hj with
    | 0, hj => simp at hj; subst hj; rfl
    | 1, hj => simp at hj; subst hj; rfl
    | 2, hj => simp at hj; subst hj; rfl
  · intro u hu
    simp at hu
    rcases hu with rfl | rfl | rfl <;> rfl
  · intro v' w' h1 h2 _
    refine h v' w' ⟨by rw [List.length_append, flat_app]; exact h1, hn.2.grown h2 (by simp; omega) (fun b hb => (hn.1.lt b hb).1)⟩
def OwnI (k : IntKind) (e : TypeId) (B : Nat) (w0 wr : World) (v : Value) (l : List Int) : Prop :=
  wr.ownsRow B e 1 v l.length (l.map (Value.int k)) ∧ Below B w0 wr
theorem OwnI.nil {k : IntKind} {e : TypeId} {B : Nat} {w0 wr : World} (h : Below B w0 wr) : OwnI k e B w0 wr (.slice none 0 0) [] := ⟨World.ownsRow_nil _ _ _ _, h⟩
theorem OwnI.alloc {k : IntKind} {e : TypeId} {B : Nat} {w0 wr : World} {v : Value} {l : List Int} (h : OwnI k e B w0 wr v l) (hB : B ≤ w0.heap.size) (o : Obj) : OwnI k e B w0 (wr.alloc o) v l :=
  ⟨h.1.alloc o, h.2.alloc (Nat.le_trans hB h.2.size) o⟩
theorem OwnI.reads {k : IntKind} {e : TypeId} {B : Nat} {w0 wr : World} {v : Value} {l : List Int} (h : OwnI k e B w0 wr v l) : ∃ A cap, v = .slice A l.length cap ∧ Reads k wr A l ∧ (A = none → cap = 0) ∧ l.length ≤ cap ∧ cap ≤ maxLen := by
  obtain ⟨ho, hb⟩ := h
  have hlt := ho.lt
  have hcell := fun g (hg : v.ownBlock = some g) => ho.cells hg
  obtain ⟨hl, ⟨h1, h2⟩ | ⟨g, cap, cur, h1, h2, h3, h4, h5, h6, h7⟩⟩ := ho
  · exact ⟨none, 0, by rw [h1, h2], fun h => by omega, fun _ => rfl, by omega, by unfold maxLen; omega⟩
  · refine ⟨_, cap, h1, fun _ => ⟨g, 0, rfl, (hlt g (by rw [h1]; rfl)).2, fun i hi => ?_⟩, (fun e => by cases e), h4, h5⟩
    have c0 := hcell g (by rw [h1]; rfl) i _ (map_get k l i hi)
    rw [add_off] at c0
    exact c0
theorem append_int {k : IntKind} {wr : World} {T : TypeId} {x : Int} {ops : Array Oper} {rest : List Oper} {o : Oper} {a : Act} {Q : Exit → Act → World → Prop} (hg : o.guard = none) (s c : Operand) (t e : TypeId)
    (ho : o.op = .call { callee := .builtin .append, args := #[s, c], argTypes := #[t, t] }) (ht : Tryz.prog.underlying t = some (.slice e))
    (hi : (Tryz.prog.info? e).map (fun i => (i.zero, i.size, i.bytes)) = some (some (.int k 0), 1, 8))
    (B : Nat) (w0 : World) (v : Value) (l : List Int) (hs : a.eval s = v) (hown : OwnI k e B w0 wr v l) (hx : a.eval c = .slice (some ⟨wr.heap.size, 0, none⟩) 1 1) (hl : l.length ≤ 100000) (hB : B ≤ w0.heap.size)
    (h : ∀ v' w', OwnI k e B w0 w' v' (l ++ [x]) → wpList Tryz.prog ops Q rest (a.put o.dst v') w') :
    wpList Tryz.prog ops Q (o :: rest) a (wr.alloc (.cells #[.int k x] T)) := by
  obtain ⟨i0, hi0, hz0, hz1, hz2⟩ := info_parts hi
  have hsz := hown.2.size
  have hn := hown.alloc hB (.cells #[.int k x] T)
  refine wpList_append_own _ hg s c t ho B e i0 _ 1 8 ht hi0 hz0 hz1 hz2 rfl (by decide) v l.length _ hs hn.1 ⟨wr.heap.size, 0, none⟩ 1 1 [.int k x] hx rfl ?_ ?_ (by unfold maxLen; omega) (by omega) (by simp; omega) ?_
  · intro j u hj
    rw [add_off, World.cell?_alloc_at _ _ _ _ rfl]
    match j, hj with
    | 0, hj => simp at hj; subst hj; rfl
  · intro u hu
    simp at hu
    rcases hu with rfl
    rfl
  · intro v' w' h1 h2 _
    refine h v' w' ⟨by simpa using h1, hn.2.grown h2 (by simp; omega) (fun b hb => (hn.1.lt b hb).1)⟩
def imax (x y : Int) : Int := if y > x then y else x
def imin (x y : Int) : Int := if y < x then y else x
@[go_sem ↓ high] theorem run_imax {P : Program} {w : World} (ts : Array TypeId) (t : TypeId) (k k' : IntKind) (x y : Int) : (Builtin.max_ ts t #[.int k x, .int k' y]).run P w = .ok (.int k (imax x y)) w := run_max_int2 ..
@[go_sem ↓ high] theorem run_imin {P : Program} {w : World} (ts : Array TypeId) (t : TypeId) (k k' : IntKind) (x y : Int) : (Builtin.min_ ts t #[.int k x, .int k' y]).run P w = .ok (.int k (imin x y)) w := run_min_int2 ..
end Go.Proofs.YtpocihddecemfaaGreat.Lay

namespace Go.Proofs.YtpocihddecemfaaGreat.Lay
open Go.RowKit
set_option linter.unusedVariables false
def slotsOf (k : Int) : Int := if k = 0 then 1 else if k = 1 then 2 else if k = 2 then 4 else if k = 3 then 8 else if k = 4 then 16 else 0
theorem slots_bd (k : Int) : 0 ≤ slotsOf k ∧ slotsOf k ≤ 16 := by unfold slotsOf; omega
set_option maxHeartbeats 400000 in
theorem slots_any (k : Int) (w : World) :
    Calls Tryz.prog 39 #[.int .i64 k] w fun e w' => e = .returned (.int .i64 (slotsOf k)) ∧ w = w' := by
  by_cases h : 0 ≤ k ∧ k < 5
  · have : k = 0 ∨ k = 1 ∨ k = 2 ∨ k = 3 ∨ k = 4 := by omega
    clear h
    rcases this with rfl | rfl | rfl | rfl | rfl
    all_goals
      go_enter Tryz.func39, Tryz.ntmps39
      go_wp2
      go_ret
      exact ⟨rfl, rfl⟩
  · have hs : slotsOf k = 0 := by unfold slotsOf; omega
    have HS := Lib.hid hs; clear hs
    by_cases h1 : k < 0
    · clear h
      go_enter Tryz.func39, Tryz.ntmps39
      go_wp2
      go_ret
      exact ⟨ret_int HS.out.symm, rfl⟩
    · have h2 : 5 ≤ k := by omega
      have h3 : 0 ≤ k := by omega
      clear h h1
      go_enter Tryz.func39, Tryz.ntmps39
      go_wp2
      go_ret
      exact ⟨ret_int HS.out.symm, rfl⟩
def many (c : Int) : Int := imin (imax c 0) 12
theorem many_bd (c : Int) : 0 ≤ many c ∧ many c ≤ 12 := by unfold many imin imax; omega
theorem many_is {c : Int} (h : 0 ≤ c ∧ c ≤ 12) : many c = c := by unfold many imin imax; omega
set_option maxHeartbeats 1000000 in
theorem within_any (a b c d e : Int) (w : World) :
    Calls Tryz.prog 96 #[.agg #[.int .i64 a, .int .i64 b, .int .i64 c, .int .i64 d, .int .i64 e]] w fun r w' => r = .returned (.agg #[.int .i64 (many a), .int .i64 (many b), .int .i64 (many c), .int .i64 (many d), .int .i64 (many e)]) ∧ Below w.heap.size w w' := by
  go_enter Tryz.func96, Tryz.ntmps96
  go_wp2
  refine wp_loop_rounds 6 ?_
  rw [rounds_succ]; go_wp2
  rw [rounds_succ]; go_wp2
  rw [rounds_succ]; go_wp2
  rw [rounds_succ]; go_wp2
  rw [rounds_succ]; go_wp2
  rw [rounds_succ]; go_wp2
  exact bodyPost_ret (v := .agg #[.int .i64 (many a), .int .i64 (many b), .int .i64 (many c), .int .i64 (many d), .int .i64 (many e)]) (by simp [results, Tryz.results96, go_sem, many]) rfl ⟨rfl, by go_grown⟩
set_option maxHeartbeats 1000000 in
theorem nodes_any (a b c d e : Int) (w : World) :
    Calls Tryz.prog 61 #[.agg #[.int .i64 a, .int .i64 b, .int .i64 c, .int .i64 d, .int .i64 e]] w fun r w' => r = .returned (.int .i64 (many a + many b + many c + many d + many e)) ∧ Below w.heap.size w w' := by
  obtain ⟨a0, a1⟩ := many_bd a
  obtain ⟨b0, b1⟩ := many_bd b
  obtain ⟨c0, c1⟩ := many_bd c
  obtain ⟨d0, d1⟩ := many_bd d
  obtain ⟨e0, e1⟩ := many_bd e
  go_enter Tryz.func61, Tryz.ntmps61
  go_wp2_with (go_at_call 96; (with_reducible refine (within_any _ _ _ _ _ _).mono ?_); rintro r w1 ⟨rfl, hb⟩; have hb := below_step ((Below.refl _ _).alloc (Nat.le_refl _) _) (by simp) hb)
  refine wp_loop_rounds 6 ?_
  rw [rounds_succ]; go_wp2
  rw [rounds_succ]; go_wp2
  rw [rounds_succ]; go_wp2
  rw [rounds_succ]; go_wp2
  rw [rounds_succ]; go_wp2
  rw [rounds_succ]; go_wp2
  go_ret
  exact ⟨rfl, hb.alloc hb.size _⟩
def kindOf (a b c d e v : Int) : Int := if v < 1 then -1 else if v ≤ many a then 0 else if v ≤ many a + many b then 1 else if v ≤ many a + many b + many c then 2 else if v ≤ many a + many b + many c + many d then 3 else if v ≤ many a + many b + many c + many d + many e then 4 else -1
set_option maxHeartbeats 2000000 in
theorem class_any (a b c d e v : Int) (w : World) :
    Calls Tryz.prog 97 #[.agg #[.int .i64 a, .int .i64 b, .int .i64 c, .int .i64 d, .int .i64 e], .int .i64 v] w fun r w' => r = .returned (.int .i64 (kindOf a b c d e v)) ∧ Below w.heap.size w w' := by
  obtain ⟨a0, a1⟩ := many_bd a
  obtain ⟨b0, b1⟩ := many_bd b
  obtain ⟨c0, c1⟩ := many_bd c
  obtain ⟨d0, d1⟩ := many_bd d
  obtain ⟨e0, e1⟩ := many_bd e
  by_cases h : v < 1
  · go_enter Tryz.func97, Tryz.ntmps97
    go_wp2
    go_ret
    refine ⟨ret_int (by unfold kindOf; omega), ?_⟩
    exact (Below.refl _ _).alloc (Nat.le_refl _) _
  · go_enter Tryz.func97, Tryz.ntmps97
    go_wp2_with (go_at_call 96; (with_reducible refine (within_any _ _ _ _ _ _).mono ?_); rintro r w1 ⟨rfl, hb⟩; have hb := below_step ((Below.refl _ _).alloc (Nat.le_refl _) _) (by simp) hb)
    refine wp_loop_rounds 6 ?_
    repeat any_goals (rw [rounds_succ]; go_wp2)
    all_goals go_ret
    all_goals exact ⟨ret_int (by unfold kindOf; omega), hb.alloc hb.size _⟩
set_option maxHeartbeats 400000 in
theorem refSlots_any (k : Int) (w : World) :
    Calls Tryz.prog 92 #[.int .i64 k] w fun e w' => e = .returned (.int .i64 (slotsOf k)) ∧ w = w' := by
  by_cases h : 0 ≤ k ∧ k < 5
  · have : k = 0 ∨ k = 1 ∨ k = 2 ∨ k = 3 ∨ k = 4 := by omega
    clear h
    rcases this with rfl | rfl | rfl | rfl | rfl
    all_goals
      go_enter Tryz.func92, Tryz.ntmps92
      go_wp2
      refine wp_loop_rounds 6 ?_
      repeat any_goals (rw [rounds_succ]; go_wp2)
      go_ret
      exact ⟨rfl, rfl⟩
  · have hs : slotsOf k = 0 := by unfold slotsOf; omega
    have HS := Lib.hid hs; clear hs
    by_cases h1 : k < 0
    · clear h
      go_enter Tryz.func92, Tryz.ntmps92
      go_wp2
      go_ret
      exact ⟨ret_int HS.out.symm, rfl⟩
    · have h2 : 4 < k := by omega
      have h3 : 0 ≤ k := by omega
      clear h h1
      go_enter Tryz.func92, Tryz.ntmps92
      go_wp2
      go_ret
      exact ⟨ret_int HS.out.symm, rfl⟩
end Go.Proofs.YtpocihddecemfaaGreat.Lay

namespace Go.Proofs.YtpocihddecemfaaGreat.Lay
open Go.RowKit
def cnt (a b c d e : Int) (k : Nat) : Int := if k = 0 then a else if k = 1 then b else if k = 2 then c else if k = 3 then d else e
def pre (a b c d e : Int) : Nat → List Int
  | 0 => []
  | k + 1 => pre a b c d e k ++ List.replicate (many (cnt a b c d e k)).toNat (k : Int)
theorem pre_len (a b c d e : Int) : ∀ k : Nat, (pre a b c d e k).length ≤ 12 * k
  | 0 => by simp [pre]
  | k + 1 => by
    have := pre_len a b c d e k
    have := many_bd (cnt a b c d e k)
    simp [pre]; omega
def Own (B : Nat) (w0 wr : World) (v : Value) (l : List Int) : Prop :=
  wr.ownsRow (B + 1) 3 1 v l.length (l.map (Value.int .i64)) ∧ Below (B + 1) w0 wr
theorem own_step {B : Nat} {w0 wr w' : World} {v v' : Value} {l : List Int} {k : Int} {o : Obj} (h : Own B w0 wr v l) (hB : B + 1 ≤ w0.heap.size)
    (hown : w'.ownsRow (B + 1) 3 1 v' (l.length + 1) (l.map (Value.int .i64) ++ [Value.int .i64 k])) (hg : (wr.alloc o).grownBy w' v.ownBlock) : Own B w0 w' v' (l ++ [k]) := by
  refine ⟨by simpa using hown, ?_⟩
  exact (h.2.alloc (Nat.le_trans hB h.2.size) o).grown hg (Nat.le_trans hB (by have := h.2.size; simp; omega)) (fun b hb => (h.1.lt b hb).1)
set_option maxHeartbeats 1000000 in
set_option maxRecDepth 100000 in
theorem all_any (a b c d e : Int) (w : World) :
    Calls Tryz.prog 91 #[.agg #[.int .i64 a, .int .i64 b, .int .i64 c, .int .i64 d, .int .i64 e]] w fun r w' => ∃ v, r = .returned v ∧ Own w.heap.size (w.alloc (.cells #[.int .i64 a, .int .i64 b, .int .i64 c, .int .i64 d, .int .i64 e] 22)) w' v (pre a b c d e 5) := by
  obtain ⟨i0, hi, hz0, hz1, hz2⟩ := info_parts info3
  obtain ⟨w0, hw0⟩ : ∃ w0 : World, w0 = w.alloc (.cells #[.int .i64 a, .int .i64 b, .int .i64 c, .int .i64 d, .int .i64 e] 22) := ⟨_, rfl⟩
  have hc0 : ∀ K, K < 5 → w0.cell? ⟨w.heap.size, K, none⟩ = some (.int .i64 (cnt a b c d e K)) := by
    intro K hK
    rw [hw0, World.cell?_alloc_at _ _ _ _ rfl]
    match K, hK with
    | 0, _ => rfl
    | 1, _ => rfl
    | 2, _ => rfl
    | 3, _ => rfl
    | 4, _ => rfl
  have hs0 : w.heap.size + 1 ≤ w0.heap.size := by rw [hw0]; simp
  have HW := Lib.hid hw0; clear hw0
  have HC := Lib.hid hc0; clear hc0
  go_enter Tryz.func91, Tryz.ntmps91
  go_wp2
  rw [← HW.out]
  go_loopw [3, 4] (fun v i wr => ∃ K : Nat, K ≤ 5 ∧ i = .int .i64 K ∧ Own w.heap.size w0 wr v (pre a b c d e K)) (fun _ i _ => 5 - (intOf i).toNat)
  case atStart => exact ⟨0, by omega, rfl, World.ownsRow_nil _ _ _ _, Below.refl _ _⟩
  case round =>
    obtain ⟨K, hK, rfl, ho⟩ := hrel
    by_cases hlt : K < 5
    · obtain ⟨C, hC⟩ : ∃ C : Int, C = cnt a b c d e K := ⟨_, rfl⟩
      have H0 := Lib.hid (HC.out K hlt)
      have hd : decide ((K : Int) < 5) = true := by simp; omega
      have hl := pre_len a b c d e K
      obtain ⟨M, hM⟩ : ∃ M : Nat, M = (many C).toNat := ⟨_, rfl⟩
      have hM12 : M ≤ 12 := by have := many_bd C; omega
      have HM := Lib.hid hM; clear hM
      have HCC := Lib.hid hC; clear hC
      go_wp2
      obtain ⟨wo, rfl⟩ : ∃ wo : World, wo = wr := ⟨_, rfl⟩
      go_loopw [3, 5] (fun v i wr => ∃ j : Nat, j ≤ M ∧ i = .int .i64 j ∧ Own w.heap.size w0 wr v (pre a b c d e K ++ List.replicate j (K : Int))) (fun _ i _ => M - (intOf i).toNat)
      case atStart => exact ⟨0, by omega, rfl, by simpa using ho⟩
      case round =>
        obtain ⟨j, hj, rfl, ho2⟩ := hrel
        have hcell : wr.cell? ⟨w.heap.size, K, none⟩ = some (.int .i64 C) := (ho2.2.cell (by exact Nat.lt_succ_self _)).trans (by rw [HCC.out]; exact H0.out)
        have hsz := ho2.2.size
        by_cases hlt2 : j < M
        · have hb1 : (j : Int) < C := by have := HM.out; unfold many imin imax at this; omega
          have hb2 : (j : Int) < 12 := by omega
          go_wp2_with (at_builtin; refine wpList_append_own _ rfl _ _ 51 rfl (w.heap.size + 1) 3 i0 (.int .i64 0) 1 8 Tryz.underlying51 hi hz0 hz1 hz2 rfl (by decide) _ _ _ rfl (ho2.1.alloc _) ⟨wr.heap.size, 0, none⟩ 1 1 [.int .i64 (K : Int)] rfl rfl ?c1 ?c2 ?c3 ?c4 ?c5 ?_)
          case c1 =>
            intro j u hj
            match j, hj with
            | 0, hj => simp at hj; subst hj; simp [Addr.add]
          case c2 => intro u hu; simp at hu; subst hu; rfl
          case c3 => unfold maxLen; simp; omega
          case c4 => simp; omega
          case c5 => simp; omega
          intro v' w1 hown' hgrow _
          have R := own_step (k := (K : Int)) ho2 hs0 (by simpa [List.append_assoc] using hown') hgrow
          clear hown' hgrow hcell
          go_wp2
          go_roundw
          case rel => exact ⟨j + 1, by omega, by go_num, by simpa [List.replicate_succ', ← List.append_assoc] using R⟩
          case measure => simp [intOf]; omega
        · have hjm : j = M := by omega
          subst hjm
          have HO : Own w.heap.size w0 wr u3 (pre a b c d e (K + 1)) := by
            have := ho2
            rw [HM.out, HCC.out] at this
            exact this
          by_cases hb : C ≤ j
          · go_wp2
            go_roundw
            case rel => exact ⟨K + 1, by omega, by go_num, HO⟩
            case measure => simp [intOf]; omega
          · have hb3 : (j : Int) < C := by omega
            have hb4 : 12 ≤ (j : Int) := by have := HM.out; unfold many imin imax at this; omega
            go_wp2
            go_roundw
            case rel => exact ⟨K + 1, by omega, by go_num, HO⟩
            case measure => simp [intOf]; omega
    · have hK5 : K = 5 := by omega
      subst hK5
      go_wp2
      go_ret
      exact ⟨_, rfl, by rw [← HW.out]; exact ho⟩
theorem pre5 (a b c d e : Int) : pre a b c d e 5 = List.replicate (many a).toNat 0 ++ (List.replicate (many b).toNat 1 ++ (List.replicate (many c).toNat 2 ++ (List.replicate (many d).toNat 3 ++ List.replicate (many e).toNat 4))) := by
  simp [pre, cnt, List.append_assoc]
theorem pre_length (a b c d e : Int) : ((pre a b c d e 5).length : Int) = many a + many b + many c + many d + many e := by
  have := many_bd a; have := many_bd b; have := many_bd c; have := many_bd d; have := many_bd e
  rw [pre5]; simp only [List.length_append, List.length_replicate]; omega
theorem rep_at (n : Nat) (k : Int) (l : List Int) (i : Nat) : (List.replicate n k ++ l).getD i 0 = if i < n then k else l.getD (i - n) 0 := by
  rw [List.getD_eq_getElem?_getD, List.getElem?_append]
  simp only [List.length_replicate, List.getElem?_replicate]
  split <;> simp
theorem pre_at (a b c d e : Int) (i : Nat) (h : i < (pre a b c d e 5).length) : (pre a b c d e 5).getD i 0 = kindOf a b c d e (i + 1) := by
  have := many_bd a; have := many_bd b; have := many_bd c; have := many_bd d; have := many_bd e
  have hl := pre_length a b c d e
  rw [pre5, rep_at, rep_at, rep_at, rep_at, List.getD_eq_getElem?_getD, List.getElem?_replicate]
  by_cases h1 : i < (many a).toNat
  · rw [if_pos h1]; unfold kindOf; omega
  rw [if_neg h1]
  by_cases h2 : i - (many a).toNat < (many b).toNat
  · rw [if_pos h2]; unfold kindOf; omega
  rw [if_neg h2]
  by_cases h3 : i - (many a).toNat - (many b).toNat < (many c).toNat
  · rw [if_pos h3]; unfold kindOf; omega
  rw [if_neg h3]
  by_cases h4 : i - (many a).toNat - (many b).toNat - (many c).toNat < (many d).toNat
  · rw [if_pos h4]; unfold kindOf; omega
  rw [if_neg h4, if_pos (by omega)]
  show (4 : Int) = _
  unfold kindOf; omega
end Go.Proofs.YtpocihddecemfaaGreat.Lay
