/- A row of integers of the call's own; the document's places, behind a closure. -/
import Derived.Test.YtgnnhjadmepipaaPlace
namespace Go.Proofs.Ytgnnhjadmepipaa
open Go.RowKit
set_option linter.unusedVariables false

theorem info3 : (Try.prog.info? 3).map (fun i => (i.zero, i.size, i.bytes)) = some (some (.int .i64 0), 1, 8) := by kernel_rfl
theorem grown_of_below {a b : World} {row : Option Nat} (h : Below a.heap.size a b) : a.grownBy b row :=
  ⟨h.os, h.tape, h.output, h.size, fun i hi _ => h.block i hi⟩
/-- A row of integers of the call's own. -/
def OwnI (k : IntKind) (e : TypeId) (B : Nat) (w0 wr : World) (v : Value) (l : List Int) : Prop :=
  wr.ownsRow B e 1 v l.length (l.map (Value.int k)) ∧ Below B w0 wr
theorem OwnI.nil {k : IntKind} {e : TypeId} {B : Nat} {w0 wr : World} (h : Below B w0 wr) : OwnI k e B w0 wr (.slice none 0 0) [] := ⟨World.ownsRow_nil _ _ _ _, h⟩
theorem OwnI.step {k : IntKind} {e : TypeId} {B : Nat} {w0 wr w' : World} {v : Value} {l : List Int} (h : OwnI k e B w0 wr v l) (hB : B ≤ w0.heap.size) (hb : Below wr.heap.size wr w') : OwnI k e B w0 w' v l :=
  ⟨h.1.kept (grown_of_below (row := none) hb) (by cases v.ownBlock <;> simp), below_step h.2 (Nat.le_trans hB h.2.size) hb⟩
theorem OwnI.alloc {k : IntKind} {e : TypeId} {B : Nat} {w0 wr : World} {v : Value} {l : List Int} (h : OwnI k e B w0 wr v l) (hB : B ≤ w0.heap.size) (o : Obj) : OwnI k e B w0 (wr.alloc o) v l :=
  ⟨h.1.alloc o, h.2.alloc (Nat.le_trans hB h.2.size) o⟩
theorem OwnI.reads {k : IntKind} {e : TypeId} {B : Nat} {w0 wr : World} {v : Value} {l : List Int} (h : OwnI k e B w0 wr v l) : ∃ A cap, v = .slice A l.length cap ∧ Reads k wr A l ∧ (A = none → cap = 0) ∧ l.length ≤ cap ∧ cap ≤ maxLen := by
  obtain ⟨ho, hb⟩ := h
  have hlt := ho.lt
  have hcell := fun g (hg : v.ownBlock = some g) => ho.cells hg
  obtain ⟨hl, ⟨h1, h2⟩ | ⟨g, cap, cur, h1, h2, h3, h4, h5, h6, h7⟩⟩ := ho
  · exact ⟨none, 0, by rw [h1, h2], fun h => by omega, fun _ => rfl, by omega, by unfold maxLen; omega⟩
  · refine ⟨_, cap, h1, fun _ => ⟨g, 0, rfl, (hlt g (by rw [h1]; rfl)).2, fun i hi => ?_⟩, (fun e => by cases e), h4, h5⟩
    have c0 := hcell g (by rw [h1]; rfl) i _ (map_get k l i hi)
    rw [add_off] at c0
    exact c0

/-- An append of one integer that has just been built. -/
theorem append_int {k : IntKind} {wr : World} {T : TypeId} {x : Int} {ops : Array Oper} {rest : List Oper} {o : Oper} {a : Act} {Q : Exit → Act → World → Prop} (hg : o.guard = none) (s c : Operand) (t e : TypeId)
    (ho : o.op = .call { callee := .builtin .append, args := #[s, c], argTypes := #[t, t] }) (ht : Try.prog.underlying t = some (.slice e))
    (hi : (Try.prog.info? e).map (fun i => (i.zero, i.size, i.bytes)) = some (some (.int k 0), 1, 8))
    (B : Nat) (w0 : World) (v : Value) (l : List Int) (hs : a.eval s = v) (hown : OwnI k e B w0 wr v l) (hx : a.eval c = .slice (some ⟨wr.heap.size, 0, none⟩) 1 1) (hl : l.length ≤ 100000) (hB : B ≤ w0.heap.size)
    (h : ∀ v' w', OwnI k e B w0 w' v' (l ++ [x]) → wpList Try.prog ops Q rest (a.put o.dst v') w') :
    wpList Try.prog ops Q (o :: rest) a (wr.alloc (.cells #[.int k x] T)) := by
  obtain ⟨i0, hi0, hz0, hz1, hz2⟩ := info_parts hi
  have hsz := hown.2.size
  have hn := hown.alloc hB (.cells #[.int k x] T)
  refine wpList_append_own _ hg s c t ho B e i0 _ 1 8 ht hi0 hz0 hz1 hz2 rfl (by decide) v l.length _ hs hn.1 ⟨wr.heap.size, 0, none⟩ 1 1 [.int k x] hx rfl ?_ ?_ (by unfold maxLen; omega) (by omega) (by simp; omega) ?_
  · intro j u hj
    rw [add_off, World.cell?_alloc_at _ _ _ _ rfl]
    match j, hj with
    | 0, hj => simp at hj; subst hj; rfl
  · intro u hu
    simp at hu
    rcases hu with rfl
    rfl
  · intro v' w' h1 h2 _
    refine h v' w' ⟨by simpa using h1, hn.2.grown h2 (by simp; omega) (fun b hb => (hn.1.lt b hb).1)⟩

/-- Where it lies. -/
theorem OwnI.blk {k : IntKind} {e : TypeId} {B : Nat} {w0 wr : World} {v : Value} {l : List Int} (h : OwnI k e B w0 wr v l) : ∃ A cap, v = .slice A l.length cap ∧ (0 < l.length → ∃ b off, A = some ⟨b, off, none⟩ ∧ B ≤ b ∧ b < wr.heap.size ∧ ∀ j, j < l.length → wr.cell? ⟨b, off + j, none⟩ = some (.int k (l.getD j 0))) := by
  obtain ⟨ho, hb⟩ := h
  have hlt := ho.lt
  have hcell := fun g (hg : v.ownBlock = some g) => ho.cells hg
  obtain ⟨hl, ⟨h1, h2⟩ | ⟨g, cap, cur, h1, h2, h3, h4, h5, h6, h7⟩⟩ := ho
  · exact ⟨none, 0, by rw [h1, h2], fun h => by omega⟩
  · refine ⟨_, cap, h1, fun _ => ⟨g, 0, rfl, (hlt g (by rw [h1]; rfl)).1, (hlt g (by rw [h1]; rfl)).2, fun i hi => ?_⟩⟩
    have c0 := hcell g (by rw [h1]; rfl) i _ (map_get k l i hi)
    rw [add_off] at c0
    exact c0

/-- The numbers from 1 on. -/
def upto (n : Nat) : List Int := (List.range n).map fun (i : Nat) => ((i + 1 : Nat) : Int)
theorem upto_len (n : Nat) : (upto n).length = n := by simp [upto]
theorem upto_succ (n : Nat) : upto (n + 1) = upto n ++ [((n + 1 : Nat) : Int)] := by simp [upto, List.range_succ]

set_option maxHeartbeats 1000000 in
theorem row_any (n : Nat) (w : World) (hn : n ≤ 1000) :
    Calls Try.prog 28 #[.int .i64 n] w fun e w' => ∃ v, e = .returned v ∧ OwnI .i64 3 w.heap.size w w' v (upto n) := by
  go_enter Try.func28, Try.ntmps28
  go_wp2
  go_loopw [3, 4] (fun v i wr => ∃ (k : Nat), k ≤ n ∧ i = .int .i64 ((k : Int) + 1) ∧ OwnI .i64 3 w.heap.size w wr v (upto k)) (fun _ i _ => n + 1 - (intOf i).toNat)
  case atStart => exact ⟨0, Nat.zero_le _, rfl, OwnI.nil (Below.refl _ _)⟩
  case round =>
    obtain ⟨k, hk, rfl, hO⟩ := hrel
    by_cases hlt : k < n
    · have h1 : decide ((k : Int) + 1 ≤ (n : Int)) = true := by simp; omega
      have hlen : (upto k).length ≤ 100000 := by rw [upto_len]; omega
      have HO := Lib.hid hO
      have HL := Lib.hid hlen
      clear hO hlen
      go_wp2_with (first
        | (at_builtin; refine append_int rfl _ _ 23 3 rfl Try.underlying23 info3 _ _ _ _ rfl HO.out rfl ?_ ?_ ?_; (exact HL.out); (exact Nat.le_refl _); intro v' w5 HO5)
        | fail)
      go_roundw
      case rel => exact ⟨k + 1, by omega, by go_num, by rw [upto_succ]; exact HO5⟩
      case measure => simp [intOf]; omega
    · obtain rfl : k = n := by omega
      have h1 : decide ((k : Int) + 1 ≤ (k : Int)) = false := by simp; omega
      have HO := Lib.hid hO
      clear hO
      go_wp2
      go_ret
      exact ⟨_, rfl, HO.out⟩

/-- A closure over places that read so, with nothing of it below lo. -/
def NewLk (w : World) (lo : Nat) (zs : List Int) (e : Ending) (w' : World) : Prop :=
  ∃ Bx Ab, e = .returned (lkV Bx) ∧ Lk w' Bx Ab zs ∧ w.heap.size ≤ Bx ∧ lo ≤ Ab ∧ Below w.heap.size w w'
theorem new_lk {A : Option Addr} {n cap lo : Nat} {zs : List Int} (w : World) (hn : n = zs.length) (hl : n ≤ 1000000) (hlo : lo ≤ w.heap.size)
    (h : 0 < zs.length → ∃ b off, A = some ⟨b, off, none⟩ ∧ lo ≤ b ∧ b < w.heap.size ∧ ∀ j, j < zs.length → w.cell? ⟨b, off + j, none⟩ = some (.int .i64 (zs.getD j 0))) :
    NewLk w lo zs (.returned (lkV w.heap.size)) (w.alloc (.cells #[.slice A n cap] 23)) := by
  subst hn
  have hb : Below w.heap.size w (w.alloc (.cells #[.slice A zs.length cap] 23)) := below_alloc0 (Below.refl _ _) _
  have hnew : (w.alloc (.cells #[.slice A zs.length cap] 23)).heap[w.heap.size]? = some (.cells #[.slice A zs.length cap] 23 (0, 0)) := by
    show (w.heap.push _)[w.heap.size]? = _
    simp
  have hsz : (w.alloc (.cells #[.slice A zs.length cap] 23)).heap.size = w.heap.size + 1 := by simp
  by_cases h0 : 0 < zs.length
  · obtain ⟨b, off, rfl, h1, h2, hc⟩ := h h0
    exact ⟨w.heap.size, b, rfl, ⟨_, cap, hnew, by omega, hl, fun _ => ⟨off, rfl, fun j hj => (hb.cell (p := ⟨b, off + j, none⟩) h2).trans (hc j hj)⟩⟩, Nat.le_refl _, h1, hb⟩
  · exact ⟨w.heap.size, w.heap.size, rfl, ⟨_, cap, hnew, by omega, hl, fun h => absurd h h0⟩, Nat.le_refl _, hlo, hb⟩

set_option maxHeartbeats 1000000 in
theorem links_any (A : Option Addr) (n cap lo : Nat) (zs : List Int) (w : World) (hn : n = zs.length) (hl : n ≤ 1000000) (hlo : lo ≤ w.heap.size)
    (h : 0 < zs.length → ∃ b off, A = some ⟨b, off, none⟩ ∧ lo ≤ b ∧ b < w.heap.size ∧ ∀ j, j < zs.length → w.cell? ⟨b, off + j, none⟩ = some (.int .i64 (zs.getD j 0))) :
    Calls Try.prog 9 #[.slice A n cap] w (NewLk w lo zs) := by
  have hmf : ∀ (fn : Fn) (first cap : Array Value) (w : World), (Instr.makeFunc fn first cap).run Try.prog w = .ok (.func fn first cap) w := fun _ _ _ _ => rfl
  have HN := Lib.hid (new_lk (cap := cap) w hn hl hlo h)
  clear h hn hlo
  go_enter Try.func9, Try.ntmps9
  go_wp2
  go_ret
  exact HN.out
end Go.Proofs.Ytgnnhjadmepipaa
