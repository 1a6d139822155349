/- Picks that leave nobody out: Fair and the document's, walked. -/
import Derived.Test.YtadfdpkmegaloaaModel
namespace Go.Proofs.Ytadfdpkmegaloaa
open Go.RowKit
set_option linter.unusedVariables false

def imax (x y : Int) : Int := if y > x then y else x
def imin (x y : Int) : Int := if y < x then y else x
@[go_sem ↓ high] theorem run_imax {P : Program} {w : World} (ts : Array TypeId) (t : TypeId) (k k' : IntKind) (x y : Int) : (Builtin.max_ ts t #[.int k x, .int k' y]).run P w = .ok (.int k (imax x y)) w := run_max_int2 ..
@[go_sem ↓ high] theorem run_imin {P : Program} {w : World} (ts : Array TypeId) (t : TypeId) (k k' : IntKind) (x y : Int) : (Builtin.min_ ts t #[.int k x, .int k' y]).run P w = .ok (.int k (imin x y)) w := run_min_int2 ..

/-- A pick in a block of its own, apart from the row. -/
def Apart (T : Nat) (x d : Int) (wr : World) (v : Value) : Prop :=
  wr.cell? ⟨T, 0, none⟩ = some (.int .i64 x) ∧ wr.cell? ⟨T, 1, none⟩ = some (.int .i64 d) ∧ T < wr.heap.size ∧ v.ownBlock ≠ some T
theorem Apart.alloc {T : Nat} {x d : Int} {wr : World} {v : Value} (h : Apart T x d wr v) (o : Obj) : Apart T x d (wr.alloc o) v :=
  ⟨(World.cell?_alloc_past _ _ _ h.2.2.1).trans h.1, (World.cell?_alloc_past _ _ _ h.2.2.1).trans h.2.1, by have := h.2.2.1; simp; omega, h.2.2.2⟩

/-- An append that leaves a block apart as it was. -/
theorem append_apart {wr : World} {T' : TypeId} {x y : Int} {ops : Array Oper} {rest : List Oper} {o : Oper} {a : Act} {Q : Exit → Act → World → Prop} (hg : o.guard = none) (s c : Operand) (t e : TypeId)
    (ho : o.op = .call { callee := .builtin .append, args := #[s, c], argTypes := #[t, t] }) (ht : Try.prog.underlying t = some (.slice e))
    (hi : (Try.prog.info? e).map (fun i => (i.zero, i.size, i.bytes)) = some (some (.agg #[.int .i64 0, .int .i64 0]), 2, 16))
    (B : Nat) (w0 : World) (v : Value) (l : List Pk) (hs : a.eval s = v) (hown : OwnP e B w0 wr v l) (T : Nat) (p d : Int) (hap : Apart T p d wr v) (N : Nat) (hx : a.eval c = .slice (some ⟨N, 0, none⟩) 1 1) (hN : N = wr.heap.size) (hl : l.length ≤ 100000) (hB : B ≤ w0.heap.size)
    (h : ∀ v' w', OwnP e B w0 w' v' (l ++ [(x, y)]) → Apart T p d w' v' → wpList Try.prog ops Q rest (a.put o.dst v') w') :
    wpList Try.prog ops Q (o :: rest) a (wr.alloc (.cells #[.int .i64 x, .int .i64 y] T')) := by
  subst hN
  obtain ⟨i0, hi0, hz0, hz1, hz2⟩ := info_parts hi
  have hsz := hown.2.size
  have hn := hown.alloc hB (.cells #[.int .i64 x, .int .i64 y] T')
  have hap2 := hap.alloc (.cells #[.int .i64 x, .int .i64 y] T')
  refine wpList_append_lies _ hg s c t ho B e i0 _ 2 16 ht hi0 hz0 hz1 hz2 rfl (by decide) v l.length _ hs hn.1 ⟨wr.heap.size, 0, none⟩ 1 1 [.int .i64 x, .int .i64 y] hx rfl ?_ ?_ (by decide) (by unfold maxLen; omega) (by omega) (by simp; omega) _ rfl ?_
  · intro j u hj
    rw [add_off, World.cell?_alloc_at _ _ _ _ rfl]
    match j, hj with
    | 0, hj => simp at hj; subst hj; rfl
    | 1, hj => simp at hj; subst hj; rfl
  · intro u hu
    simp at hu
    rcases hu with rfl | rfl <;> rfl
  · intro g cap w' h1 h2 h3 h4
    refine h _ w' ⟨by rw [List.length_append, flat_app]; exact h1, hn.2.grown h2 (by simp; omega) (fun b hb => (hn.1.lt b hb).1)⟩ ?_
    have hb := h2.block T hap2.2.2.1 (Ne.symm hap2.2.2.2)
    refine ⟨(World.cell?_of_block hb).trans hap2.1, (World.cell?_of_block hb).trans hap2.2.1, Nat.lt_of_lt_of_le hap2.2.2.1 h2.size, ?_⟩
    intro e
    have e2 : g = T := by simpa [Value.ownBlock] using e
    rcases h3 with h3 | h3
    · rw [e2] at h3; exact hap.2.2.2 h3
    · have := hap2.2.2.1; omega

set_option maxHeartbeats 4000000 in
set_option maxRecDepth 100000 in
theorem fair_any (A : Option Addr) (cap n : Nat) (l : List Pk) (all : Int) (w : World) (hn : n = l.length) (h : ReadsP w A l) (hb : n ≤ 300) :
    Calls Try.prog 19 #[.slice A n cap, .int .i64 all] w (SomeP 36 (fairL l (fairN all)) w) := by
  have HN := Lib.hid hn
  have HR := Lib.hid h
  have hF := fairN_le all
  have hFe : imin (imax all 0) 16 = (fairN all : Int) := by unfold imin imax fairN; split <;> split <;> (try split) <;> omega
  obtain ⟨F, hFF⟩ : ∃ F, F = fairN all := ⟨_, rfl⟩
  rw [← hFF] at hF hFe ⊢
  clear h hn hFF
  go_enter Try.func19, Try.ntmps19
  go_wp2
  clear hFe
  go_loopw [5, 15] (fun v i wr => ∃ (k : Nat), k ≤ n ∧ i = .int .i64 (k : Int) ∧ OwnP 36 w.heap.size w wr v (fairTo l F k)) (fun _ i _ => n - (intOf i).toNat)
  case atStart => exact ⟨0, Nat.zero_le _, rfl, OwnP.nil (Below.refl _ _)⟩
  case round =>
    obtain ⟨k, hk, rfl, hO⟩ := hrel
    by_cases hlt : k < n
    · obtain ⟨b, off, rfl, hbl, hcell⟩ := HR.out (by have := HN.out; omega)
      have c1 := (hO.2.cell (p := ⟨b, off + k * 2, none⟩) hbl).trans (hcell k (by have := HN.out; omega)).1
      have c2 : wr.cell? ⟨b, off + k * 2 + 1, none⟩ = _ := (hO.2.cell (p := ⟨b, off + (k * 2 + 1), none⟩) hbl).trans (hcell k (by have := HN.out; omega)).2
      have hst := fairTo_succ l F k (by have := HN.out; omega)
      have hlen := fairTo_len l F k (by have := HN.out; omega)
      have hlen2 : k * (F + 1) ≤ 300 * 17 := Nat.mul_le_mul (by omega) (by omega)
      obtain ⟨p, hp⟩ : ∃ p, p = at_ l k := ⟨_, rfl⟩
      rw [← hp] at c1 c2 hst
      have HS := Lib.hid hst
      have HL : Hid ((fairTo l F k).length ≤ 5100) := Lib.hid (by omega)
      obtain ⟨T, hT⟩ : ∃ T, T = wr.heap.size := ⟨_, rfl⟩
      have hap : Apart T p.1 p.2 (wr.alloc (.cells #[.int .i64 p.1, .int .i64 p.2] 36)) u5 := by
        refine ⟨?_, ?_, by rw [hT]; simp, ?_⟩
        · rw [hT, World.cell?_alloc_at _ _ _ _ rfl]; rfl
        · rw [hT, World.cell?_alloc_at _ _ _ _ rfl]; rfl
        · intro e; have := (hO.1.lt T e).2; omega
      have HAP := Lib.hid hap
      have HO := Lib.hid hO
      have HTT := Lib.hid hT
      obtain ⟨x, d⟩ := p
      clear hst hlen hlen2 hp hcell hbl hap hO hT
      go_wp2_with (at_builtin; refine append_apart rfl _ _ 23 36 rfl Try.underlying23 info36 _ _ _ _ rfl (HO.out.alloc (Nat.le_refl _) _) _ _ _ HAP.out _ rfl ?_ ?_ ?_ ?_; simp; (have := HL.out; omega); (exact Nat.le_refl _); intro v' w5 HO5 HA5)
      rw [← HTT.out]
      go_loopw [5, 24] (fun v i wr => ∃ (j : Nat), j ≤ F ∧ i = .int .i64 (j : Int) ∧ OwnP 36 w.heap.size w wr v ((fairTo l F k ++ [(x, d)]) ++ othersTo (x, d) j) ∧ Apart T x d wr v) (fun _ i _ => F - (intOf i).toNat)
      case atStart => exact ⟨0, Nat.zero_le _, rfl, by rw [othersTo_zero, List.append_nil]; exact HO5, HA5⟩
      case round =>
        clear HO5 HA5
        obtain ⟨j, hj, rfl, hO, hA⟩ := hrel
        have hol := othersTo_len (x, d) j
        have hos := othersTo_succ (x, d) j
        simp only at hos
        by_cases hjF : j < F
        · obtain ⟨a1, a2, a3, a4⟩ := hA
          have hHA : Apart T x d wr u5 := ⟨a1, a2, a3, a4⟩
          have HA := Lib.hid hHA
          have HO2 := Lib.hid hO
          have HL2 : Hid (((fairTo l F k ++ [(x, d)]) ++ othersTo (x, d) j).length ≤ 6000) := Lib.hid (by simp only [List.length_append, List.length_singleton]; have := HL.out; omega)
          by_cases hjx : (j : Int) = x
          · rw [if_pos hjx, List.append_nil] at hos
            have HOS := Lib.hid hos
            have hR : Hid (OwnP 36 w.heap.size w (wr.alloc (.cells #[.int .i64 j, .int .i64 d] 36)) u5 ((fairTo l F k ++ [(x, d)]) ++ othersTo (x, d) (j + 1)) ∧ Apart T x d (wr.alloc (.cells #[.int .i64 j, .int .i64 d] 36)) u5) := Lib.hid ⟨by rw [hos]; exact hO.alloc (Nat.le_refl _) _, hHA.alloc _⟩
            have hjt : ((j : Int) = x) = True := eq_true hjx
            clear hos hol hO hHA hjx
            go_wp2
            go_roundw
            case rel => exact ⟨j + 1, by omega, by go_num, hR.out.1, hR.out.2⟩
            case measure => simp [intOf]; omega
          · rw [if_neg hjx] at hos
            have HOS := Lib.hid hos
            clear hos hol hO hHA
            go_wp2_with (at_builtin; refine append_apart rfl _ _ 23 36 rfl Try.underlying23 info36 _ _ _ _ rfl (HO2.out.alloc (Nat.le_refl _) _) _ _ _ (HA.out.alloc _) _ rfl ?_ ?_ ?_ ?_; simp; (have := HL2.out; omega); (exact Nat.le_refl _); intro v' w6 HO6 HA6)
            go_roundw
            case rel => exact ⟨j + 1, by omega, by go_num, by rw [HOS.out, ← List.append_assoc]; exact HO6, HA6⟩
            case measure => simp [intOf]; omega
        · obtain rfl : j = F := by omega
          have HO2 := Lib.hid hO
          clear hos hol hO hA
          go_wp2
          go_roundw
          case rel => exact ⟨k + 1, by omega, by go_num, by rw [HS.out]; exact HO2.out⟩
          case measure => simp [intOf]; omega
    · have hd : fairTo l F k = fairL l F := by rw [← fairTo_done, ← HN.out, show k = n by omega]
      have HD := Lib.hid hd
      have HO := Lib.hid hO
      clear hd hO
      go_wp2
      go_ret
      exact ⟨_, rfl, by rw [← HD.out]; exact HO.out⟩
end Go.Proofs.Ytadfdpkmegaloaa
