/- Words of two numbers: parted, put together, turned; walked. A stack's machines: one that runs alone, in a stack, and in any memory; a walk. Where links stand: the map's own methods Link and Next as functions; what catches their panics. -/
import Derived.Test.YtbpkcoemehmpbaaJ1
import Derived.Test.YtbpkcoemehmpbaaSkPure
import Derived.Test.YtbpkcoemehmpbaaJ14
import Derived.Test.YtbpkcoemehmpbaaLayAcc
import Derived.Defers
import Derived.Recover
import Derived.Laws.EntriesVeiled
namespace Go.Proofs.Ytbpkcoemehmpbaa
open Go.RowKit
set_option linter.unusedVariables false

theorem bcell {W w1 : World} (hb : Below W.heap.size W w1) : (∀ b o, b < W.heap.size → w1.cell? ⟨b, o, none⟩ = W.cell? ⟨b, o, none⟩) ∧ (∀ b o, b < W.heap.size → w1.frozen? ⟨b, o, none⟩ = W.frozen? ⟨b, o, none⟩) :=
  ⟨fun b o h => hb.cell (p := ⟨b, o, none⟩) h, fun b o h => hb.frozen (p := ⟨b, o, none⟩) h⟩

set_option maxHeartbeats 400000 in
theorem part_any (b x : Int) (hb : 1 ≤ b) (hb2 : b ≤ 18446744073709551615) (hx : 0 ≤ x) (hx2 : x ≤ 18446744073709551615) (w : World) :
    Calls Try.prog 70 #[.int .u64 b, .int .u64 x] w fun e w' => e = .returned (.agg #[.int .u64 (x / b), .int .u64 (x % b)]) ∧ Below w.heap.size w w' := by
  go_enter Try.func70, Try.ntmps70
  go_wp2
  go_region
  all_goals go_wp2
  all_goals (refine bodyPost_ret (v := .agg #[.int .u64 (x / b), .int .u64 (x % b)]) (by simp [results, Try.results70, go_sem]) rfl ⟨rfl, ?_⟩)
  all_goals exact ((Below.refl _ _).alloc (Nat.le_refl _) _).drew

set_option linter.unusedVariables false in
set_option maxHeartbeats 400000 in
theorem join_any (b x y : Int) (hb : 1 ≤ b) (hb2 : b ≤ 18446744073709551615) (hx : 0 ≤ x) (hx2 : x ≤ 18446744073709551615) (hy : 0 ≤ y) (hy2 : y ≤ 18446744073709551615) (w : World) :
    Calls Try.prog 50 #[.int .u64 b, .agg #[.int .u64 x, .int .u64 y]] w fun e w' => e = .returned (.int .u64 (IntKind.u64.wrap (IntKind.u64.wrap (x * b) + y % b))) ∧ Below w.heap.size w w' := by
  go_enter Try.func50, Try.ntmps50
  go_wp2
  go_quiet (fail)
  go_wp2
  go_ret
  exact ⟨rfl, below_drewN ((Below.refl _ _).alloc (Nat.le_refl _) _) _⟩

set_option maxHeartbeats 400000 in
theorem split_any (x : Int) (hx : 0 ≤ x) (hx2 : x ≤ 18446744073709551615) (w : World) :
    Calls Try.prog 64 #[.int .u64 x] w fun e w' => e = .returned (.tuple #[.int .u32 (x / 4294967296), .int .u32 (x % 4294967296)]) ∧ Below w.heap.size w w' := by
  go_enter Try.func64, Try.ntmps64
  go_wp2_with (go_at_call 70; refine (part_any 4294967296 x (by omega) (by omega) hx hx2 _).mono ?_; rintro e w1 ⟨rfl, hb⟩)
  go_quiet (fail)
  go_wp2
  go_ret2
  exact ⟨rfl, below_drewN ((hb.alloc hb.size _)) _⟩

set_option maxHeartbeats 400000 in
theorem pair_any (x y : Int) (hx : 0 ≤ x) (hx2 : x ≤ 4294967295) (hy : 0 ≤ y) (hy2 : y ≤ 4294967295) (w : World) :
    Calls Try.prog 26 #[.int .u32 x, .int .u32 y] w fun e w' => e = .returned (.int .u64 (x * 4294967296 + y)) ∧ Below w.heap.size w w' := by
  go_enter Try.func26, Try.ntmps26
  go_wp2_with (go_at_call 50; refine (join_any 4294967296 x y (by omega) (by omega) hx (by omega) hy (by omega) _).mono ?_; rintro e w1 ⟨rfl, hb⟩)
  go_ret
  exact ⟨ret_int (by rw [IntKind.wrap_u64, IntKind.wrap_u64]; omega), hb⟩

set_option maxHeartbeats 400000 in
theorem turn_any (x y : Int) (hx : 0 ≤ x) (hx2 : x ≤ 18446744073709551615) (hy : 0 ≤ y) (hy2 : y ≤ 4294967295) (w : World) :
    Calls Try.prog 89 #[.int .u64 x, .int .u32 y] w fun e w' => e = .returned (.int .u64 ((x / 4294967296 + 1) % 4294967296 * 4294967296 + y)) ∧ Below w.heap.size w w' := by
  go_enter Try.func89, Try.ntmps89
  go_wp2_with (first | (go_at_call 64; refine (split_any x hx hx2 _).mono ?_; rintro e w1 ⟨rfl, hb⟩) | (go_at_call 26; refine (pair_any (IntKind.u32.wrap (x / 4294967296 + 1)) y (by rw [IntKind.wrap_u32]; omega) (by rw [IntKind.wrap_u32]; omega) hy hy2 _).mono ?_; rintro e w2 ⟨rfl, hb2⟩))
  go_ret
  exact ⟨ret_int (by rw [IntKind.wrap_u32]), below_step hb hb.size hb2⟩

/-- A word's low number. -/
def lowOf (x : Int) : Int := x % 4294967296
def hiOf (x : Int) : Int := x / 4294967296
def turnOf (x n : Int) : Int := (hiOf x + 1) % 4294967296 * 4294967296 + n
theorem lowOf_rng (x : Int) : 0 ≤ lowOf x ∧ lowOf x ≤ 4294967295 := by unfold lowOf; omega

set_option maxHeartbeats 400000 in
theorem low_any (x : Int) (hx : 0 ≤ x) (hx2 : x ≤ 18446744073709551615) (w : World) :
    Calls Try.prog 68 #[.int .u64 x] w fun e w' => e = .returned (.int .u32 (lowOf x)) ∧ Below w.heap.size w w' := by
  go_enter Try.func68, Try.ntmps68
  go_wp2_with (first | (go_at_call 64; (with_reducible refine (split_any x hx hx2 _).mono ?_); rintro e w1 ⟨rfl, hb⟩) | fail)
  go_ret
  exact ⟨rfl, hb⟩
theorem turnw_any (x y : Int) (hx : 0 ≤ x) (hx2 : x ≤ 18446744073709551615) (hy : 0 ≤ y) (hy2 : y ≤ 4294967295) (w : World) :
    Calls Try.prog 89 #[.int .u64 x, .int .u32 y] w fun e w' => e = .returned (.int .u64 (turnOf x y)) ∧ Below w.heap.size w w' := turn_any x y hx hx2 hy hy2 w
end Go.Proofs.Ytbpkcoemehmpbaa

namespace Go.Proofs.Ytbpkcoemehmpbaa
set_option linter.unusedVariables false
set_option linter.unusedSimpArgs false

def sruns : Nat → List Int → Sm → List Int × Sm
  | 0, L, m => (L, m)
  | k + 1, L, m => sruns k (sstp L m).1 (sstp L m).2
theorem sstp_no {L : List Int} {m : Sm} (h : m.pc = 0) : sstp L m = (L, m) := by simp [sstp, h]
theorem sruns_done {L : List Int} {m : Sm} (h : m.pc = 0) (k : Nat) : sruns k L m = (L, m) := by
  induction k with
  | zero => rfl
  | succ k ih => simp only [sruns, sstp_no h]; exact ih

/-! The steps, one by one. -/
theorem push_first {L : List Int} {m : Sm} (hk : m.kind = 1) (hp : m.pc = 1) {w : Int} (hw : ldq L m.k.head = w) :
    sstp L m = (L, { m with pc := 2, h := w, link := low w, tries := m.tries + 1 }) := by
  subst hw; simp [sstp, hk, hp]
theorem push_link {L : List Int} {m : Sm} (hk : m.kind = 1) (hp : m.pc = 2) : sstp L m = (ptq L (atOf m.k.links m.item) m.link, { m with pc := 3 }) := by
  simp [sstp, hk, hp]
theorem pop_link {L : List Int} {m : Sm} (hk : m.kind = 2) (hp : m.pc = 2) : sstp L m = (L, { m with pc := 3, link := low (ldq L (atOf m.k.links m.item)) }) := by
  simp [sstp, hk, hp]
theorem push_swap {L : List Int} {m : Sm} (hk : m.kind = 1) (hp : m.pc = 3) : sstp L m = swapS L m m.item := by
  simp [sstp, hk, hp]
theorem pop_swap {L : List Int} {m : Sm} (hk : m.kind = 2) (hp : m.pc = 3) : sstp L m = swapS L m m.link := by
  simp [sstp, hk, hp]

end Go.Proofs.Ytbpkcoemehmpbaa

namespace Go.Proofs.Ytbpkcoemehmpbaa
open Go.RowKit
set_option linter.unusedVariables false

/-- The places of packets' links, and of nodes' next ones, as lists. -/
def lnkL (c : Lay.Cfg) : List Int := (List.range (Lay.packN c).toNat).map fun (i : Nat) => Lay.plcc c 12 ((i : Int) + 1) 0
def nxtL (c : Lay.Cfg) : List Int := (List.range (Lay.nodesN c).toNat).map fun (i : Nat) => Lay.plcc c 17 ((i : Int) + 1) 0
theorem lnk_len (c : Lay.Cfg) : (lnkL c).length = (Lay.packN c).toNat := by simp [lnkL]
theorem nxt_len (c : Lay.Cfg) : (nxtL c).length = (Lay.nodesN c).toNat := by simp [nxtL]
theorem atOf_row (n : Nat) (f : Int → Int) (x : Int) (h : ∀ x, x < 1 ∨ (n : Int) < x → f x = -1) : atOf ((List.range n).map fun (i : Nat) => f ((i : Int) + 1)) x = f x := by
  unfold atOf
  simp only [List.length_map, List.length_range]
  by_cases hx : 1 ≤ x ∧ x ≤ (n : Int)
  · rw [if_pos hx]
    obtain ⟨i, hi⟩ : ∃ i : Nat, x = (i : Int) + 1 := ⟨(x - 1).toNat, by omega⟩
    subst hi
    have e : ((i : Int) + 1 - 1).toNat = i := by omega
    rw [e]
    simp [List.getD, show i < n by omega]
  · rw [if_neg hx, h x (by omega)]
theorem lnk_at {c : Lay.Cfg} (hc : Lay.OkC c) (x : Int) : atOf (lnkL c) x = Lay.plcc c 12 x 0 := by
  refine atOf_row _ (fun x => Lay.plcc c 12 x 0) x fun x hx => ?_
  have h0 := (Lay.bds hc).p0
  unfold Lay.plcc Lay.plc
  rw [if_neg (by simp), if_neg (by simp), if_neg (by simp), if_neg (by simp), if_neg (by simp), if_neg (by simp), if_neg (by simp), if_neg (by simp), if_pos (by simp)]
  exact if_neg (show ¬ (1 ≤ x ∧ x ≤ (((Lay.packN c).toNat : Nat) : Int)) by omega)
theorem nxt_at' {c : Lay.Cfg} (hc : Lay.OkC c) (x : Int) : atOf (nxtL c) x = Lay.plcc c 17 x 0 := by
  refine atOf_row _ (fun x => Lay.plcc c 17 x 0) x fun x hx => ?_
  have hl := Lay.ks_len hc
  unfold Lay.plcc Lay.plc
  rw [if_neg (by simp), if_neg (by simp), if_neg (by simp), if_neg (by simp), if_neg (by simp), if_neg (by simp), if_neg (by simp), if_neg (by simp), if_neg (by simp), if_neg (by simp), if_pos (by simp)]
  have e : (Lay.roomsN c).length = (Lay.ksOf c).length := by simp [Lay.roomsN]
  exact if_neg (show ¬ (1 ≤ x ∧ x ≤ (((Lay.roomsN c).length : Nat) : Int)) by omega)

/-- A function that tells where links stand. -/
def Lk (w : World) (lv : Value) (Ab : Nat) (zs : List Int) : Prop :=
  ∃ c, Lay.OkC c ∧ Lay.IsMap w Ab c ∧ ((lv = .func (.func 57) #[Lay.mapP Ab] #[] ∧ zs = lnkL c) ∨ (lv = .func (.func 19) #[Lay.mapP Ab] #[] ∧ zs = nxtL c))
theorem Lk.lt {w : World} {lv : Value} {Ab : Nat} {zs : List Int} (h : Lk w lv Ab zs) : Ab < w.heap.size := by
  obtain ⟨c, _, h, _⟩ := h; exact h.1
theorem Lk.keep {w w' : World} {lv : Value} {Ab : Nat} {zs : List Int} (h : Lk w lv Ab zs) (hs : w.heap.size ≤ w'.heap.size) (h2 : w'.heap[Ab]? = w.heap[Ab]?) : Lk w' lv Ab zs := by
  obtain ⟨c, hc, hm, hr⟩ := h
  exact ⟨c, hc, ⟨Nat.lt_of_lt_of_le hm.1 hs, fun i hi => (World.cell?_of_block (w := w) (a := ⟨Ab, i, none⟩) h2).trans (hm.2 i hi)⟩, hr⟩
theorem Lk.below {w w' : World} {lv : Value} {Ab : Nat} {zs : List Int} (h : Lk w lv Ab zs) (hb : Below w.heap.size w w') : Lk w' lv Ab zs :=
  h.keep hb.size (hb.block Ab h.lt)

theorem catch_idle (p : Addr) (w : World) :
    CallsD Try.prog 69 #[.pointer (some p)] .returning w fun e u' w' => e = .returned (.tuple #[]) ∧ u' = .returning ∧ w' = w := by
  refine callsD_of_wpS Try.func69 rfl fun c₀ cs hu => ?_
  apply wpS_seq
  apply wpS_region
  simp [wpOpsS, go_sem, recoverD, hu, Try.ntmps69, Exit.thenS]
  refine wpS_cond (t := false) (by simp [Act.eval, Array.replicate]) ?_
  simp only [Bool.false_eq_true, if_false]
  refine wpS_of_wp (wp_skip ?_)
  cases c₀
  simp_all [bodyPostS, results, Try.results69]

theorem pcell {W w1 : World} (hb : Below W.heap.size W w1) : (∀ b o, b < W.heap.size → w1.cell? ⟨b, o, none⟩ = W.cell? ⟨b, o, none⟩) ∧ (∀ b o, b < W.heap.size → w1.frozen? ⟨b, o, none⟩ = W.frozen? ⟨b, o, none⟩) :=
  ⟨fun b o h => hb.cell (p := ⟨b, o, none⟩) h, fun b o h => hb.frozen (p := ⟨b, o, none⟩) h⟩

set_option maxHeartbeats 1000000 in
theorem place_any {lv : Value} {Ab : Nat} {zs : List Int} (x : Int) (w : World) (h : Lk w lv Ab zs) (h0 : 0 ≤ x) (h1 : x ≤ 4294967295) :
    Calls Try.prog 47 #[lv, .int .u32 x] w fun e w' => e = .returned (.int .i64 (atOf zs x)) ∧ Below w.heap.size w w' := by
  have hmf : ∀ (fn : Fn) (first cap : Array Value) (w : World), (Instr.makeFunc fn first cap).run Try.prog w = .ok (.func fn first cap) w := fun _ _ _ _ => rfl
  obtain ⟨c, hc, hm, hr⟩ := h
  have H := Lib.hid hm; have HC := Lib.hid hc
  have hwf : (Lit.int .i64 x).wf = true := Lay.wf_i64 (by omega) (by omega)
  rcases hr with ⟨rfl, rfl⟩ | ⟨rfl, rfl⟩
  · rw [lnk_at hc]
    clear hm hc
    go_enter_defers Try.func47, Try.ntmps47
    go_wp2_with (first
      | (go_at_call 57; (with_reducible refine (Lay.link_m HC.out Ab x hwf _ (H.out.below (below_alloc0 (Below.refl _ _) _))).mono ?_); rintro r w1 ⟨rfl, hb⟩; obtain ⟨hcc, hff⟩ := pcell hb)
      | fail)
    have e0 : w1.cell? ⟨w.heap.size, 0, none⟩ = some (.int .i64 0) := (hcc _ 0 (by simp)).trans (by rw [World.cell?_alloc_at _ _ _ _ rfl]; rfl)
    have hw : Below w.heap.size w w1 := below_then (below_alloc0 (Below.refl _ _) _) hb
    refine leaves_cons (f := 69) (args := #[.pointer (some ⟨w.heap.size, 0, none⟩)]) (by simp) (by simp [go_sem]) ?_
    refine (catch_idle ⟨w.heap.size, 0, none⟩ _).mono ?_
    rintro e u' w'' ⟨rfl, rfl, rfl⟩
    refine ⟨.int .i64 (Lay.plcc c 12 x 0), ?_, rfl, hw.setCell (Nat.le_refl _) _⟩
    have e1 := World.cell?_setCell_same w1 ⟨w.heap.size, 0, none⟩ (.int .i64 (Lay.plcc c 12 x 0)) e0
    simp [results, Try.results47, go_sem, e1]
  · rw [nxt_at' hc]
    clear hm hc
    go_enter_defers Try.func47, Try.ntmps47
    go_wp2_with (first
      | (go_at_call 19; (with_reducible refine (Lay.next_m HC.out Ab x hwf _ (H.out.below (below_alloc0 (Below.refl _ _) _))).mono ?_); rintro r w1 ⟨rfl, hb⟩; obtain ⟨hcc, hff⟩ := pcell hb)
      | fail)
    have e0 : w1.cell? ⟨w.heap.size, 0, none⟩ = some (.int .i64 0) := (hcc _ 0 (by simp)).trans (by rw [World.cell?_alloc_at _ _ _ _ rfl]; rfl)
    have hw : Below w.heap.size w w1 := below_then (below_alloc0 (Below.refl _ _) _) hb
    refine leaves_cons (f := 69) (args := #[.pointer (some ⟨w.heap.size, 0, none⟩)]) (by simp) (by simp [go_sem]) ?_
    refine (catch_idle ⟨w.heap.size, 0, none⟩ _).mono ?_
    rintro e u' w'' ⟨rfl, rfl, rfl⟩
    refine ⟨.int .i64 (Lay.plcc c 17 x 0), ?_, rfl, hw.setCell (Nat.le_refl _) _⟩
    have e1 := World.cell?_setCell_same w1 ⟨w.heap.size, 0, none⟩ (.int .i64 (Lay.plcc c 17 x 0)) e0
    simp [results, Try.results47, go_sem, e1]
end Go.Proofs.Ytbpkcoemehmpbaa
