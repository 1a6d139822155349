/- Words of two numbers: parted, put together, turned; walked. A stack's machines: one that runs alone, in a stack, and in any memory; a walk. Where links stand: the map's own methods Link and Next as functions; what catches their panics. Rows of integers of the call's own. -/
import Derived.Test.YtbpkcoemehmpbaaGreatJ1
import Derived.Test.YtbpkcoemehmpbaaGreatSkPure
import Derived.Test.YtbpkcoemehmpbaaGreatJ3
import Derived.Test.YtbpkcoemehmpbaaGreatJ10
import Derived.Defers
import Derived.Recover
import Derived.Laws.EntriesVeiled
namespace Go.Proofs.YtbpkcoemehmpbaaGreat
open Go.RowKit
set_option linter.unusedVariables false

theorem bcell {W w1 : World} (hb : Below W.heap.size W w1) : (∀ b o, b < W.heap.size → w1.cell? ⟨b, o, none⟩ = W.cell? ⟨b, o, none⟩) ∧ (∀ b o, b < W.heap.size → w1.frozen? ⟨b, o, none⟩ = W.frozen? ⟨b, o, none⟩) :=
  ⟨fun b o h => hb.cell (p := ⟨b, o, none⟩) h, fun b o h => hb.frozen (p := ⟨b, o, none⟩) h⟩

set_option maxHeartbeats 400000 in
theorem part_any (b x : Int) (hb : 1 ≤ b) (hb2 : b ≤ 18446744073709551615) (hx : 0 ≤ x) (hx2 : x ≤ 18446744073709551615) (w : World) :
    Calls Tryz.prog 87 #[.int .u64 b, .int .u64 x] w fun e w' => e = .returned (.agg #[.int .u64 (x / b), .int .u64 (x % b)]) ∧ Below w.heap.size w w' := by
  go_enter Tryz.func87, Tryz.ntmps87
  go_wp2
  go_region
  all_goals go_wp2
  all_goals (refine bodyPost_ret (v := .agg #[.int .u64 (x / b), .int .u64 (x % b)]) (by simp [results, Tryz.results87, go_sem]) rfl ⟨rfl, ?_⟩)
  all_goals exact ((Below.refl _ _).alloc (Nat.le_refl _) _).drew

set_option linter.unusedVariables false in
set_option maxHeartbeats 400000 in
theorem join_any (b x y : Int) (hb : 1 ≤ b) (hb2 : b ≤ 18446744073709551615) (hx : 0 ≤ x) (hx2 : x ≤ 18446744073709551615) (hy : 0 ≤ y) (hy2 : y ≤ 18446744073709551615) (w : World) :
    Calls Tryz.prog 63 #[.int .u64 b, .agg #[.int .u64 x, .int .u64 y]] w fun e w' => e = .returned (.int .u64 (IntKind.u64.wrap (IntKind.u64.wrap (x * b) + y % b))) ∧ Below w.heap.size w w' := by
  go_enter Tryz.func63, Tryz.ntmps63
  go_wp2
  go_quiet (fail)
  go_wp2
  go_ret
  exact ⟨rfl, below_drewN ((Below.refl _ _).alloc (Nat.le_refl _) _) _⟩

set_option maxHeartbeats 400000 in
theorem split_any (x : Int) (hx : 0 ≤ x) (hx2 : x ≤ 18446744073709551615) (w : World) :
    Calls Tryz.prog 71 #[.int .u64 x] w fun e w' => e = .returned (.tuple #[.int .u32 (x / 4294967296), .int .u32 (x % 4294967296)]) ∧ Below w.heap.size w w' := by
  go_enter Tryz.func71, Tryz.ntmps71
  go_wp2_with (go_at_call 87; refine (part_any 4294967296 x (by omega) (by omega) hx hx2 _).mono ?_; rintro e w1 ⟨rfl, hb⟩)
  go_quiet (fail)
  go_wp2
  go_ret2
  exact ⟨rfl, below_drewN ((hb.alloc hb.size _)) _⟩

set_option maxHeartbeats 400000 in
theorem pair_any (x y : Int) (hx : 0 ≤ x) (hx2 : x ≤ 4294967295) (hy : 0 ≤ y) (hy2 : y ≤ 4294967295) (w : World) :
    Calls Tryz.prog 24 #[.int .u32 x, .int .u32 y] w fun e w' => e = .returned (.int .u64 (x * 4294967296 + y)) ∧ Below w.heap.size w w' := by
  go_enter Tryz.func24, Tryz.ntmps24
  go_wp2_with (go_at_call 63; refine (join_any 4294967296 x y (by omega) (by omega) hx (by omega) hy (by omega) _).mono ?_; rintro e w1 ⟨rfl, hb⟩)
  go_ret
  exact ⟨ret_int (by rw [IntKind.wrap_u64, IntKind.wrap_u64]; omega), hb⟩

set_option maxHeartbeats 400000 in
theorem turn_any (x y : Int) (hx : 0 ≤ x) (hx2 : x ≤ 18446744073709551615) (hy : 0 ≤ y) (hy2 : y ≤ 4294967295) (w : World) :
    Calls Tryz.prog 111 #[.int .u64 x, .int .u32 y] w fun e w' => e = .returned (.int .u64 ((x / 4294967296 + 1) % 4294967296 * 4294967296 + y)) ∧ Below w.heap.size w w' := by
  go_enter Tryz.func111, Tryz.ntmps111
  go_wp2_with (first | (go_at_call 71; refine (split_any x hx hx2 _).mono ?_; rintro e w1 ⟨rfl, hb⟩) | (go_at_call 24; refine (pair_any (IntKind.u32.wrap (x / 4294967296 + 1)) y (by rw [IntKind.wrap_u32]; omega) (by rw [IntKind.wrap_u32]; omega) hy hy2 _).mono ?_; rintro e w2 ⟨rfl, hb2⟩))
  go_ret
  exact ⟨ret_int (by rw [IntKind.wrap_u32]), below_step hb hb.size hb2⟩

set_option maxHeartbeats 400000 in
theorem refPair_any (x y : Int) (hx : 0 ≤ x) (hx2 : x ≤ 4294967295) (hy : 0 ≤ y) (hy2 : y ≤ 4294967295) (w : World) :
    Calls Tryz.prog 91 #[.int .u32 x, .int .u32 y] w fun e w' => e = .returned (.int .u64 (x * 4294967296 + y)) ∧ w = w' := by
  go_enter Tryz.func91, Tryz.ntmps91
  go_wp2
  go_ret
  exact ⟨rfl, rfl⟩

set_option maxHeartbeats 400000 in
theorem refHigh_any (x : Int) (hx : 0 ≤ x) (hx2 : x ≤ 18446744073709551615) (w : World) :
    Calls Tryz.prog 78 #[.int .u64 x] w fun e w' => e = .returned (.int .u32 (x / 4294967296)) ∧ w = w' := by
  go_enter Tryz.func78, Tryz.ntmps78
  go_wp2
  go_ret
  exact ⟨rfl, rfl⟩

set_option maxHeartbeats 400000 in
theorem refLow_any (x : Int) (hx : 0 ≤ x) (hx2 : x ≤ 18446744073709551615) (w : World) :
    Calls Tryz.prog 77 #[.int .u64 x] w fun e w' => e = .returned (.int .u32 (x % 4294967296)) ∧ w = w' := by
  go_enter Tryz.func77, Tryz.ntmps77
  go_wp2
  go_ret
  exact ⟨rfl, rfl⟩

/-- A word's low number. -/
def lowOf (x : Int) : Int := x % 4294967296
def hiOf (x : Int) : Int := x / 4294967296
def turnOf (x n : Int) : Int := (hiOf x + 1) % 4294967296 * 4294967296 + n
theorem lowOf_rng (x : Int) : 0 ≤ lowOf x ∧ lowOf x ≤ 4294967295 := by unfold lowOf; omega

set_option maxHeartbeats 400000 in
theorem low_any (x : Int) (hx : 0 ≤ x) (hx2 : x ≤ 18446744073709551615) (w : World) :
    Calls Tryz.prog 106 #[.int .u64 x] w fun e w' => e = .returned (.int .u32 (lowOf x)) ∧ Below w.heap.size w w' := by
  go_enter Tryz.func106, Tryz.ntmps106
  go_wp2_with (first | (go_at_call 71; (with_reducible refine (split_any x hx hx2 _).mono ?_); rintro e w1 ⟨rfl, hb⟩) | fail)
  go_ret
  exact ⟨rfl, hb⟩
theorem turnw_any (x y : Int) (hx : 0 ≤ x) (hx2 : x ≤ 18446744073709551615) (hy : 0 ≤ y) (hy2 : y ≤ 4294967295) (w : World) :
    Calls Tryz.prog 111 #[.int .u64 x, .int .u32 y] w fun e w' => e = .returned (.int .u64 (turnOf x y)) ∧ Below w.heap.size w w' := turn_any x y hx hx2 hy hy2 w
end Go.Proofs.YtbpkcoemehmpbaaGreat

namespace Go.Proofs.YtbpkcoemehmpbaaGreat
set_option linter.unusedVariables false
set_option linter.unusedSimpArgs false

def sruns : Nat → List Int → Sm → List Int × Sm
  | 0, L, m => (L, m)
  | k + 1, L, m => sruns k (sstp L m).1 (sstp L m).2
theorem sstp_no {L : List Int} {m : Sm} (h : m.pc = 0) : sstp L m = (L, m) := by simp [sstp, h]
theorem sruns_done {L : List Int} {m : Sm} (h : m.pc = 0) (k : Nat) : sruns k L m = (L, m) := by
  induction k with
  | zero => rfl
  | succ k ih => simp only [sruns, sstp_no h]; exact ih

/-! The steps, one by one. -/
theorem push_first {L : List Int} {m : Sm} (hk : m.kind = 1) (hp : m.pc = 1) {w : Int} (hw : ldq L m.k.head = w) :
    sstp L m = (L, { m with pc := 2, h := w, link := low w, tries := m.tries + 1 }) := by
  subst hw; simp [sstp, hk, hp]
theorem push_link {L : List Int} {m : Sm} (hk : m.kind = 1) (hp : m.pc = 2) : sstp L m = (ptq L (atOf m.k.links m.item) m.link, { m with pc := 3 }) := by
  simp [sstp, hk, hp]
theorem pop_link {L : List Int} {m : Sm} (hk : m.kind = 2) (hp : m.pc = 2) : sstp L m = (L, { m with pc := 3, link := low (ldq L (atOf m.k.links m.item)) }) := by
  simp [sstp, hk, hp]
theorem push_swap {L : List Int} {m : Sm} (hk : m.kind = 1) (hp : m.pc = 3) : sstp L m = swapS L m m.item := by
  simp [sstp, hk, hp]
theorem pop_swap {L : List Int} {m : Sm} (hk : m.kind = 2) (hp : m.pc = 3) : sstp L m = swapS L m m.link := by
  simp [sstp, hk, hp]

end Go.Proofs.YtbpkcoemehmpbaaGreat

namespace Go.Proofs.YtbpkcoemehmpbaaGreat
open Go.RowKit
set_option linter.unusedVariables false

/-- The places of packets' links, and of nodes' next ones, as lists. -/
def lnkL (c : Lay.Cfg) : List Int := (List.range (Lay.packN c).toNat).map fun (i : Nat) => Lay.plcc c 12 ((i : Int) + 1) 0
def nxtL (c : Lay.Cfg) : List Int := (List.range (Lay.nodesN c).toNat).map fun (i : Nat) => Lay.plcc c 17 ((i : Int) + 1) 0
theorem lnk_len (c : Lay.Cfg) : (lnkL c).length = (Lay.packN c).toNat := by simp [lnkL]
theorem nxt_len (c : Lay.Cfg) : (nxtL c).length = (Lay.nodesN c).toNat := by simp [nxtL]
theorem atOf_row (n : Nat) (f : Int → Int) (x : Int) (h : ∀ x, x < 1 ∨ (n : Int) < x → f x = -1) : atOf ((List.range n).map fun (i : Nat) => f ((i : Int) + 1)) x = f x := by
  unfold atOf
  simp only [List.length_map, List.length_range]
  by_cases hx : 1 ≤ x ∧ x ≤ (n : Int)
  · rw [if_pos hx]
    obtain ⟨i, hi⟩ : ∃ i : Nat, x = (i : Int) + 1 := ⟨(x - 1).toNat, by omega⟩
    subst hi
    have e : ((i : Int) + 1 - 1).toNat = i := by omega
    rw [e]
    simp [List.getD, show i < n by omega]
  · rw [if_neg hx, h x (by omega)]
theorem lnk_at {c : Lay.Cfg} (hc : Lay.OkC c) (x : Int) : atOf (lnkL c) x = Lay.plcc c 12 x 0 := by
  refine atOf_row _ (fun x => Lay.plcc c 12 x 0) x fun x hx => ?_
  have h0 := (Lay.bds hc).p0
  unfold Lay.plcc Lay.plc
  rw [if_neg (by simp), if_neg (by simp), if_neg (by simp), if_neg (by simp), if_neg (by simp), if_neg (by simp), if_neg (by simp), if_neg (by simp), if_pos (by simp)]
  exact if_neg (show ¬ (1 ≤ x ∧ x ≤ (((Lay.packN c).toNat : Nat) : Int)) by omega)
theorem nxt_at' {c : Lay.Cfg} (hc : Lay.OkC c) (x : Int) : atOf (nxtL c) x = Lay.plcc c 17 x 0 := by
  refine atOf_row _ (fun x => Lay.plcc c 17 x 0) x fun x hx => ?_
  have hl := Lay.ks_len hc
  unfold Lay.plcc Lay.plc
  rw [if_neg (by simp), if_neg (by simp), if_neg (by simp), if_neg (by simp), if_neg (by simp), if_neg (by simp), if_neg (by simp), if_neg (by simp), if_neg (by simp), if_neg (by simp), if_pos (by simp)]
  have e : (Lay.roomsN c).length = (Lay.ksOf c).length := by simp [Lay.roomsN]
  exact if_neg (show ¬ (1 ≤ x ∧ x ≤ (((Lay.roomsN c).length : Nat) : Int)) by omega)

/-- A function that tells where links stand. -/
def Lk (w : World) (lv : Value) (Ab : Nat) (zs : List Int) : Prop :=
  ∃ c, Lay.OkC c ∧ Lay.IsMap w Ab c ∧ ((lv = .func (.func 59) #[Lay.mapP Ab] #[] ∧ zs = lnkL c) ∨ (lv = .func (.func 57) #[Lay.mapP Ab] #[] ∧ zs = nxtL c))
theorem Lk.lt {w : World} {lv : Value} {Ab : Nat} {zs : List Int} (h : Lk w lv Ab zs) : Ab < w.heap.size := by
  obtain ⟨c, _, h, _⟩ := h; exact h.1
theorem Lk.keep {w w' : World} {lv : Value} {Ab : Nat} {zs : List Int} (h : Lk w lv Ab zs) (hs : w.heap.size ≤ w'.heap.size) (h2 : w'.heap[Ab]? = w.heap[Ab]?) : Lk w' lv Ab zs := by
  obtain ⟨c, hc, hm, hr⟩ := h
  exact ⟨c, hc, ⟨Nat.lt_of_lt_of_le hm.1 hs, fun i hi => (World.cell?_of_block (w := w) (a := ⟨Ab, i, none⟩) h2).trans (hm.2 i hi)⟩, hr⟩
theorem Lk.below {w w' : World} {lv : Value} {Ab : Nat} {zs : List Int} (h : Lk w lv Ab zs) (hb : Below w.heap.size w w') : Lk w' lv Ab zs :=
  h.keep hb.size (hb.block Ab h.lt)

theorem catch_idle (p : Addr) (w : World) :
    CallsD Tryz.prog 109 #[.pointer (some p)] .returning w fun e u' w' => e = .returned (.tuple #[]) ∧ u' = .returning ∧ w' = w := by
  refine callsD_of_wpS Tryz.func109 rfl fun c₀ cs hu => ?_
  apply wpS_seq
  apply wpS_region
  simp [wpOpsS, go_sem, recoverD, hu, Tryz.ntmps109, Exit.thenS]
  refine wpS_cond (t := false) (by simp [Act.eval, Array.replicate]) ?_
  simp only [Bool.false_eq_true, if_false]
  refine wpS_of_wp (wp_skip ?_)
  cases c₀
  simp_all [bodyPostS, results, Tryz.results109]

theorem pcell {W w1 : World} (hb : Below W.heap.size W w1) : (∀ b o, b < W.heap.size → w1.cell? ⟨b, o, none⟩ = W.cell? ⟨b, o, none⟩) ∧ (∀ b o, b < W.heap.size → w1.frozen? ⟨b, o, none⟩ = W.frozen? ⟨b, o, none⟩) :=
  ⟨fun b o h => hb.cell (p := ⟨b, o, none⟩) h, fun b o h => hb.frozen (p := ⟨b, o, none⟩) h⟩

set_option maxHeartbeats 1000000 in
theorem place_any {lv : Value} {Ab : Nat} {zs : List Int} (x : Int) (w : World) (h : Lk w lv Ab zs) (h0 : 0 ≤ x) (h1 : x ≤ 4294967295) :
    Calls Tryz.prog 107 #[lv, .int .u32 x] w fun e w' => e = .returned (.int .i64 (atOf zs x)) ∧ Below w.heap.size w w' := by
  have hmf : ∀ (fn : Fn) (first cap : Array Value) (w : World), (Instr.makeFunc fn first cap).run Tryz.prog w = .ok (.func fn first cap) w := fun _ _ _ _ => rfl
  obtain ⟨c, hc, hm, hr⟩ := h
  have H := Lib.hid hm; have HC := Lib.hid hc
  have hwf : (Lit.int .i64 x).wf = true := Lay.wf_i64 (by omega) (by omega)
  rcases hr with ⟨rfl, rfl⟩ | ⟨rfl, rfl⟩
  · rw [lnk_at hc]
    clear hm hc
    go_enter_defers Tryz.func107, Tryz.ntmps107
    go_wp2_with (first
      | (go_at_call 59; (with_reducible refine (Lay.link_m HC.out Ab x hwf _ (H.out.below (below_alloc0 (Below.refl _ _) _))).mono ?_); rintro r w1 ⟨rfl, hb⟩; obtain ⟨hcc, hff⟩ := pcell hb)
      | fail)
    have e0 : w1.cell? ⟨w.heap.size, 0, none⟩ = some (.int .i64 0) := (hcc _ 0 (by simp)).trans (by rw [World.cell?_alloc_at _ _ _ _ rfl]; rfl)
    have hw : Below w.heap.size w w1 := below_then (below_alloc0 (Below.refl _ _) _) hb
    refine leaves_cons (f := 109) (args := #[.pointer (some ⟨w.heap.size, 0, none⟩)]) (by simp) (by simp [go_sem]) ?_
    refine (catch_idle ⟨w.heap.size, 0, none⟩ _).mono ?_
    rintro e u' w'' ⟨rfl, rfl, rfl⟩
    refine ⟨.int .i64 (Lay.plcc c 12 x 0), ?_, rfl, hw.setCell (Nat.le_refl _) _⟩
    have e1 := World.cell?_setCell_same w1 ⟨w.heap.size, 0, none⟩ (.int .i64 (Lay.plcc c 12 x 0)) e0
    simp [results, Tryz.results107, go_sem, e1]
  · rw [nxt_at' hc]
    clear hm hc
    go_enter_defers Tryz.func107, Tryz.ntmps107
    go_wp2_with (first
      | (go_at_call 57; (with_reducible refine (Lay.next_m HC.out Ab x hwf _ (H.out.below (below_alloc0 (Below.refl _ _) _))).mono ?_); rintro r w1 ⟨rfl, hb⟩; obtain ⟨hcc, hff⟩ := pcell hb)
      | fail)
    have e0 : w1.cell? ⟨w.heap.size, 0, none⟩ = some (.int .i64 0) := (hcc _ 0 (by simp)).trans (by rw [World.cell?_alloc_at _ _ _ _ rfl]; rfl)
    have hw : Below w.heap.size w w1 := below_then (below_alloc0 (Below.refl _ _) _) hb
    refine leaves_cons (f := 109) (args := #[.pointer (some ⟨w.heap.size, 0, none⟩)]) (by simp) (by simp [go_sem]) ?_
    refine (catch_idle ⟨w.heap.size, 0, none⟩ _).mono ?_
    rintro e u' w'' ⟨rfl, rfl, rfl⟩
    refine ⟨.int .i64 (Lay.plcc c 17 x 0), ?_, rfl, hw.setCell (Nat.le_refl _) _⟩
    have e1 := World.cell?_setCell_same w1 ⟨w.heap.size, 0, none⟩ (.int .i64 (Lay.plcc c 17 x 0)) e0
    simp [results, Tryz.results107, go_sem, e1]
end Go.Proofs.YtbpkcoemehmpbaaGreat

namespace Go.Proofs.YtbpkcoemehmpbaaGreat
open Go.RowKit
set_option linter.unusedVariables false

theorem info3 : (Tryz.prog.info? 3).map (fun i => (i.zero, i.size, i.bytes)) = some (some (.int .i64 0), 1, 8) := by kernel_rfl
theorem grown_of_below {a b : World} {row : Option Nat} (h : Below a.heap.size a b) : a.grownBy b row :=
  ⟨h.os, h.tape, h.output, h.size, fun i hi _ => h.block i hi⟩
/-- A row of integers of the call's own. -/
def OwnI (k : IntKind) (e : TypeId) (B : Nat) (w0 wr : World) (v : Value) (l : List Int) : Prop :=
  wr.ownsRow B e 1 v l.length (l.map (Value.int k)) ∧ Below B w0 wr
theorem OwnI.nil {k : IntKind} {e : TypeId} {B : Nat} {w0 wr : World} (h : Below B w0 wr) : OwnI k e B w0 wr (.slice none 0 0) [] := ⟨World.ownsRow_nil _ _ _ _, h⟩
theorem OwnI.step {k : IntKind} {e : TypeId} {B : Nat} {w0 wr w' : World} {v : Value} {l : List Int} (h : OwnI k e B w0 wr v l) (hB : B ≤ w0.heap.size) (hb : Below wr.heap.size wr w') : OwnI k e B w0 w' v l :=
  ⟨h.1.kept (grown_of_below (row := none) hb) (by cases v.ownBlock <;> simp), below_step h.2 (Nat.le_trans hB h.2.size) hb⟩
theorem OwnI.alloc {k : IntKind} {e : TypeId} {B : Nat} {w0 wr : World} {v : Value} {l : List Int} (h : OwnI k e B w0 wr v l) (hB : B ≤ w0.heap.size) (o : Obj) : OwnI k e B w0 (wr.alloc o) v l :=
  ⟨h.1.alloc o, h.2.alloc (Nat.le_trans hB h.2.size) o⟩
theorem OwnI.reads {k : IntKind} {e : TypeId} {B : Nat} {w0 wr : World} {v : Value} {l : List Int} (h : OwnI k e B w0 wr v l) : ∃ A cap, v = .slice A l.length cap ∧ Reads k wr A l ∧ (A = none → cap = 0) ∧ l.length ≤ cap ∧ cap ≤ maxLen := by
  obtain ⟨ho, hb⟩ := h
  have hlt := ho.lt
  have hcell := fun g (hg : v.ownBlock = some g) => ho.cells hg
  obtain ⟨hl, ⟨h1, h2⟩ | ⟨g, cap, cur, h1, h2, h3, h4, h5, h6, h7⟩⟩ := ho
  · exact ⟨none, 0, by rw [h1, h2], fun h => by omega, fun _ => rfl, by omega, by unfold maxLen; omega⟩
  · refine ⟨_, cap, h1, fun _ => ⟨g, 0, rfl, (hlt g (by rw [h1]; rfl)).2, fun i hi => ?_⟩, (fun e => by cases e), h4, h5⟩
    have c0 := hcell g (by rw [h1]; rfl) i _ (map_get k l i hi)
    rw [add_off] at c0
    exact c0

/-- An append of one integer that has just been built. -/
theorem append_int {k : IntKind} {wr : World} {T : TypeId} {x : Int} {ops : Array Oper} {rest : List Oper} {o : Oper} {a : Act} {Q : Exit → Act → World → Prop} (hg : o.guard = none) (s c : Operand) (t e : TypeId)
    (ho : o.op = .call { callee := .builtin .append, args := #[s, c], argTypes := #[t, t] }) (ht : Tryz.prog.underlying t = some (.slice e))
    (hi : (Tryz.prog.info? e).map (fun i => (i.zero, i.size, i.bytes)) = some (some (.int k 0), 1, 8))
    (B : Nat) (w0 : World) (v : Value) (l : List Int) (hs : a.eval s = v) (hown : OwnI k e B w0 wr v l) (hx : a.eval c = .slice (some ⟨wr.heap.size, 0, none⟩) 1 1) (hl : l.length ≤ 100000) (hB : B ≤ w0.heap.size)
    (h : ∀ v' w', OwnI k e B w0 w' v' (l ++ [x]) → wpList Tryz.prog ops Q rest (a.put o.dst v') w') :
    wpList Tryz.prog ops Q (o :: rest) a (wr.alloc (.cells #[.int k x] T)) := by
  obtain ⟨i0, hi0, hz0, hz1, hz2⟩ := info_parts hi
  have hsz := hown.2.size
  have hn := hown.alloc hB (.cells #[.int k x] T)
  refine wpList_append_own _ hg s c t ho B e i0 _ 1 8 ht hi0 hz0 hz1 hz2 rfl (by decide) v l.length _ hs hn.1 ⟨wr.heap.size, 0, none⟩ 1 1 [.int k x] hx rfl ?_ ?_ (by unfold maxLen; omega) (by omega) (by simp; omega) ?_
  · intro j u hj
    rw [add_off, World.cell?_alloc_at _ _ _ _ rfl]
    match j, hj with
    | 0, hj => simp at hj; subst hj; rfl
  · intro u hu
    simp at hu
    rcases hu with rfl
    rfl
  · intro v' w' h1 h2 _
    refine h v' w' ⟨by simpa using h1, hn.2.grown h2 (by simp; omega) (fun b hb => (hn.1.lt b hb).1)⟩

/-- Where it lies. -/
theorem OwnI.blk {k : IntKind} {e : TypeId} {B : Nat} {w0 wr : World} {v : Value} {l : List Int} (h : OwnI k e B w0 wr v l) : ∃ A cap, v = .slice A l.length cap ∧ (0 < l.length → ∃ b off, A = some ⟨b, off, none⟩ ∧ B ≤ b ∧ b < wr.heap.size ∧ ∀ j, j < l.length → wr.cell? ⟨b, off + j, none⟩ = some (.int k (l.getD j 0))) := by
  obtain ⟨ho, hb⟩ := h
  have hlt := ho.lt
  have hcell := fun g (hg : v.ownBlock = some g) => ho.cells hg
  obtain ⟨hl, ⟨h1, h2⟩ | ⟨g, cap, cur, h1, h2, h3, h4, h5, h6, h7⟩⟩ := ho
  · exact ⟨none, 0, by rw [h1, h2], fun h => by omega⟩
  · refine ⟨_, cap, h1, fun _ => ⟨g, 0, rfl, (hlt g (by rw [h1]; rfl)).1, (hlt g (by rw [h1]; rfl)).2, fun i hi => ?_⟩⟩
    have c0 := hcell g (by rw [h1]; rfl) i _ (map_get k l i hi)
    rw [add_off] at c0
    exact c0
end Go.Proofs.YtbpkcoemehmpbaaGreat
