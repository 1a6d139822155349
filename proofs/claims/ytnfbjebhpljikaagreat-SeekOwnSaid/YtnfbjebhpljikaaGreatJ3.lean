/- Words of two numbers: parted, put together, turned; walked. A stack's machines: one that runs alone, in a stack, and in any memory; a walk. Where links stand: the map's own methods Link and Next as functions; what catches their panics. A stack's machine in memory: what it holds, and what stays while it goes on. The steps of a stack's machine, walked. -/
import Derived.Test.YtnfbjebhpljikaaGreatJ1
import Derived.Test.YtnfbjebhpljikaaGreatSkPure
import Derived.Test.YtnfbjebhpljikaaGreatJ2
import Derived.Test.YtnfbjebhpljikaaGreatLayAcc
import Derived.Defers
import Derived.Recover
import Derived.Laws.EntriesVeiled
namespace Go.Proofs.YtnfbjebhpljikaaGreat
open Go.RowKit
set_option linter.unusedVariables false

theorem bcell {W w1 : World} (hb : Below W.heap.size W w1) : (∀ b o, b < W.heap.size → w1.cell? ⟨b, o, none⟩ = W.cell? ⟨b, o, none⟩) ∧ (∀ b o, b < W.heap.size → w1.frozen? ⟨b, o, none⟩ = W.frozen? ⟨b, o, none⟩) :=
  ⟨fun b o h => hb.cell (p := ⟨b, o, none⟩) h, fun b o h => hb.frozen (p := ⟨b, o, none⟩) h⟩

set_option maxHeartbeats 400000 in
theorem part_any (b x : Int) (hb : 1 ≤ b) (hb2 : b ≤ 18446744073709551615) (hx : 0 ≤ x) (hx2 : x ≤ 18446744073709551615) (w : World) :
    Calls Tryz.prog 135 #[.int .u64 b, .int .u64 x] w fun e w' => e = .returned (.agg #[.int .u64 (x / b), .int .u64 (x % b)]) ∧ Below w.heap.size w w' := by
  go_enter Tryz.func135, Tryz.ntmps135
  go_wp2
  go_region
  all_goals go_wp2
  all_goals (refine bodyPost_ret (v := .agg #[.int .u64 (x / b), .int .u64 (x % b)]) (by simp [results, Tryz.results135, go_sem]) rfl ⟨rfl, ?_⟩)
  all_goals exact ((Below.refl _ _).alloc (Nat.le_refl _) _).drew

set_option linter.unusedVariables false in
set_option maxHeartbeats 400000 in
theorem join_any (b x y : Int) (hb : 1 ≤ b) (hb2 : b ≤ 18446744073709551615) (hx : 0 ≤ x) (hx2 : x ≤ 18446744073709551615) (hy : 0 ≤ y) (hy2 : y ≤ 18446744073709551615) (w : World) :
    Calls Tryz.prog 79 #[.int .u64 b, .agg #[.int .u64 x, .int .u64 y]] w fun e w' => e = .returned (.int .u64 (IntKind.u64.wrap (IntKind.u64.wrap (x * b) + y % b))) ∧ Below w.heap.size w w' := by
  go_enter Tryz.func79, Tryz.ntmps79
  go_wp2
  go_quiet (fail)
  go_wp2
  go_ret
  exact ⟨rfl, below_drewN ((Below.refl _ _).alloc (Nat.le_refl _) _) _⟩

set_option maxHeartbeats 400000 in
theorem split_any (x : Int) (hx : 0 ≤ x) (hx2 : x ≤ 18446744073709551615) (w : World) :
    Calls Tryz.prog 121 #[.int .u64 x] w fun e w' => e = .returned (.tuple #[.int .u32 (x / 4294967296), .int .u32 (x % 4294967296)]) ∧ Below w.heap.size w w' := by
  go_enter Tryz.func121, Tryz.ntmps121
  go_wp2_with (go_at_call 135; refine (part_any 4294967296 x (by omega) (by omega) hx hx2 _).mono ?_; rintro e w1 ⟨rfl, hb⟩)
  go_quiet (fail)
  go_wp2
  go_ret2
  exact ⟨rfl, below_drewN ((hb.alloc hb.size _)) _⟩

set_option maxHeartbeats 400000 in
theorem pair_any (x y : Int) (hx : 0 ≤ x) (hx2 : x ≤ 4294967295) (hy : 0 ≤ y) (hy2 : y ≤ 4294967295) (w : World) :
    Calls Tryz.prog 60 #[.int .u32 x, .int .u32 y] w fun e w' => e = .returned (.int .u64 (x * 4294967296 + y)) ∧ Below w.heap.size w w' := by
  go_enter Tryz.func60, Tryz.ntmps60
  go_wp2_with (go_at_call 79; refine (join_any 4294967296 x y (by omega) (by omega) hx (by omega) hy (by omega) _).mono ?_; rintro e w1 ⟨rfl, hb⟩)
  go_ret
  exact ⟨ret_int (by rw [IntKind.wrap_u64, IntKind.wrap_u64]; omega), hb⟩

set_option maxHeartbeats 400000 in
theorem turn_any (x y : Int) (hx : 0 ≤ x) (hx2 : x ≤ 18446744073709551615) (hy : 0 ≤ y) (hy2 : y ≤ 4294967295) (w : World) :
    Calls Tryz.prog 139 #[.int .u64 x, .int .u32 y] w fun e w' => e = .returned (.int .u64 ((x / 4294967296 + 1) % 4294967296 * 4294967296 + y)) ∧ Below w.heap.size w w' := by
  go_enter Tryz.func139, Tryz.ntmps139
  go_wp2_with (first | (go_at_call 121; refine (split_any x hx hx2 _).mono ?_; rintro e w1 ⟨rfl, hb⟩) | (go_at_call 60; refine (pair_any (IntKind.u32.wrap (x / 4294967296 + 1)) y (by rw [IntKind.wrap_u32]; omega) (by rw [IntKind.wrap_u32]; omega) hy hy2 _).mono ?_; rintro e w2 ⟨rfl, hb2⟩))
  go_ret
  exact ⟨ret_int (by rw [IntKind.wrap_u32]), below_step hb hb.size hb2⟩

/-- A word's low number. -/
def lowOf (x : Int) : Int := x % 4294967296
def hiOf (x : Int) : Int := x / 4294967296
def turnOf (x n : Int) : Int := (hiOf x + 1) % 4294967296 * 4294967296 + n
theorem lowOf_rng (x : Int) : 0 ≤ lowOf x ∧ lowOf x ≤ 4294967295 := by unfold lowOf; omega

set_option maxHeartbeats 400000 in
theorem low_any (x : Int) (hx : 0 ≤ x) (hx2 : x ≤ 18446744073709551615) (w : World) :
    Calls Tryz.prog 107 #[.int .u64 x] w fun e w' => e = .returned (.int .u32 (lowOf x)) ∧ Below w.heap.size w w' := by
  go_enter Tryz.func107, Tryz.ntmps107
  go_wp2_with (first | (go_at_call 121; (with_reducible refine (split_any x hx hx2 _).mono ?_); rintro e w1 ⟨rfl, hb⟩) | fail)
  go_ret
  exact ⟨rfl, hb⟩
theorem turnw_any (x y : Int) (hx : 0 ≤ x) (hx2 : x ≤ 18446744073709551615) (hy : 0 ≤ y) (hy2 : y ≤ 4294967295) (w : World) :
    Calls Tryz.prog 139 #[.int .u64 x, .int .u32 y] w fun e w' => e = .returned (.int .u64 (turnOf x y)) ∧ Below w.heap.size w w' := turn_any x y hx hx2 hy hy2 w
end Go.Proofs.YtnfbjebhpljikaaGreat

namespace Go.Proofs.YtnfbjebhpljikaaGreat
set_option linter.unusedVariables false
set_option linter.unusedSimpArgs false

def sruns : Nat → List Int → Sm → List Int × Sm
  | 0, L, m => (L, m)
  | k + 1, L, m => sruns k (sstp L m).1 (sstp L m).2
theorem sstp_no {L : List Int} {m : Sm} (h : m.pc = 0) : sstp L m = (L, m) := by simp [sstp, h]
theorem sruns_done {L : List Int} {m : Sm} (h : m.pc = 0) (k : Nat) : sruns k L m = (L, m) := by
  induction k with
  | zero => rfl
  | succ k ih => simp only [sruns, sstp_no h]; exact ih

/-! The steps, one by one. -/
theorem push_first {L : List Int} {m : Sm} (hk : m.kind = 1) (hp : m.pc = 1) {w : Int} (hw : ldq L m.k.head = w) :
    sstp L m = (L, { m with pc := 2, h := w, link := low w, tries := m.tries + 1 }) := by
  subst hw; simp [sstp, hk, hp]
theorem push_link {L : List Int} {m : Sm} (hk : m.kind = 1) (hp : m.pc = 2) : sstp L m = (ptq L (atOf m.k.links m.item) m.link, { m with pc := 3 }) := by
  simp [sstp, hk, hp]
theorem pop_link {L : List Int} {m : Sm} (hk : m.kind = 2) (hp : m.pc = 2) : sstp L m = (L, { m with pc := 3, link := low (ldq L (atOf m.k.links m.item)) }) := by
  simp [sstp, hk, hp]
theorem push_swap {L : List Int} {m : Sm} (hk : m.kind = 1) (hp : m.pc = 3) : sstp L m = swapS L m m.item := by
  simp [sstp, hk, hp]
theorem pop_swap {L : List Int} {m : Sm} (hk : m.kind = 2) (hp : m.pc = 3) : sstp L m = swapS L m m.link := by
  simp [sstp, hk, hp]

end Go.Proofs.YtnfbjebhpljikaaGreat

namespace Go.Proofs.YtnfbjebhpljikaaGreat
open Go.RowKit
set_option linter.unusedVariables false

/-- The places of packets' links, and of nodes' next ones, as lists. -/
def lnkL (c : Lay.Cfg) : List Int := (List.range (Lay.packN c).toNat).map fun (i : Nat) => Lay.plcc c 12 ((i : Int) + 1) 0
def nxtL (c : Lay.Cfg) : List Int := (List.range (Lay.nodesN c).toNat).map fun (i : Nat) => Lay.plcc c 17 ((i : Int) + 1) 0
theorem lnk_len (c : Lay.Cfg) : (lnkL c).length = (Lay.packN c).toNat := by simp [lnkL]
theorem nxt_len (c : Lay.Cfg) : (nxtL c).length = (Lay.nodesN c).toNat := by simp [nxtL]
theorem atOf_row (n : Nat) (f : Int → Int) (x : Int) (h : ∀ x, x < 1 ∨ (n : Int) < x → f x = -1) : atOf ((List.range n).map fun (i : Nat) => f ((i : Int) + 1)) x = f x := by
  unfold atOf
  simp only [List.length_map, List.length_range]
  by_cases hx : 1 ≤ x ∧ x ≤ (n : Int)
  · rw [if_pos hx]
    obtain ⟨i, hi⟩ : ∃ i : Nat, x = (i : Int) + 1 := ⟨(x - 1).toNat, by omega⟩
    subst hi
    have e : ((i : Int) + 1 - 1).toNat = i := by omega
    rw [e]
    simp [List.getD, show i < n by omega]
  · rw [if_neg hx, h x (by omega)]
theorem lnk_at {c : Lay.Cfg} (hc : Lay.OkC c) (x : Int) : atOf (lnkL c) x = Lay.plcc c 12 x 0 := by
  refine atOf_row _ (fun x => Lay.plcc c 12 x 0) x fun x hx => ?_
  have h0 := (Lay.bds hc).p0
  unfold Lay.plcc Lay.plc
  rw [if_neg (by simp), if_neg (by simp), if_neg (by simp), if_neg (by simp), if_neg (by simp), if_neg (by simp), if_neg (by simp), if_neg (by simp), if_pos (by simp)]
  exact if_neg (show ¬ (1 ≤ x ∧ x ≤ (((Lay.packN c).toNat : Nat) : Int)) by omega)
theorem nxt_at' {c : Lay.Cfg} (hc : Lay.OkC c) (x : Int) : atOf (nxtL c) x = Lay.plcc c 17 x 0 := by
  refine atOf_row _ (fun x => Lay.plcc c 17 x 0) x fun x hx => ?_
  have hl := Lay.ks_len hc
  unfold Lay.plcc Lay.plc
  rw [if_neg (by simp), if_neg (by simp), if_neg (by simp), if_neg (by simp), if_neg (by simp), if_neg (by simp), if_neg (by simp), if_neg (by simp), if_neg (by simp), if_neg (by simp), if_pos (by simp)]
  have e : (Lay.roomsN c).length = (Lay.ksOf c).length := by simp [Lay.roomsN]
  exact if_neg (show ¬ (1 ≤ x ∧ x ≤ (((Lay.roomsN c).length : Nat) : Int)) by omega)

/-- A function that tells where links stand. -/
def Lk (w : World) (lv : Value) (Ab : Nat) (zs : List Int) : Prop :=
  ∃ c, Lay.OkC c ∧ Lay.IsMap w Ab c ∧ ((lv = .func (.func 39) #[Lay.mapP Ab] #[] ∧ zs = lnkL c) ∨ (lv = .func (.func 37) #[Lay.mapP Ab] #[] ∧ zs = nxtL c))
theorem Lk.lt {w : World} {lv : Value} {Ab : Nat} {zs : List Int} (h : Lk w lv Ab zs) : Ab < w.heap.size := by
  obtain ⟨c, _, h, _⟩ := h; exact h.1
theorem Lk.keep {w w' : World} {lv : Value} {Ab : Nat} {zs : List Int} (h : Lk w lv Ab zs) (hs : w.heap.size ≤ w'.heap.size) (h2 : w'.heap[Ab]? = w.heap[Ab]?) : Lk w' lv Ab zs := by
  obtain ⟨c, hc, hm, hr⟩ := h
  exact ⟨c, hc, ⟨Nat.lt_of_lt_of_le hm.1 hs, fun i hi => (World.cell?_of_block (w := w) (a := ⟨Ab, i, none⟩) h2).trans (hm.2 i hi)⟩, hr⟩
theorem Lk.below {w w' : World} {lv : Value} {Ab : Nat} {zs : List Int} (h : Lk w lv Ab zs) (hb : Below w.heap.size w w') : Lk w' lv Ab zs :=
  h.keep hb.size (hb.block Ab h.lt)

theorem catch_idle (p : Addr) (w : World) :
    CallsD Tryz.prog 122 #[.pointer (some p)] .returning w fun e u' w' => e = .returned (.tuple #[]) ∧ u' = .returning ∧ w' = w := by
  refine callsD_of_wpS Tryz.func122 rfl fun c₀ cs hu => ?_
  apply wpS_seq
  apply wpS_region
  simp [wpOpsS, go_sem, recoverD, hu, Tryz.ntmps122, Exit.thenS]
  refine wpS_cond (t := false) (by simp [Act.eval, Array.replicate]) ?_
  simp only [Bool.false_eq_true, if_false]
  refine wpS_of_wp (wp_skip ?_)
  cases c₀
  simp_all [bodyPostS, results, Tryz.results122]

theorem pcell {W w1 : World} (hb : Below W.heap.size W w1) : (∀ b o, b < W.heap.size → w1.cell? ⟨b, o, none⟩ = W.cell? ⟨b, o, none⟩) ∧ (∀ b o, b < W.heap.size → w1.frozen? ⟨b, o, none⟩ = W.frozen? ⟨b, o, none⟩) :=
  ⟨fun b o h => hb.cell (p := ⟨b, o, none⟩) h, fun b o h => hb.frozen (p := ⟨b, o, none⟩) h⟩

set_option maxHeartbeats 1000000 in
theorem place_any {lv : Value} {Ab : Nat} {zs : List Int} (x : Int) (w : World) (h : Lk w lv Ab zs) (h0 : 0 ≤ x) (h1 : x ≤ 4294967295) :
    Calls Tryz.prog 108 #[lv, .int .u32 x] w fun e w' => e = .returned (.int .i64 (atOf zs x)) ∧ Below w.heap.size w w' := by
  have hmf : ∀ (fn : Fn) (first cap : Array Value) (w : World), (Instr.makeFunc fn first cap).run Tryz.prog w = .ok (.func fn first cap) w := fun _ _ _ _ => rfl
  obtain ⟨c, hc, hm, hr⟩ := h
  have H := Lib.hid hm; have HC := Lib.hid hc
  have hwf : (Lit.int .i64 x).wf = true := Lay.wf_i64 (by omega) (by omega)
  rcases hr with ⟨rfl, rfl⟩ | ⟨rfl, rfl⟩
  · rw [lnk_at hc]
    clear hm hc
    go_enter_defers Tryz.func108, Tryz.ntmps108
    go_wp2_with (first
      | (go_at_call 39; (with_reducible refine (Lay.link_m HC.out Ab x hwf _ (H.out.below (below_alloc0 (Below.refl _ _) _))).mono ?_); rintro r w1 ⟨rfl, hb⟩; obtain ⟨hcc, hff⟩ := pcell hb)
      | fail)
    have e0 : w1.cell? ⟨w.heap.size, 0, none⟩ = some (.int .i64 0) := (hcc _ 0 (by simp)).trans (by rw [World.cell?_alloc_at _ _ _ _ rfl]; rfl)
    have hw : Below w.heap.size w w1 := below_then (below_alloc0 (Below.refl _ _) _) hb
    refine leaves_cons (f := 122) (args := #[.pointer (some ⟨w.heap.size, 0, none⟩)]) (by simp) (by simp [go_sem]) ?_
    refine (catch_idle ⟨w.heap.size, 0, none⟩ _).mono ?_
    rintro e u' w'' ⟨rfl, rfl, rfl⟩
    refine ⟨.int .i64 (Lay.plcc c 12 x 0), ?_, rfl, hw.setCell (Nat.le_refl _) _⟩
    have e1 := World.cell?_setCell_same w1 ⟨w.heap.size, 0, none⟩ (.int .i64 (Lay.plcc c 12 x 0)) e0
    simp [results, Tryz.results108, go_sem, e1]
  · rw [nxt_at' hc]
    clear hm hc
    go_enter_defers Tryz.func108, Tryz.ntmps108
    go_wp2_with (first
      | (go_at_call 37; (with_reducible refine (Lay.next_m HC.out Ab x hwf _ (H.out.below (below_alloc0 (Below.refl _ _) _))).mono ?_); rintro r w1 ⟨rfl, hb⟩; obtain ⟨hcc, hff⟩ := pcell hb)
      | fail)
    have e0 : w1.cell? ⟨w.heap.size, 0, none⟩ = some (.int .i64 0) := (hcc _ 0 (by simp)).trans (by rw [World.cell?_alloc_at _ _ _ _ rfl]; rfl)
    have hw : Below w.heap.size w w1 := below_then (below_alloc0 (Below.refl _ _) _) hb
    refine leaves_cons (f := 122) (args := #[.pointer (some ⟨w.heap.size, 0, none⟩)]) (by simp) (by simp [go_sem]) ?_
    refine (catch_idle ⟨w.heap.size, 0, none⟩ _).mono ?_
    rintro e u' w'' ⟨rfl, rfl, rfl⟩
    refine ⟨.int .i64 (Lay.plcc c 17 x 0), ?_, rfl, hw.setCell (Nat.le_refl _) _⟩
    have e1 := World.cell?_setCell_same w1 ⟨w.heap.size, 0, none⟩ (.int .i64 (Lay.plcc c 17 x 0)) e0
    simp [results, Tryz.results108, go_sem, e1]
end Go.Proofs.YtnfbjebhpljikaaGreat

namespace Go.Proofs.YtnfbjebhpljikaaGreat
open Go.RowKit
set_option linter.unusedVariables false

abbrev fnv (n M : Nat) : Value := .func (.func n) #[ptr M] #[]

/-- All blocks but these three are as they were. -/
structure U3 (M S D : Nat) (w w' : World) : Prop where
  os : w'.os = w.os
  tape : w'.tape = w.tape
  output : w'.output = w.output
  size : w.heap.size ≤ w'.heap.size
  block : ∀ k, k < w.heap.size → k ≠ M → k ≠ S → k ≠ D → w'.heap[k]? = w.heap[k]?
theorem U3.refl (M S D : Nat) (w : World) : U3 M S D w w := ⟨rfl, rfl, rfl, Nat.le_refl _, fun _ _ _ _ _ => rfl⟩
theorem U3.trans {M S D : Nat} {a b c : World} (h : U3 M S D a b) (k : U3 M S D b c) : U3 M S D a c :=
  ⟨k.os.trans h.os, k.tape.trans h.tape, k.output.trans h.output, Nat.le_trans h.size k.size, fun i hi h0 h1 h2 => (k.block i (Nat.lt_of_lt_of_le hi h.size) h0 h1 h2).trans (h.block i hi h0 h1 h2)⟩
theorem U3.of_upd {M S D : Nat} {w w' : World} (h : Upd S D w w') : U3 M S D w w' := ⟨h.os, h.tape, h.output, h.size, fun k hk _ h1 h2 => h.block k hk h1 h2⟩
theorem U3.of_below {M S D : Nat} {w w' : World} (h : Below w.heap.size w w') : U3 M S D w w' := ⟨h.os, h.tape, h.output, h.size, fun k hk _ _ _ => h.block k hk⟩
theorem U3.setM {M S D : Nat} {a w : World} (h : U3 M S D a w) (i : Nat) (v : Value) : U3 M S D a (w.setCell ⟨M, i, none⟩ v) :=
  h.trans ⟨rfl, rfl, rfl, by simp, fun k hk h1 _ _ => heap_setCell_other w ⟨M, i, none⟩ k v h1⟩
theorem below_u3 {B M S D : Nat} {w0 w w' : World} (h : Below B w0 w) (hB : B ≤ w0.heap.size) (u : U3 M S D w w') (hM : B ≤ M) (hS : B ≤ S) (hD : B ≤ D) : Below B w0 w' :=
  h.trans ⟨u.os, u.tape, u.output, u.size, fun k hk => u.block k (Nat.lt_of_lt_of_le hk (Nat.le_trans hB h.size)) (by omega) (by omega) (by omega)⟩
theorem Lk.u3 {w w' : World} {M S D Ab : Nat} {lv : Value} {zs : List Int} (h : Lk w lv Ab zs) (u : U3 M S D w w') (n2 : Ab ≠ M ∧ Ab ≠ S ∧ Ab ≠ D) : Lk w' lv Ab zs :=
  h.keep u.size (u.block Ab h.lt n2.1 n2.2.1 n2.2.2)

/-- A machine's block. -/
def Mem (w : World) (M : Nat) (lv : Value) (hd : Int) (fs nx : Value) (se th li it tr : Int) : Prop :=
  w.heap[M]? = some (.cells #[.int .i64 hd, lv, fs, nx, .int .u64 se, .int .u32 th, .int .u32 li, .int .u32 it, .int .i64 tr] 108 (0, 0))
/-- A machine, its links and a store, apart. -/
structure Mst (w0 w : World) (M S D : Nat) (lv : Value) (Ab : Nat) (zs : List Int) (hd : Int) (fs nx : Value) (se th li it tr : Int) (L : List Int) (c : Int) : Prop where
  mem : Mem w M lv hd fs nx se th li it tr
  st : St w S D L c
  n1 : M ≠ S
  n2 : M ≠ D
  lk : Lk w lv Ab zs
  b2 : Ab ≠ M ∧ Ab ≠ S ∧ Ab ≠ D
  u : U3 M S D w0 w
section
variable {w0 w w' : World} {M S D Ab : Nat} {lv : Value} {zs : List Int} {hd : Int} {fs nx : Value} {se th li it tr : Int} {L : List Int} {c : Int}
theorem Mst.lt (h : Mst w0 w M S D lv Ab zs hd fs nx se th li it tr L c) : M < w.heap.size := (Array.getElem?_eq_some_iff.1 h.mem).1
theorem Mst.f (h : Mst w0 w M S D lv Ab zs hd fs nx se th li it tr L c) (j : Nat) : w.frozen? ⟨M, j, none⟩ = false := frozen_of_row w M j _ _ h.mem
theorem Mst.c0 (h : Mst w0 w M S D lv Ab zs hd fs nx se th li it tr L c) : w.cell? ⟨M, 0, none⟩ = some (.int .i64 hd) := by have := h.mem; unfold Mem at this; simp [World.cell?, this]
theorem Mst.c1 (h : Mst w0 w M S D lv Ab zs hd fs nx se th li it tr L c) : w.cell? ⟨M, 1, none⟩ = some (lv) := by have := h.mem; unfold Mem at this; simp [World.cell?, this]
theorem Mst.c2 (h : Mst w0 w M S D lv Ab zs hd fs nx se th li it tr L c) : w.cell? ⟨M, 2, none⟩ = some (fs) := by have := h.mem; unfold Mem at this; simp [World.cell?, this]
theorem Mst.c3 (h : Mst w0 w M S D lv Ab zs hd fs nx se th li it tr L c) : w.cell? ⟨M, 3, none⟩ = some (nx) := by have := h.mem; unfold Mem at this; simp [World.cell?, this]
theorem Mst.c4 (h : Mst w0 w M S D lv Ab zs hd fs nx se th li it tr L c) : w.cell? ⟨M, 4, none⟩ = some (.int .u64 se) := by have := h.mem; unfold Mem at this; simp [World.cell?, this]
theorem Mst.c5 (h : Mst w0 w M S D lv Ab zs hd fs nx se th li it tr L c) : w.cell? ⟨M, 5, none⟩ = some (.int .u32 th) := by have := h.mem; unfold Mem at this; simp [World.cell?, this]
theorem Mst.c6 (h : Mst w0 w M S D lv Ab zs hd fs nx se th li it tr L c) : w.cell? ⟨M, 6, none⟩ = some (.int .u32 li) := by have := h.mem; unfold Mem at this; simp [World.cell?, this]
theorem Mst.c7 (h : Mst w0 w M S D lv Ab zs hd fs nx se th li it tr L c) : w.cell? ⟨M, 7, none⟩ = some (.int .u32 it) := by have := h.mem; unfold Mem at this; simp [World.cell?, this]
theorem Mst.c8 (h : Mst w0 w M S D lv Ab zs hd fs nx se th li it tr L c) : w.cell? ⟨M, 8, none⟩ = some (.int .i64 tr) := by have := h.mem; unfold Mem at this; simp [World.cell?, this]
theorem Mst.left (h : Mst w0 w M S D lv Ab zs hd fs nx se th li it tr L c) {L' : List Int} {c' : Int} (k : Left S D L' c' w w') : Mst w0 w' M S D lv Ab zs hd fs nx se th li it tr L' c' :=
  ⟨(k.2.block M h.lt h.n1 h.n2).trans h.mem, k.1, h.n1, h.n2, h.lk.u3 (M := M) (.of_upd k.2) h.b2, h.b2, h.u.trans (.of_upd k.2)⟩
theorem Mst.step (h : Mst w0 w M S D lv Ab zs hd fs nx se th li it tr L c) (k : Below w.heap.size w w') : Mst w0 w' M S D lv Ab zs hd fs nx se th li it tr L c :=
  ⟨(k.block M h.lt).trans h.mem, h.st.below k, h.n1, h.n2, h.lk.below k, h.b2, h.u.trans (.of_below k)⟩
theorem Mst.drew (h : Mst w0 w M S D lv Ab zs hd fs nx se th li it tr L c) : Mst w0 w.drew M S D lv Ab zs hd fs nx se th li it tr L c := h.step (Below.refl _ _).drew
theorem Mst.put (h : Mst w0 w M S D lv Ab zs hd fs nx se th li it tr L c) (i : Nat) (y : Value) {fs' nx' : Value} {se' th' li' it' tr' : Int}
    (hh : (#[.int .i64 hd, lv, fs, nx, .int .u64 se, .int .u32 th, .int .u32 li, .int .u32 it, .int .i64 tr] : Array Value).setIfInBounds i y = #[.int .i64 hd, lv, fs', nx', .int .u64 se', .int .u32 th', .int .u32 li', .int .u32 it', .int .i64 tr']) :
    Mst w0 (w.setCell ⟨M, i, none⟩ y) M S D lv Ab zs hd fs' nx' se' th' li' it' tr' L c := by
  have u : U3 M M M w (w.setCell ⟨M, i, none⟩ y) := ⟨rfl, rfl, rfl, by simp, fun k hk h1 _ _ => heap_setCell_other w ⟨M, i, none⟩ k y h1⟩
  refine ⟨?_, ?_, h.n1, h.n2, h.lk.u3 u ⟨h.b2.1, h.b2.1, h.b2.1⟩, h.b2, h.u.setM i y⟩
  · unfold Mem
    rw [heap_setCell_same w M i _ 108 _ h.mem, hh]
  · have u : Upd M M w (w.setCell ⟨M, i, none⟩ y) := ⟨rfl, rfl, rfl, by simp, fun k hk h1 _ => heap_setCell_other w ⟨M, i, none⟩ k y h1⟩
    exact h.st.upd u (Ne.symm h.n1) (Ne.symm h.n1) (Ne.symm h.n2) (Ne.symm h.n2)
theorem Mst.p2 (h : Mst w0 w M S D lv Ab zs hd fs nx se th li it tr L c) (y : Value) : Mst w0 (w.setCell ⟨M, 2, none⟩ y) M S D lv Ab zs hd y nx se th li it tr L c := h.put 2 y rfl
theorem Mst.p3 (h : Mst w0 w M S D lv Ab zs hd fs nx se th li it tr L c) (y : Value) : Mst w0 (w.setCell ⟨M, 3, none⟩ y) M S D lv Ab zs hd fs y se th li it tr L c := h.put 3 y rfl
theorem Mst.p4 (h : Mst w0 w M S D lv Ab zs hd fs nx se th li it tr L c) (y : Int) : Mst w0 (w.setCell ⟨M, 4, none⟩ (.int .u64 y)) M S D lv Ab zs hd fs nx y th li it tr L c := h.put 4 _ rfl
theorem Mst.p5 (h : Mst w0 w M S D lv Ab zs hd fs nx se th li it tr L c) (y : Int) : Mst w0 (w.setCell ⟨M, 5, none⟩ (.int .u32 y)) M S D lv Ab zs hd fs nx se y li it tr L c := h.put 5 _ rfl
theorem Mst.p6 (h : Mst w0 w M S D lv Ab zs hd fs nx se th li it tr L c) (y : Int) : Mst w0 (w.setCell ⟨M, 6, none⟩ (.int .u32 y)) M S D lv Ab zs hd fs nx se th y it tr L c := h.put 6 _ rfl
theorem Mst.p7 (h : Mst w0 w M S D lv Ab zs hd fs nx se th li it tr L c) (y : Int) : Mst w0 (w.setCell ⟨M, 7, none⟩ (.int .u32 y)) M S D lv Ab zs hd fs nx se th li y tr L c := h.put 7 _ rfl
theorem Mst.p8 (h : Mst w0 w M S D lv Ab zs hd fs nx se th li it tr L c) (y : Int) : Mst w0 (w.setCell ⟨M, 8, none⟩ (.int .i64 y)) M S D lv Ab zs hd fs nx se th li it y L c := h.put 8 _ rfl
end
end Go.Proofs.YtnfbjebhpljikaaGreat

namespace Go.Proofs.YtnfbjebhpljikaaGreat
open Go.RowKit
set_option linter.unusedVariables false
variable {w0 : World} {M S D Ab : Nat} {lv : Value} {zs : List Int} {hd : Int} {fs nx : Value} {se th li it tr : Int} {L : List Int} {c : Int}

/-- All words are words. -/
def WW (L : List Int) : Prop := ∀ x ∈ L, 0 ≤ x ∧ x ≤ 18446744073709551615
theorem WW.ld (h : WW L) (a : Int) : 0 ≤ ldv L a ∧ ldv L a ≤ 18446744073709551615 := by
  unfold ldv; split
  · rename_i hh
    have hl := in_yes hh
    have hl2 : a.toNat < L.length := by omega
    rw [List.getD, List.getElem?_eq_getElem hl2]
    exact h _ (List.getElem_mem hl2)
  · omega

theorem Mst.fin {w : World} (h : Mst w0 w M S D lv Ab zs hd fs nx se th li it tr L c) (o : Int) :
    Mst w0 ((w.setCell ⟨M, 3, none⟩ .nilFunc).setCell ⟨M, 7, none⟩ (.int .u32 o)) M S D lv Ab zs hd fs .nilFunc se th li o tr L c := (h.p3 _).p7 _
set_option maxHeartbeats 1000000 in
theorem finish_any (o : Int) (w : World) (h : Mst w0 w M S D lv Ab zs hd fs nx se th li it tr L c) :
    Calls Tryz.prog 94 #[ptr M, .int .u32 o] w fun a w' => a = .returned (.tuple #[]) ∧ Mst w0 w' M S D lv Ab zs hd fs .nilFunc se th li o tr L c := by
  have HL := Lib.hid (h.fin o)
  have c3 := h.c3; have f3 := h.f 3; have c7 := h.c7; have f7 := h.f 7
  clear h
  go_enter Tryz.func94, Tryz.ntmps94
  go_wp2
  go_returns
  exact ⟨rfl, HL.out⟩

set_option maxHeartbeats 1000000 in
theorem see_any (w : World) (h : Mst w0 w M S D lv Ab zs hd fs nx se th li it tr L c) (h0 : 0 ≤ c) (h1 : c ≤ 1000000000) (t0 : 0 ≤ tr) (t1 : tr ≤ 1000000000) (ww : WW L) :
    Calls Tryz.prog 93 #[ptr M, ptr S] w fun a w' => a = .returned (.int .u32 (lowOf (ldv L hd))) ∧ Mst w0 w' M S D lv Ab zs hd fs nx (ldv L hd) th li it (tr + 1) L (c + 1) := by
  have c8 := h.c8; have f8 := h.f 8
  have HK := Lib.hid (h.p8 (tr + 1)); clear h
  have c0 := HK.out.c0
  obtain ⟨y, hy⟩ : ∃ y, y = ldv L hd := ⟨_, rfl⟩
  rw [← hy]
  have HY := Lib.hid hy
  have y0 : 0 ≤ y := by rw [hy]; exact (ww.ld hd).1
  have y1 : y ≤ 18446744073709551615 := by rw [hy]; exact (ww.ld hd).2
  clear hy ww
  go_enter Tryz.func93, Tryz.ntmps93
  go_wp2_with (first
    | (go_at_call 99; (with_reducible refine (load_any _ _ HK.out.st h0 h1).mono ?_); rintro r w1 ⟨rfl, hk⟩; rw [← HY.out]; have HQ := Lib.hid (HK.out.left hk); have c4 := HQ.out.c4; have f4 := HQ.out.f 4; have HL := Lib.hid (HQ.out.p4 y); clear hk)
    | (go_at_call 107; (with_reducible refine (low_any _ y0 y1 _).mono ?_); rintro r w2 ⟨rfl, hb⟩; have HE := Lib.hid (HL.out.step hb); clear hb)
    | fail)
  go_ret
  exact ⟨rfl, HE.out⟩

set_option maxHeartbeats 1000000 in
theorem seeHead_any (w : World) (h : Mst w0 w M S D lv Ab zs hd fs nx se th li it tr L c) (h0 : 0 ≤ c) (h1 : c ≤ 1000000000) (t0 : 0 ≤ tr) (t1 : tr ≤ 1000000000) (ww : WW L) :
    Calls Tryz.prog 128 #[ptr M, ptr S] w fun a w' => a = .returned (.tuple #[]) ∧ Mst w0 w' M S D lv Ab zs hd fs (fnv 140 M) (ldv L hd) th (lowOf (ldv L hd)) it (tr + 1) L (c + 1) := by
  have hmf : ∀ (fn : Fn) (first cap : Array Value) (w : World), (Instr.makeFunc fn first cap).run Tryz.prog w = .ok (.func fn first cap) w := fun _ _ _ _ => rfl
  have H := Lib.hid h; clear h
  go_enter Tryz.func128, Tryz.ntmps128
  go_wp2_with (first
    | (go_at_call 93; (with_reducible refine (see_any _ H.out h0 h1 t0 t1 ww).mono ?_); rintro r w1 ⟨rfl, hk⟩; have HQ := Lib.hid hk; clear hk; have c6 := HQ.out.c6; have f6 := HQ.out.f 6; have HP := Lib.hid (HQ.out.p6 (lowOf (ldv L hd))); have c3 := HP.out.c3; have f3 := HP.out.f 3; have HL := Lib.hid (HP.out.p3 (fnv 140 M)))
    | fail)
  go_returns
  exact ⟨rfl, HL.out⟩

set_option maxHeartbeats 1000000 in
theorem seeThing_any (w : World) (h : Mst w0 w M S D lv Ab zs hd fs nx se th li it tr L c) (h0 : 0 ≤ c) (h1 : c ≤ 1000000000) (t0 : 0 ≤ tr) (t1 : tr ≤ 1000000000) (ww : WW L) :
    Calls Tryz.prog 80 #[ptr M, ptr S] w fun a w' => a = .returned (.tuple #[]) ∧
      Mst w0 w' M S D lv Ab zs hd fs (if lowOf (ldv L hd) = 0 then .nilFunc else fnv 95 M) (ldv L hd) (lowOf (ldv L hd)) li (if lowOf (ldv L hd) = 0 then 0 else it) (tr + 1) L (c + 1) := by
  have hmf : ∀ (fn : Fn) (first cap : Array Value) (w : World), (Instr.makeFunc fn first cap).run Tryz.prog w = .ok (.func fn first cap) w := fun _ _ _ _ => rfl
  have H := Lib.hid h; clear h
  obtain ⟨y, hy⟩ : ∃ y, y = lowOf (ldv L hd) := ⟨_, rfl⟩
  rw [← hy]
  have HY := Lib.hid hy; clear hy
  by_cases hz : y = 0
  · rw [if_pos hz, if_pos hz]
    have hz2 : (y == 0) = true := by simpa using hz
    subst hz
    go_enter Tryz.func80, Tryz.ntmps80
    go_wp2_with (first
      | (go_at_call 93; (with_reducible refine (see_any _ H.out h0 h1 t0 t1 ww).mono ?_); rintro r w1 ⟨rfl, hk⟩; rw [← HY.out]; have HQ := Lib.hid hk; clear hk; have c5 := HQ.out.c5; have f5 := HQ.out.f 5; have HP := Lib.hid (HQ.out.p5 0); have d5 := HP.out.c5)
      | (go_at_call 94; (with_reducible refine (finish_any 0 _ HP.out).mono ?_); rintro r w2 ⟨rfl, hk⟩; have HL := Lib.hid hk; clear hk)
      | fail)
    go_returns
    exact ⟨rfl, HL.out⟩
  · rw [if_neg hz, if_neg hz]
    have hz2 : (y == 0) = false := by simpa using hz
    go_enter Tryz.func80, Tryz.ntmps80
    go_wp2_with (first
      | (go_at_call 93; (with_reducible refine (see_any _ H.out h0 h1 t0 t1 ww).mono ?_); rintro r w1 ⟨rfl, hk⟩; rw [← HY.out]; have HQ := Lib.hid hk; clear hk; have c5 := HQ.out.c5; have f5 := HQ.out.f 5; have HP := Lib.hid (HQ.out.p5 y); have d5 := HP.out.c5; have c3 := HP.out.c3; have f3 := HP.out.f 3; have HL := Lib.hid (HP.out.p3 (fnv 95 M)))
      | fail)
    go_returns
    exact ⟨rfl, HL.out⟩
end Go.Proofs.YtnfbjebhpljikaaGreat
