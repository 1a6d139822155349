/- Words of two numbers: parted, put together, turned; walked. A stack's machines: one that runs alone, in a stack, and in any memory; a walk. Where links stand: the map's own methods Link and Next as functions; what catches their panics. What the first words are, thing by thing; with nothing of the program. A map's packets: where they stand, and how they are at first. -/
import Derived.Test.YtpocihddecemfaaGreatJ3
import Derived.Test.YtpocihddecemfaaGreatJ6
import Derived.Test.YtpocihddecemfaaGreatJ8
import Derived.Test.YtpocihddecemfaaGreatJ9
import Derived.Defers
import Derived.Recover
import Derived.Laws.EntriesVeiled
import Derived.Test.YtpocihddecemfaaGreatLayFirst
import Derived.Test.YtpocihddecemfaaGreatJ7
namespace Go.Proofs.YtpocihddecemfaaGreat
open Go.RowKit
set_option linter.unusedVariables false

theorem bcell {W w1 : World} (hb : Below W.heap.size W w1) : (∀ b o, b < W.heap.size → w1.cell? ⟨b, o, none⟩ = W.cell? ⟨b, o, none⟩) ∧ (∀ b o, b < W.heap.size → w1.frozen? ⟨b, o, none⟩ = W.frozen? ⟨b, o, none⟩) :=
  ⟨fun b o h => hb.cell (p := ⟨b, o, none⟩) h, fun b o h => hb.frozen (p := ⟨b, o, none⟩) h⟩

set_option maxHeartbeats 400000 in
theorem part_any (b x : Int) (hb : 1 ≤ b) (hb2 : b ≤ 18446744073709551615) (hx : 0 ≤ x) (hx2 : x ≤ 18446744073709551615) (w : World) :
    Calls Tryz.prog 79 #[.int .u64 b, .int .u64 x] w fun e w' => e = .returned (.agg #[.int .u64 (x / b), .int .u64 (x % b)]) ∧ Below w.heap.size w w' := by
  go_enter Tryz.func79, Tryz.ntmps79
  go_wp2
  go_region
  all_goals go_wp2
  all_goals (refine bodyPost_ret (v := .agg #[.int .u64 (x / b), .int .u64 (x % b)]) (by simp [results, Tryz.results79, go_sem]) rfl ⟨rfl, ?_⟩)
  all_goals exact ((Below.refl _ _).alloc (Nat.le_refl _) _).drew

set_option linter.unusedVariables false in
set_option maxHeartbeats 400000 in
theorem join_any (b x y : Int) (hb : 1 ≤ b) (hb2 : b ≤ 18446744073709551615) (hx : 0 ≤ x) (hx2 : x ≤ 18446744073709551615) (hy : 0 ≤ y) (hy2 : y ≤ 18446744073709551615) (w : World) :
    Calls Tryz.prog 65 #[.int .u64 b, .agg #[.int .u64 x, .int .u64 y]] w fun e w' => e = .returned (.int .u64 (IntKind.u64.wrap (IntKind.u64.wrap (x * b) + y % b))) ∧ Below w.heap.size w w' := by
  go_enter Tryz.func65, Tryz.ntmps65
  go_wp2
  go_quiet (fail)
  go_wp2
  go_ret
  exact ⟨rfl, below_drewN ((Below.refl _ _).alloc (Nat.le_refl _) _) _⟩

set_option maxHeartbeats 400000 in
theorem split_any (x : Int) (hx : 0 ≤ x) (hx2 : x ≤ 18446744073709551615) (w : World) :
    Calls Tryz.prog 43 #[.int .u64 x] w fun e w' => e = .returned (.tuple #[.int .u32 (x / 4294967296), .int .u32 (x % 4294967296)]) ∧ Below w.heap.size w w' := by
  go_enter Tryz.func43, Tryz.ntmps43
  go_wp2_with (go_at_call 79; refine (part_any 4294967296 x (by omega) (by omega) hx hx2 _).mono ?_; rintro e w1 ⟨rfl, hb⟩)
  go_quiet (fail)
  go_wp2
  go_ret2
  exact ⟨rfl, below_drewN ((hb.alloc hb.size _)) _⟩

set_option maxHeartbeats 400000 in
theorem pair_any (x y : Int) (hx : 0 ≤ x) (hx2 : x ≤ 4294967295) (hy : 0 ≤ y) (hy2 : y ≤ 4294967295) (w : World) :
    Calls Tryz.prog 29 #[.int .u32 x, .int .u32 y] w fun e w' => e = .returned (.int .u64 (x * 4294967296 + y)) ∧ Below w.heap.size w w' := by
  go_enter Tryz.func29, Tryz.ntmps29
  go_wp2_with (go_at_call 65; refine (join_any 4294967296 x y (by omega) (by omega) hx (by omega) hy (by omega) _).mono ?_; rintro e w1 ⟨rfl, hb⟩)
  go_ret
  exact ⟨ret_int (by rw [IntKind.wrap_u64, IntKind.wrap_u64]; omega), hb⟩

set_option maxHeartbeats 400000 in
theorem turn_any (x y : Int) (hx : 0 ≤ x) (hx2 : x ≤ 18446744073709551615) (hy : 0 ≤ y) (hy2 : y ≤ 4294967295) (w : World) :
    Calls Tryz.prog 184 #[.int .u64 x, .int .u32 y] w fun e w' => e = .returned (.int .u64 ((x / 4294967296 + 1) % 4294967296 * 4294967296 + y)) ∧ Below w.heap.size w w' := by
  go_enter Tryz.func184, Tryz.ntmps184
  go_wp2_with (first | (go_at_call 43; refine (split_any x hx hx2 _).mono ?_; rintro e w1 ⟨rfl, hb⟩) | (go_at_call 29; refine (pair_any (IntKind.u32.wrap (x / 4294967296 + 1)) y (by rw [IntKind.wrap_u32]; omega) (by rw [IntKind.wrap_u32]; omega) hy hy2 _).mono ?_; rintro e w2 ⟨rfl, hb2⟩))
  go_ret
  exact ⟨ret_int (by rw [IntKind.wrap_u32]), below_step hb hb.size hb2⟩

set_option maxHeartbeats 400000 in
theorem refPair_any (x y : Int) (hx : 0 ≤ x) (hx2 : x ≤ 4294967295) (hy : 0 ≤ y) (hy2 : y ≤ 4294967295) (w : World) :
    Calls Tryz.prog 86 #[.int .u32 x, .int .u32 y] w fun e w' => e = .returned (.int .u64 (x * 4294967296 + y)) ∧ w = w' := by
  go_enter Tryz.func86, Tryz.ntmps86
  go_wp2
  go_ret
  exact ⟨rfl, rfl⟩

set_option maxHeartbeats 400000 in
theorem refHigh_any (x : Int) (hx : 0 ≤ x) (hx2 : x ≤ 18446744073709551615) (w : World) :
    Calls Tryz.prog 45 #[.int .u64 x] w fun e w' => e = .returned (.int .u32 (x / 4294967296)) ∧ w = w' := by
  go_enter Tryz.func45, Tryz.ntmps45
  go_wp2
  go_ret
  exact ⟨rfl, rfl⟩

set_option maxHeartbeats 400000 in
theorem refLow_any (x : Int) (hx : 0 ≤ x) (hx2 : x ≤ 18446744073709551615) (w : World) :
    Calls Tryz.prog 46 #[.int .u64 x] w fun e w' => e = .returned (.int .u32 (x % 4294967296)) ∧ w = w' := by
  go_enter Tryz.func46, Tryz.ntmps46
  go_wp2
  go_ret
  exact ⟨rfl, rfl⟩

/-- A word's low number. -/
def lowOf (x : Int) : Int := x % 4294967296
def hiOf (x : Int) : Int := x / 4294967296
def turnOf (x n : Int) : Int := (hiOf x + 1) % 4294967296 * 4294967296 + n
theorem lowOf_rng (x : Int) : 0 ≤ lowOf x ∧ lowOf x ≤ 4294967295 := by unfold lowOf; omega

set_option maxHeartbeats 400000 in
theorem low_any (x : Int) (hx : 0 ≤ x) (hx2 : x ≤ 18446744073709551615) (w : World) :
    Calls Tryz.prog 172 #[.int .u64 x] w fun e w' => e = .returned (.int .u32 (lowOf x)) ∧ Below w.heap.size w w' := by
  go_enter Tryz.func172, Tryz.ntmps172
  go_wp2_with (first | (go_at_call 43; (with_reducible refine (split_any x hx hx2 _).mono ?_); rintro e w1 ⟨rfl, hb⟩) | fail)
  go_ret
  exact ⟨rfl, hb⟩
theorem turnw_any (x y : Int) (hx : 0 ≤ x) (hx2 : x ≤ 18446744073709551615) (hy : 0 ≤ y) (hy2 : y ≤ 4294967295) (w : World) :
    Calls Tryz.prog 184 #[.int .u64 x, .int .u32 y] w fun e w' => e = .returned (.int .u64 (turnOf x y)) ∧ Below w.heap.size w w' := turn_any x y hx hx2 hy hy2 w
end Go.Proofs.YtpocihddecemfaaGreat

namespace Go.Proofs.YtpocihddecemfaaGreat
set_option linter.unusedVariables false
set_option linter.unusedSimpArgs false

def sruns : Nat → List Int → Sm → List Int × Sm
  | 0, L, m => (L, m)
  | k + 1, L, m => sruns k (sstp L m).1 (sstp L m).2
theorem sstp_no {L : List Int} {m : Sm} (h : m.pc = 0) : sstp L m = (L, m) := by simp [sstp, h]
theorem sruns_done {L : List Int} {m : Sm} (h : m.pc = 0) (k : Nat) : sruns k L m = (L, m) := by
  induction k with
  | zero => rfl
  | succ k ih => simp only [sruns, sstp_no h]; exact ih

/-! The steps, one by one. -/
theorem push_first {L : List Int} {m : Sm} (hk : m.kind = 1) (hp : m.pc = 1) {w : Int} (hw : ldq L m.k.head = w) :
    sstp L m = (L, { m with pc := 2, h := w, link := low w, tries := m.tries + 1 }) := by
  subst hw; simp [sstp, hk, hp]
theorem push_link {L : List Int} {m : Sm} (hk : m.kind = 1) (hp : m.pc = 2) : sstp L m = (ptq L (atOf m.k.links m.item) m.link, { m with pc := 3 }) := by
  simp [sstp, hk, hp]
theorem pop_link {L : List Int} {m : Sm} (hk : m.kind = 2) (hp : m.pc = 2) : sstp L m = (L, { m with pc := 3, link := low (ldq L (atOf m.k.links m.item)) }) := by
  simp [sstp, hk, hp]
theorem push_swap {L : List Int} {m : Sm} (hk : m.kind = 1) (hp : m.pc = 3) : sstp L m = swapS L m m.item := by
  simp [sstp, hk, hp]
theorem pop_swap {L : List Int} {m : Sm} (hk : m.kind = 2) (hp : m.pc = 3) : sstp L m = swapS L m m.link := by
  simp [sstp, hk, hp]

end Go.Proofs.YtpocihddecemfaaGreat

namespace Go.Proofs.YtpocihddecemfaaGreat
open Go.RowKit
set_option linter.unusedVariables false

/-- The places of packets' links, and of nodes' next ones, as lists. -/
def lnkL (c : Lay.Cfg) : List Int := (List.range (Lay.packN c).toNat).map fun (i : Nat) => Lay.plcc c 12 ((i : Int) + 1) 0
def nxtL (c : Lay.Cfg) : List Int := (List.range (Lay.nodesN c).toNat).map fun (i : Nat) => Lay.plcc c 17 ((i : Int) + 1) 0
theorem lnk_len (c : Lay.Cfg) : (lnkL c).length = (Lay.packN c).toNat := by simp [lnkL]
theorem nxt_len (c : Lay.Cfg) : (nxtL c).length = (Lay.nodesN c).toNat := by simp [nxtL]
theorem atOf_row (n : Nat) (f : Int → Int) (x : Int) (h : ∀ x, x < 1 ∨ (n : Int) < x → f x = -1) : atOf ((List.range n).map fun (i : Nat) => f ((i : Int) + 1)) x = f x := by
  unfold atOf
  simp only [List.length_map, List.length_range]
  by_cases hx : 1 ≤ x ∧ x ≤ (n : Int)
  · rw [if_pos hx]
    obtain ⟨i, hi⟩ : ∃ i : Nat, x = (i : Int) + 1 := ⟨(x - 1).toNat, by omega⟩
    subst hi
    have e : ((i : Int) + 1 - 1).toNat = i := by omega
    rw [e]
    simp [List.getD, show i < n by omega]
  · rw [if_neg hx, h x (by omega)]
theorem lnk_at {c : Lay.Cfg} (hc : Lay.OkC c) (x : Int) : atOf (lnkL c) x = Lay.plcc c 12 x 0 := by
  refine atOf_row _ (fun x => Lay.plcc c 12 x 0) x fun x hx => ?_
  have h0 := (Lay.bds hc).p0
  unfold Lay.plcc Lay.plc
  rw [if_neg (by simp), if_neg (by simp), if_neg (by simp), if_neg (by simp), if_neg (by simp), if_neg (by simp), if_neg (by simp), if_neg (by simp), if_pos (by simp)]
  exact if_neg (show ¬ (1 ≤ x ∧ x ≤ (((Lay.packN c).toNat : Nat) : Int)) by omega)
theorem nxt_at' {c : Lay.Cfg} (hc : Lay.OkC c) (x : Int) : atOf (nxtL c) x = Lay.plcc c 17 x 0 := by
  refine atOf_row _ (fun x => Lay.plcc c 17 x 0) x fun x hx => ?_
  have hl := Lay.ks_len hc
  unfold Lay.plcc Lay.plc
  rw [if_neg (by simp), if_neg (by simp), if_neg (by simp), if_neg (by simp), if_neg (by simp), if_neg (by simp), if_neg (by simp), if_neg (by simp), if_neg (by simp), if_neg (by simp), if_pos (by simp)]
  have e : (Lay.roomsN c).length = (Lay.ksOf c).length := by simp [Lay.roomsN]
  exact if_neg (show ¬ (1 ≤ x ∧ x ≤ (((Lay.roomsN c).length : Nat) : Int)) by omega)

/-- A function that tells where links stand. -/
def Lk (w : World) (lv : Value) (Ab : Nat) (zs : List Int) : Prop :=
  ∃ c, Lay.OkC c ∧ Lay.IsMap w Ab c ∧ ((lv = .func (.func 73) #[Lay.mapP Ab] #[] ∧ zs = lnkL c) ∨ (lv = .func (.func 71) #[Lay.mapP Ab] #[] ∧ zs = nxtL c))
theorem Lk.lt {w : World} {lv : Value} {Ab : Nat} {zs : List Int} (h : Lk w lv Ab zs) : Ab < w.heap.size := by
  obtain ⟨c, _, h, _⟩ := h; exact h.1
theorem Lk.keep {w w' : World} {lv : Value} {Ab : Nat} {zs : List Int} (h : Lk w lv Ab zs) (hs : w.heap.size ≤ w'.heap.size) (h2 : w'.heap[Ab]? = w.heap[Ab]?) : Lk w' lv Ab zs := by
  obtain ⟨c, hc, hm, hr⟩ := h
  exact ⟨c, hc, ⟨Nat.lt_of_lt_of_le hm.1 hs, fun i hi => (World.cell?_of_block (w := w) (a := ⟨Ab, i, none⟩) h2).trans (hm.2 i hi)⟩, hr⟩
theorem Lk.below {w w' : World} {lv : Value} {Ab : Nat} {zs : List Int} (h : Lk w lv Ab zs) (hb : Below w.heap.size w w') : Lk w' lv Ab zs :=
  h.keep hb.size (hb.block Ab h.lt)

theorem catch_idle (p : Addr) (w : World) :
    CallsD Tryz.prog 179 #[.pointer (some p)] .returning w fun e u' w' => e = .returned (.tuple #[]) ∧ u' = .returning ∧ w' = w := by
  refine callsD_of_wpS Tryz.func179 rfl fun c₀ cs hu => ?_
  apply wpS_seq
  apply wpS_region
  simp [wpOpsS, go_sem, recoverD, hu, Tryz.ntmps179, Exit.thenS]
  refine wpS_cond (t := false) (by simp [Act.eval, Array.replicate]) ?_
  simp only [Bool.false_eq_true, if_false]
  refine wpS_of_wp (wp_skip ?_)
  cases c₀
  simp_all [bodyPostS, results, Tryz.results179]

theorem pcell {W w1 : World} (hb : Below W.heap.size W w1) : (∀ b o, b < W.heap.size → w1.cell? ⟨b, o, none⟩ = W.cell? ⟨b, o, none⟩) ∧ (∀ b o, b < W.heap.size → w1.frozen? ⟨b, o, none⟩ = W.frozen? ⟨b, o, none⟩) :=
  ⟨fun b o h => hb.cell (p := ⟨b, o, none⟩) h, fun b o h => hb.frozen (p := ⟨b, o, none⟩) h⟩

set_option maxHeartbeats 1000000 in
theorem place_any {lv : Value} {Ab : Nat} {zs : List Int} (x : Int) (w : World) (h : Lk w lv Ab zs) (h0 : 0 ≤ x) (h1 : x ≤ 4294967295) :
    Calls Tryz.prog 173 #[lv, .int .u32 x] w fun e w' => e = .returned (.int .i64 (atOf zs x)) ∧ Below w.heap.size w w' := by
  have hmf : ∀ (fn : Fn) (first cap : Array Value) (w : World), (Instr.makeFunc fn first cap).run Tryz.prog w = .ok (.func fn first cap) w := fun _ _ _ _ => rfl
  obtain ⟨c, hc, hm, hr⟩ := h
  have H := Lib.hid hm; have HC := Lib.hid hc
  have hwf : (Lit.int .i64 x).wf = true := Lay.wf_i64 (by omega) (by omega)
  rcases hr with ⟨rfl, rfl⟩ | ⟨rfl, rfl⟩
  · rw [lnk_at hc]
    clear hm hc
    go_enter_defers Tryz.func173, Tryz.ntmps173
    go_wp2_with (first
      | (go_at_call 73; (with_reducible refine (Lay.link_m HC.out Ab x hwf _ (H.out.below (below_alloc0 (Below.refl _ _) _))).mono ?_); rintro r w1 ⟨rfl, hb⟩; obtain ⟨hcc, hff⟩ := pcell hb)
      | fail)
    have e0 : w1.cell? ⟨w.heap.size, 0, none⟩ = some (.int .i64 0) := (hcc _ 0 (by simp)).trans (by rw [World.cell?_alloc_at _ _ _ _ rfl]; rfl)
    have hw : Below w.heap.size w w1 := below_then (below_alloc0 (Below.refl _ _) _) hb
    refine leaves_cons (f := 179) (args := #[.pointer (some ⟨w.heap.size, 0, none⟩)]) (by simp) (by simp [go_sem]) ?_
    refine (catch_idle ⟨w.heap.size, 0, none⟩ _).mono ?_
    rintro e u' w'' ⟨rfl, rfl, rfl⟩
    refine ⟨.int .i64 (Lay.plcc c 12 x 0), ?_, rfl, hw.setCell (Nat.le_refl _) _⟩
    have e1 := World.cell?_setCell_same w1 ⟨w.heap.size, 0, none⟩ (.int .i64 (Lay.plcc c 12 x 0)) e0
    simp [results, Tryz.results173, go_sem, e1]
  · rw [nxt_at' hc]
    clear hm hc
    go_enter_defers Tryz.func173, Tryz.ntmps173
    go_wp2_with (first
      | (go_at_call 71; (with_reducible refine (Lay.next_m HC.out Ab x hwf _ (H.out.below (below_alloc0 (Below.refl _ _) _))).mono ?_); rintro r w1 ⟨rfl, hb⟩; obtain ⟨hcc, hff⟩ := pcell hb)
      | fail)
    have e0 : w1.cell? ⟨w.heap.size, 0, none⟩ = some (.int .i64 0) := (hcc _ 0 (by simp)).trans (by rw [World.cell?_alloc_at _ _ _ _ rfl]; rfl)
    have hw : Below w.heap.size w w1 := below_then (below_alloc0 (Below.refl _ _) _) hb
    refine leaves_cons (f := 179) (args := #[.pointer (some ⟨w.heap.size, 0, none⟩)]) (by simp) (by simp [go_sem]) ?_
    refine (catch_idle ⟨w.heap.size, 0, none⟩ _).mono ?_
    rintro e u' w'' ⟨rfl, rfl, rfl⟩
    refine ⟨.int .i64 (Lay.plcc c 17 x 0), ?_, rfl, hw.setCell (Nat.le_refl _) _⟩
    have e1 := World.cell?_setCell_same w1 ⟨w.heap.size, 0, none⟩ (.int .i64 (Lay.plcc c 17 x 0)) e0
    simp [results, Tryz.results173, go_sem, e1]
end Go.Proofs.YtpocihddecemfaaGreat

namespace Go.Proofs.YtpocihddecemfaaGreat.Lay
open Go.RowKit
set_option linter.unusedVariables false

/-- A class's first node and last node that is free. -/
def clsE (c : Cfg) (k : Int) : Int := imin (rF c k + rM c k) (nodesN c) - 1
theorem imin_le (x y : Int) : imin x y ≤ x ∧ imin x y ≤ y ∧ (imin x y = x ∨ imin x y = y) := by unfold imin; omega

theorem ite_c {p : Prop} {d1 d2 : Decidable p} {α : Type} (x y z : α) (h : y = z) : (@ite α p d1 x y) = (@ite α p d2 x z) := by
  subst h; by_cases hp : p <;> simp [hp]
theorem cls_num {S x n F E : Int} (hS : 0 ≤ S) (hx : 0 ≤ x) (hx2 : x ≤ 12) (hn : S + x ≤ n) (h1 : 1 ≤ n) (h60 : n ≤ 60) (hF : F = 1 + S) (hE : E = imin (F + x) n - 1) :
    imin S (n - 1) + ((E - F + 1).toNat : Int) = imin (S + x) (n - 1) ∧ (E - F + 1).toNat ≤ 60 ∧ (1 ≤ F ∧ F ≤ 61) ∧ (0 ≤ imin S (n - 1) ∧ imin S (n - 1) ≤ 60) := by
  unfold imin at *; omega
theorem fv_pool (c : Cfg) : firstV c ⟨4, 0, 0⟩ = 0 := by simp [firstV, stkV, VV, baseV, isTh]
theorem fv_spare {c : Cfg} (h : OkC c) : firstV c ⟨5, 0, 0⟩ = 1 := by
  have := (bds h).p0
  simp [firstV, stkV, isTh]; omega
theorem fv_link {c : Cfg} (h : OkC c) (p : Int) (h1 : 1 ≤ p) : firstV c ⟨12, p, 0⟩ = if p < packN c then p + 1 else 0 := by
  simp [firstV, stkV, VV, baseV, isTh, h1]
theorem fv_state {c : Cfg} (h : OkC c) (v : Int) : firstV c ⟨15, v, 0⟩ = if v = nodesN c then 1 else 0 := by
  simp [firstV, stkV, VV, baseV, isTh]
theorem fv_header {c : Cfg} (h : OkC c) (v : Int) : firstV c ⟨14, v, 0⟩ = if v = nodesN c then slotsOf (kindV c (nodesN c)) else 0 := by
  simp [firstV, stkV, VV, baseV, isTh]
theorem fv_head (c : Cfg) (k : Nat) (hk : k < 5) : firstV c ⟨7, (k : Int), 0⟩ = if rF c k ≤ clsE c k then rF c k else 0 := by
  match k, hk with
  | 0, _ => simp [firstV, stkV, VV, baseV, isTh, clsE]; exact ite_c _ _ _ rfl
  | 1, _ => simp [firstV, stkV, VV, baseV, isTh, clsE]; exact ite_c _ _ _ rfl
  | 2, _ => simp [firstV, stkV, VV, baseV, isTh, clsE]; exact ite_c _ _ _ rfl
  | 3, _ => simp [firstV, stkV, VV, baseV, isTh, clsE]; exact ite_c _ _ _ rfl
  | 4, _ => simp [firstV, stkV, VV, baseV, isTh, clsE]; exact ite_c _ _ _ rfl
theorem fv_next (c : Cfg) (v : Int) : firstV c ⟨17, v, 0⟩ = if rF c 4 ≤ v ∧ v < clsE c 4 then v + 1 else if rF c 3 ≤ v ∧ v < clsE c 3 then v + 1 else if rF c 2 ≤ v ∧ v < clsE c 2 then v + 1 else if rF c 1 ≤ v ∧ v < clsE c 1 then v + 1 else if rF c 0 ≤ v ∧ v < clsE c 0 then v + 1 else 0 := by
  simp [firstV, stkV, VV, baseV, isTh, clsE]
  repeat (first | rfl | (refine ite_c _ _ _ ?_))
theorem fv_rest {c : Cfg} (t : Th) (h : t.k ≠ 5 ∧ t.k ≠ 7 ∧ t.k ≠ 12 ∧ t.k ≠ 14 ∧ t.k ≠ 15 ∧ t.k ≠ 17) : firstV c t = 0 := by
  obtain ⟨h5, h7, h12, h14, h15, h17⟩ := h
  simp [firstV, stkV, VV, baseV, isTh, h5, h7, h12, h14, h15, h17]

/-- How many nodes of a class are free. -/
def clsN (c : Cfg) (k : Int) : Nat := (clsE c k - rF c k + 1).toNat
structure Cls (c : Cfg) (k : Nat) : Prop where
  head : firstV c ⟨7, (k : Int), 0⟩ = if 0 < clsN c k then rF c k else 0
  next : ∀ j : Nat, j < clsN c k → firstV c ⟨17, rF c k + j, 0⟩ = if j + 1 < clsN c k then rF c k + ((j + 1 : Nat) : Int) else 0
  node : ∀ j : Nat, j < clsN c k → kindV c (rF c k + j) = k ∧ rF c k + j < nodesN c ∧ 1 ≤ rF c k + (j : Int)
  sum : imin (sumTo c k) (nodesN c - 1) + clsN c k = imin (sumTo c (k + 1)) (nodesN c - 1)
  n60 : clsN c k ≤ 60
  f1 : 1 ≤ rF c k ∧ rF c k ≤ 61
  s0 : 0 ≤ imin (sumTo c k) (nodesN c - 1) ∧ imin (sumTo c k) (nodesN c - 1) ≤ 60
theorem cls_five {c : Cfg} (h : OkC c) (k : Nat) (hk : k < 5) : 0 ≤ sumTo c k ∧ 0 ≤ rM c k ∧ rM c k ≤ 12 ∧ sumTo c k + rM c k ≤ nodesN c ∧ rF c k = 1 + sumTo c k ∧ sumTo c (k + 1) = sumTo c k + rM c k := by
  have a0 := h.a0; have b0 := h.b0; have c0 := h.c0; have d0 := h.d0; have e0 := h.e0
  have a1 := h.a1; have b1 := h.b1; have c1 := h.c1; have d1 := h.d1; have e1 := h.e1
  have hn : nodesN c = c.a + c.b + c.c + c.d + c.e := rfl
  match k, hk with
  | 0, _ => simp [sumTo, cnt, rM, rF]; omega
  | 1, _ => simp [sumTo, cnt, rM, rF]; omega
  | 2, _ => simp [sumTo, cnt, rM, rF]; omega
  | 3, _ => simp [sumTo, cnt, rM, rF]; omega
  | 4, _ => simp [sumTo, cnt, rM, rF]; omega
set_option maxHeartbeats 1000000 in
theorem cls {c : Cfg} (h : OkC c) (k : Nat) (hk : k < 5) : Cls c k := by
  have hb := bds h
  have a0 := h.a0; have b0 := h.b0; have c0 := h.c0; have d0 := h.d0; have e0 := h.e0
  have a1 := h.a1; have b1 := h.b1; have c1 := h.c1; have d1 := h.d1; have e1 := h.e1
  have n0 := hb.n0
  have hn : nodesN c = c.a + c.b + c.c + c.d + c.e := rfl
  have f0 : rF c 0 = 1 := rfl
  have f1 : rF c 1 = 1 + c.a := rfl
  have f2 : rF c 2 = 1 + c.a + c.b := rfl
  have f3 : rF c 3 = 1 + c.a + c.b + c.c := rfl
  have f4 : rF c 4 = 1 + c.a + c.b + c.c + c.d := rfl
  have g0 : clsE c 0 = imin (1 + c.a) (nodesN c) - 1 := rfl
  have g1 : clsE c 1 = imin (1 + c.a + c.b) (nodesN c) - 1 := rfl
  have g2 : clsE c 2 = imin (1 + c.a + c.b + c.c) (nodesN c) - 1 := rfl
  have g3 : clsE c 3 = imin (1 + c.a + c.b + c.c + c.d) (nodesN c) - 1 := rfl
  have g4 : clsE c 4 = imin (1 + c.a + c.b + c.c + c.d + c.e) (nodesN c) - 1 := rfl
  have i0 := imin_le (1 + c.a) (nodesN c)
  have i1 := imin_le (1 + c.a + c.b) (nodesN c)
  have i2 := imin_le (1 + c.a + c.b + c.c) (nodesN c)
  have i3 := imin_le (1 + c.a + c.b + c.c + c.d) (nodesN c)
  have i4 := imin_le (1 + c.a + c.b + c.c + c.d + c.e) (nodesN c)
  have s0 : sumTo c 0 = 0 := rfl
  have s1 : sumTo c 1 = c.a := by simp [sumTo, cnt]
  have s2 : sumTo c 2 = c.a + c.b := by simp [sumTo, cnt]
  have s3 : sumTo c 3 = c.a + c.b + c.c := by simp [sumTo, cnt]
  have s4 : sumTo c 4 = c.a + c.b + c.c + c.d := by simp [sumTo, cnt]
  have s5 : sumTo c 5 = c.a + c.b + c.c + c.d + c.e := sum5 c
  have j0 := imin_le 0 (nodesN c - 1)
  have j1 := imin_le c.a (nodesN c - 1)
  have j2 := imin_le (c.a + c.b) (nodesN c - 1)
  have j3 := imin_le (c.a + c.b + c.c) (nodesN c - 1)
  have j4 := imin_le (c.a + c.b + c.c + c.d) (nodesN c - 1)
  have j5 := imin_le (c.a + c.b + c.c + c.d + c.e) (nodesN c - 1)
  have key : ∀ (v : Int), (rF c k ≤ v ∧ v ≤ clsE c k) → kindV c v = k ∧ v < nodesN c ∧ 1 ≤ v := fun v hv => by
    have kv := kindV_cases h v
    match k, hk with
    | 0, _ => simp only [Int.natCast_zero] at hv ⊢; omega
    | 1, _ => have e : ((1 : Nat) : Int) = 1 := rfl; rw [e] at hv ⊢; omega
    | 2, _ => have e : ((2 : Nat) : Int) = 2 := rfl; rw [e] at hv ⊢; omega
    | 3, _ => have e : ((3 : Nat) : Int) = 3 := rfl; rw [e] at hv ⊢; omega
    | 4, _ => have e : ((4 : Nat) : Int) = 4 := rfl; rw [e] at hv ⊢; omega
  have keyN : ∀ (v : Int), (rF c k ≤ v ∧ v ≤ clsE c k) → firstV c ⟨17, v, 0⟩ = if v < clsE c k then v + 1 else 0 := fun v hv => by
    rw [fv_next]
    match k, hk with
    | 0, _ =>
      have e : ((0 : Nat) : Int) = 0 := rfl
      rw [e] at hv ⊢
      rw [if_neg (by omega), if_neg (by omega), if_neg (by omega), if_neg (by omega)]
      by_cases hh : v < clsE c 0
      · rw [if_pos hh, if_pos ⟨hv.1, hh⟩]
      · rw [if_neg hh, if_neg (fun e => hh e.2)]
    | 1, _ =>
      have e : ((1 : Nat) : Int) = 1 := rfl
      rw [e] at hv ⊢
      rw [if_neg (by omega), if_neg (by omega), if_neg (by omega)]
      by_cases hh : v < clsE c 1
      · rw [if_pos hh, if_pos ⟨hv.1, hh⟩]
      · rw [if_neg hh, if_neg (fun e => hh e.2), if_neg (by omega)]
    | 2, _ =>
      have e : ((2 : Nat) : Int) = 2 := rfl
      rw [e] at hv ⊢
      rw [if_neg (by omega), if_neg (by omega)]
      by_cases hh : v < clsE c 2
      · rw [if_pos hh, if_pos ⟨hv.1, hh⟩]
      · rw [if_neg hh, if_neg (fun e => hh e.2), if_neg (by omega), if_neg (by omega)]
    | 3, _ =>
      have e : ((3 : Nat) : Int) = 3 := rfl
      rw [e] at hv ⊢
      rw [if_neg (by omega)]
      by_cases hh : v < clsE c 3
      · rw [if_pos hh, if_pos ⟨hv.1, hh⟩]
      · rw [if_neg hh, if_neg (fun e => hh e.2), if_neg (by omega), if_neg (by omega), if_neg (by omega)]
    | 4, _ =>
      have e : ((4 : Nat) : Int) = 4 := rfl
      rw [e] at hv ⊢
      by_cases hh : v < clsE c 4
      · rw [if_pos hh, if_pos ⟨hv.1, hh⟩]
      · rw [if_neg hh, if_neg (fun e => hh e.2), if_neg (by omega), if_neg (by omega), if_neg (by omega), if_neg (by omega)]
  have hC : clsN c k = (clsE c k - rF c k + 1).toNat := rfl
  refine ⟨?_, fun j hj => ?_, fun j hj => key _ (by omega), ?_, ?_, ?_, ?_⟩
  · rw [fv_head c k hk]
    by_cases hh : rF c k ≤ clsE c k
    · rw [if_pos hh, if_pos (by omega)]
    · rw [if_neg hh, if_neg (by omega)]
  · rw [keyN _ (by omega)]
    by_cases hh : rF c k + (j : Int) < clsE c k
    · rw [if_pos hh, if_pos (by omega)]; omega
    · rw [if_neg hh, if_neg (by omega)]
  all_goals (
    have hq := cls_num (S := sumTo c k) (x := rM c k) (n := nodesN c) (F := rF c k) (E := clsE c k) (cls_five h k hk).1 (cls_five h k hk).2.1 (cls_five h k hk).2.2.1 (cls_five h k hk).2.2.2.1 n0 hb.n1 (cls_five h k hk).2.2.2.2.1 rfl
    rw [← (cls_five h k hk).2.2.2.2.2] at hq)
  · exact hq.1
  · exact hq.2.1
  · exact hq.2.2.1
  · exact hq.2.2.2
end Go.Proofs.YtpocihddecemfaaGreat.Lay

namespace Go.Proofs.YtpocihddecemfaaGreat
open Go.RowKit
set_option linter.unusedVariables false
open Lay (plcc plc shOf packN nodesN OkC Cfg Norm firstV Rep lenL)

def spK (c : Cfg) : Sk := ⟨plcc c 5 0 0, lnkL c⟩
def poK (c : Cfg) : Sk := ⟨plcc c 4 0 0, lnkL c⟩
def gOf (c : Cfg) : Pg := ⟨spK c, poK c, fun x j => plcc c 13 x j, fun x => plcc c 11 x 0⟩
def pkn (c : Cfg) : Nat := (packN c).toNat
theorem pkn_is {c : Cfg} (hc : OkC c) : ((pkn c : Nat) : Int) = packN c := by have := (Lay.bds hc).p0; unfold pkn; omega

theorem nrm (k a b : Int) (h6 : 0 ≤ k) (h18 : k ≤ 18) (ha : k ≤ 5 → a = 0) (hb : k ≠ 10 → k ≠ 13 → k ≠ 18 → b = 0) : Norm ⟨k, a, b⟩ := ⟨h6, h18, ha, hb⟩
/-- Two things at one place are one. -/
theorem one_place {c : Cfg} {k a b k' a' b' : Int} (h : Norm ⟨k, a, b⟩) (h' : Norm ⟨k', a', b'⟩) (h0 : 0 ≤ plcc c k a b) (e : plcc c k a b = plcc c k' a' b') : k = k' ∧ a = a' ∧ b = b' := by
  have := Lay.plc_inj (s := shOf c) h h' h0 e.symm
  injection this with e1 e2 e3
  exact ⟨e1.symm, e2.symm, e3.symm⟩
theorem pos11 {c : Cfg} (hc : OkC c) {x : Int} (h1 : 1 ≤ x) (h2 : x ≤ packN c) : 0 ≤ plcc c 11 x 0 := by
  have := (Lay.bds hc).t4
  rw [← Lay.plc_many hc x, Lay.wordL, if_pos (by omega)]; omega
theorem pos12 {c : Cfg} (hc : OkC c) {x : Int} (h1 : 1 ≤ x) (h2 : x ≤ packN c) : 0 ≤ plcc c 12 x 0 := Lay.link_pos hc x h1 h2
theorem pos13 {c : Cfg} (hc : OkC c) {x j : Int} (h1 : 1 ≤ x) (h2 : x ≤ packN c) (h3 : 0 ≤ j) (h4 : j < 4) : 0 ≤ plcc c 13 x j := by
  have := (Lay.bds hc).t4
  rw [← Lay.plc_task hc x j, Lay.itemL, if_pos (by omega), Lay.wordL, if_pos (by omega)]; omega
theorem gk_of {c : Cfg} (hc : OkC c) (h : Int) (h5 : h = 4 ∨ h = 5) : Gk (pkn c) (lenL (shOf c)) ⟨plcc c h 0 0, lnkL c⟩ := by
  have hn := pkn_is hc
  have hb := (Lay.bds hc).p1
  have e : plcc c h 0 0 = h := Lay.single_pos c h (by omega) (by omega)
  refine ⟨by omega, ⟨by show 0 ≤ plcc c h 0 0; omega, Lay.plc_lt (nrm h 0 0 (by omega) (by omega) (fun _ => rfl) (fun _ _ _ => rfl)) (by show 0 ≤ plcc c h 0 0; omega)⟩, fun x h1 h2 => ?_, fun x y h1 h2 h3 h4 he => ?_⟩
  · show 0 ≤ atOf (lnkL c) x ∧ atOf (lnkL c) x < _ ∧ atOf (lnkL c) x ≠ plcc c h 0 0
    rw [lnk_at hc]
    have p := pos12 hc h1 (by omega)
    have nx : Norm ⟨12, x, 0⟩ := nrm 12 x 0 (by omega) (by omega) (fun h => by omega) (fun _ _ _ => rfl)
    refine ⟨p, Lay.plc_lt nx p, fun he => ?_⟩
    have := one_place nx (nrm h 0 0 (by omega) (by omega) (fun _ => rfl) (fun _ _ _ => rfl)) p he
    omega
  · have he' : atOf (lnkL c) x = atOf (lnkL c) y := he
    rw [lnk_at hc, lnk_at hc] at he'
    have nx : ∀ z, Norm ⟨12, z, 0⟩ := fun z => nrm 12 z 0 (by omega) (by omega) (fun h => by omega) (fun _ _ _ => rfl)
    exact (one_place (nx x) (nx y) (pos12 hc h1 (by omega)) he').2.1
theorem gp_of {c : Cfg} (hc : OkC c) : Gp (pkn c) (lenL (shOf c)) (gOf c) := by
  have hn := pkn_is hc
  have e4 : plcc c 4 0 0 = 4 := Lay.single_pos c 4 (by omega) (by omega)
  have e5 : plcc c 5 0 0 = 5 := Lay.single_pos c 5 (by omega) (by omega)
  have n0 : ∀ h : Int, 0 ≤ h → h ≤ 5 → Norm ⟨h, 0, 0⟩ := fun h h1 h2 => nrm h 0 0 h1 (by omega) (fun _ => rfl) (fun _ _ _ => rfl)
  have n1 : ∀ k z : Int, 6 ≤ k → k ≤ 18 → Norm ⟨k, z, 0⟩ := fun k z h1 h2 => nrm k z 0 (by omega) h2 (fun h => by omega) (fun _ _ _ => rfl)
  have n3 : ∀ z j : Int, Norm ⟨13, z, j⟩ := fun z j => nrm 13 z j (by omega) (by omega) (fun h => by omega) (fun _ h _ => absurd rfl h)
  refine ⟨gk_of hc 5 (.inr rfl), gk_of hc 4 (.inl rfl), rfl, by show plcc c 5 0 0 ≠ plcc c 4 0 0; omega, ?_, ?_, ?_, ?_, ?_, ?_, ?_⟩
  · intro x j h1 h2 h3 h4
    have p := pos13 hc h1 (by omega) h3 h4
    refine ⟨p, Lay.plc_lt (n3 x j) p, fun he => ?_, fun he => ?_⟩
    · have := one_place (n3 x j) (n0 5 (by omega) (by omega)) p he; omega
    · have := one_place (n3 x j) (n0 4 (by omega) (by omega)) p he; omega
  · intro x j y h1 h2 h3 h4 h5 h6 he
    have he' : plcc c 13 x j = atOf (lnkL c) y := he
    rw [lnk_at hc] at he'
    have := one_place (n3 x j) (n1 12 y (by omega) (by omega)) (pos13 hc h1 (by omega) h3 h4) he'; omega
  · intro x j y h1 h2 h3 h4 h5 h6 he
    have := one_place (n3 x j) (n1 11 y (by omega) (by omega)) (pos13 hc h1 (by omega) h3 h4) he; omega
  · intro x j y i h1 h2 h3 h4 h5 h6 h7 h8 he
    have := one_place (n3 x j) (n3 y i) (pos13 hc h1 (by omega) h3 h4) he
    exact this.2
  · intro x h1 h2
    have p := pos11 hc h1 (by omega)
    refine ⟨p, Lay.plc_lt (n1 11 x (by omega) (by omega)) p, fun he => ?_, fun he => ?_⟩
    · have := one_place (n1 11 x (by omega) (by omega)) (n0 5 (by omega) (by omega)) p he; omega
    · have := one_place (n1 11 x (by omega) (by omega)) (n0 4 (by omega) (by omega)) p he; omega
  · intro x y h1 h2 h3 h4 he
    have he' : plcc c 11 x 0 = atOf (lnkL c) y := he
    rw [lnk_at hc] at he'
    have := one_place (n1 11 x (by omega) (by omega)) (n1 12 y (by omega) (by omega)) (pos11 hc h1 (by omega)) he'; omega
  · intro x y h1 h2 h3 h4 he
    exact (one_place (n1 11 x (by omega) (by omega)) (n1 11 y (by omega) (by omega)) (pos11 hc h1 (by omega)) he).2.1

/-- What a thing's word is at first. -/
theorem first_word {c : Cfg} {L : List Int} (h : Rep (shOf c) L (firstV c)) {k a b : Int} (hn : Norm ⟨k, a, b⟩) (h0 : 0 ≤ plcc c k a b) : L.getD (plcc c k a b).toNat 0 = firstV c ⟨k, a, b⟩ := h.2 _ hn h0
theorem chain_from {c : Cfg} (hc : OkC c) {L : List Int} {k : Sk} (hk : k.links = lnkL c) (h : Rep (shOf c) L (firstV c)) : ∀ (m j : Nat), j + m = pkn c → Chain k L (if m = 0 then 0 else (j : Int) + 1) ((List.range m).map fun (i : Nat) => ((j + i + 1 : Nat) : Int))
  | 0, j, _ => by simp [Chain]
  | m + 1, j, e => by
    have hn := pkn_is hc
    rw [List.range_succ_eq_map, List.map_cons]
    refine ⟨by simp, ?_⟩
    have ih := chain_from hc hk h m (j + 1) (by omega)
    have e1 : lkw k L ((j + 0 + 1 : Nat) : Int) = if m = 0 then 0 else ((j + 1 : Nat) : Int) + 1 := by
      unfold lkw
      rw [hk, lnk_at hc]
      have p := pos12 hc (x := ((j + 0 + 1 : Nat) : Int)) (by omega) (by omega)
      rw [first_word h (nrm 12 _ 0 (by omega) (by omega) (fun h => by omega) (fun _ _ _ => rfl)) p, Lay.fv_link hc _ (by omega)]
      by_cases hm : m = 0
      · rw [if_pos hm, if_neg (by omega)]
      · rw [if_neg hm, if_pos (by omega)]
    rw [e1]
    have e2 : (List.map (fun (i : Nat) => ((j + i + 1 : Nat) : Int)) (List.map Nat.succ (List.range m))) = (List.range m).map fun (i : Nat) => ((j + 1 + i + 1 : Nat) : Int) := by
      rw [List.map_map]; apply List.map_congr_left; intro i _; simp only [Function.comp]; congr 1; omega
    rw [e2]
    exact ih
/-- At first all packets are spare, and the pool has none. -/
theorem stk_first {c : Cfg} (hc : OkC c) {L : List Int} (h : Rep (shOf c) L (firstV c)) : Stk (pkn c) (spK c) L 0 (En (pkn c)) ∧ Stk (pkn c) (poK c) L 0 [] := by
  have hn := pkn_is hc
  have hp := (Lay.bds hc).p0
  have e4 : plcc c 4 0 0 = 4 := Lay.single_pos c 4 (by omega) (by omega)
  have e5 : plcc c 5 0 0 = 5 := Lay.single_pos c 5 (by omega) (by omega)
  have n0 : ∀ h : Int, 0 ≤ h → h ≤ 5 → Norm ⟨h, 0, 0⟩ := fun h h1 h2 => nrm h 0 0 h1 (by omega) (fun _ => rfl) (fun _ _ _ => rfl)
  have hE : En (pkn c) = (List.range (pkn c)).map fun (i : Nat) => ((0 + i + 1 : Nat) : Int) := by
    unfold En; apply List.map_congr_left; intro i _; congr 1; omega
  have hh : (En (pkn c)).headD 0 = 1 := by
    obtain ⟨m, hm⟩ : ∃ m, pkn c = m + 1 := ⟨pkn c - 1, by omega⟩
    rw [hm]; simp [En, List.range_succ_eq_map]
  refine ⟨⟨by rw [h.1]; exact gk_of hc 5 (.inr rfl), by omega, by omega, ?_, fun q hq => mem_En.1 hq, nd_En _, ?_⟩, ⟨by rw [h.1]; exact gk_of hc 4 (.inl rfl), by omega, by omega, ?_, by simp, by simp, by simp [Chain]⟩⟩
  · show L.getD (plcc c 5 0 0).toNat 0 = _
    rw [first_word h (n0 5 (by omega) (by omega)) (by omega), Lay.fv_spare hc, hh]; rfl
  · rw [hh, hE]
    have := chain_from hc (k := spK c) rfl h (pkn c) 0 (by omega)
    rw [if_neg (by omega)] at this
    exact this
  · show L.getD (plcc c 4 0 0).toNat 0 = _
    rw [first_word h (n0 4 (by omega) (by omega)) (by omega), Lay.fv_pool]; rfl
end Go.Proofs.YtpocihddecemfaaGreat
