/-  -/
import Derived.IntWalk
import Derived.Test.YthoiaffeenhfgaaGreatJ4
import Derived.Test.YthoiaffeenhfgaaGreatJ5
import Derived.Test.YthoiaffeenhfgaaGreatLayAcc
import Derived.Defers
import Derived.Recover
import Derived.Laws.EntriesVeiled
namespace Go.Proofs.YthoiaffeenhfgaaGreat
set_option linter.unusedVariables false
set_option linter.unusedSimpArgs false
def ldq (L : List Int) (at' : Int) : Int := if 0 ≤ at' ∧ at' < L.length then L.getD at'.toNat 0 else 0
def ptq (L : List Int) (at' v : Int) : List Int := if 0 ≤ at' ∧ at' < L.length then L.set at'.toNat v else L
def hiw (w : Int) : Int := w / 4294967296
def low (w : Int) : Int := w % 4294967296
def turnw (w n : Int) : Int := ((hiw w + 1) % 4294967296) * 4294967296 + n
structure Sk where
  head : Int
  links : List Int
def atOf (l : List Int) (x : Int) : Int := if 1 ≤ x ∧ x ≤ l.length then l.getD (x - 1).toNat 0 else -1
structure Sm where
  kind : Nat
  pc : Nat
  k : Sk
  item : Int
  h : Int
  link : Int
  tries : Int
def swapS (L : List Int) (m : Sm) (n : Int) : List Int × Sm :=
  if (0 ≤ m.k.head ∧ m.k.head < L.length) ∧ L.getD m.k.head.toNat 0 = m.h then (ptq L m.k.head (turnw m.h n), { m with pc := 0 }) else (L, { m with pc := 1 })
def sstp (L : List Int) (m : Sm) : List Int × Sm :=
  if m.pc = 0 then (L, m)
  else if m.pc = 1 then
    (if m.kind = 1 then (L, { m with pc := 2, h := ldq L m.k.head, link := low (ldq L m.k.head), tries := m.tries + 1 })
     else if low (ldq L m.k.head) = 0 then (L, { m with pc := 0, h := ldq L m.k.head, item := 0, tries := m.tries + 1 })
     else (L, { m with pc := 2, h := ldq L m.k.head, item := low (ldq L m.k.head), tries := m.tries + 1 }))
  else if m.pc = 2 then
    (if m.kind = 1 then (ptq L (atOf m.k.links m.item) m.link, { m with pc := 3 })
     else (L, { m with pc := 3, link := low (ldq L (atOf m.k.links m.item)) }))
  else (if m.kind = 1 then swapS L m m.item else swapS L m m.link)
def itemOf (x : Int) : Int := if x < 1 ∨ 4294967295 < x then 0 else x
def mPush (k : Sk) (x : Int) : Sm := ⟨1, 1, k, itemOf x, 0, 0, 0⟩
def mPop (k : Sk) : Sm := ⟨2, 1, k, 0, 0, 0, 0⟩
def sItem (m : Sm) : Int := if m.pc = 0 then m.item else 0
theorem pt_len (L : List Int) (p v : Int) : (ptq L p v).length = L.length := by unfold ptq; split <;> simp
theorem pt_same {L : List Int} {p v : Int} (h : 0 ≤ p ∧ p < L.length) : (ptq L p v).getD p.toNat 0 = v := by
  unfold ptq; rw [if_pos h]
  simp only [List.getD, List.getElem?_set, if_true]; rw [if_pos (by omega)]; rfl
theorem pt_other {L : List Int} {p v q : Int} (hq : 0 ≤ q) (h : q ≠ p) : (ptq L p v).getD q.toNat 0 = L.getD q.toNat 0 := by
  unfold ptq
  split
  · simp only [List.getD, List.getElem?_set]; rw [if_neg (by omega)]
  · rfl
theorem ld_in {L : List Int} {p : Int} (h : 0 ≤ p ∧ p < L.length) : ldq L p = L.getD p.toNat 0 := by unfold ldq; rw [if_pos h]
structure Gk (n N : Nat) (k : Sk) : Prop where
  small : n ≤ 100000
  hd : 0 ≤ k.head ∧ k.head < N
  lk : ∀ x : Int, 1 ≤ x → x ≤ n → 0 ≤ atOf k.links x ∧ atOf k.links x < N ∧ atOf k.links x ≠ k.head
  inj : ∀ x y : Int, 1 ≤ x → x ≤ n → 1 ≤ y → y ≤ n → atOf k.links x = atOf k.links y → x = y
def lkw (k : Sk) (L : List Int) (x : Int) : Int := L.getD (atOf k.links x).toNat 0
section
variable {n : Nat} {k : Sk} {L : List Int} {T : Int} {Q : List Int}
end
inductive Sp (n : Nat) (k : Sk) (L : List Int) (T : Int) (Q : List Int) : Sm → Prop
  | done (kd : Nat) (a : Sk) (x hh l t : Int) : Sp n k L T Q ⟨kd, 0, a, x, hh, l, t⟩
  | push1 (x hh l t : Int) (h0 : 1 ≤ x) (h1 : x ≤ n) (hx : x ∉ Q) : Sp n k L T Q ⟨1, 1, k, x, hh, l, t⟩
  | push2 (x t S y : Int) (h0 : 1 ≤ x) (h1 : x ≤ n) (hx : x ∉ Q) (hy : 0 ≤ y ∧ y ≤ n) (hS : 0 ≤ S ∧ S ≤ T) (hq : S = T → y = Q.headD 0) : Sp n k L T Q ⟨1, 2, k, x, S * 4294967296 + y, y, t⟩
  | push3 (x t S y : Int) (h0 : 1 ≤ x) (h1 : x ≤ n) (hx : x ∉ Q) (hy : 0 ≤ y ∧ y ≤ n) (hS : 0 ≤ S ∧ S ≤ T) (hq : S = T → y = Q.headD 0) (hl : lkw k L x = y) : Sp n k L T Q ⟨1, 3, k, x, S * 4294967296 + y, y, t⟩
  | pop1 (x hh l t : Int) : Sp n k L T Q ⟨2, 1, k, x, hh, l, t⟩
  | pop2 (y l t S : Int) (hy : 1 ≤ y ∧ y ≤ n) (hS : 0 ≤ S ∧ S ≤ T) (hq : S = T → y = Q.headD 0) : Sp n k L T Q ⟨2, 2, k, y, S * 4294967296 + y, l, t⟩
  | pop3 (y l t S : Int) (hy : 1 ≤ y ∧ y ≤ n) (hS : 0 ≤ S ∧ S ≤ T) (hq : S = T → y = Q.headD 0 ∧ l = Q.tail.headD 0) (hl : 0 ≤ l ∧ l < 4294967296) : Sp n k L T Q ⟨2, 3, k, y, S * 4294967296 + y, l, t⟩
theorem swap_yes {L : List Int} {m : Sm} (x : Int) (hl : 0 ≤ m.k.head ∧ m.k.head < L.length) (hh : L.getD m.k.head.toNat 0 = m.h) : swapS L m x = (ptq L m.k.head (turnw m.h x), { m with pc := 0 }) := by
  unfold swapS
  rw [if_pos ⟨hl, hh⟩]
theorem swap_no {L : List Int} {m : Sm} (x : Int) (hh : L.getD m.k.head.toNat 0 ≠ m.h) : swapS L m x = (L, { m with pc := 1 }) := by
  unfold swapS
  rw [if_neg (fun h => hh h.2)]
theorem pop_first {L : List Int} {m : Sm} (hk : m.kind = 2) (hp : m.pc = 1) {w : Int} (hw : ldq L m.k.head = w) :
    sstp L m = if low w = 0 then (L, { m with pc := 0, h := w, item := 0, tries := m.tries + 1 }) else (L, { m with pc := 2, h := w, item := low w, tries := m.tries + 1 }) := by
  subst hw; simp [sstp, hk, hp]
end Go.Proofs.YthoiaffeenhfgaaGreat

namespace Go.Proofs.YthoiaffeenhfgaaGreat
open Go.RowKit
set_option linter.unusedVariables false
set_option maxHeartbeats 400000 in
theorem part_any (b x : Int) (hb : 1 ≤ b) (hb2 : b ≤ 18446744073709551615) (hx : 0 ≤ x) (hx2 : x ≤ 18446744073709551615) (w : World) :
    Calls Tryz.prog 83 #[.int .u64 b, .int .u64 x] w fun e w' => e = .returned (.agg #[.int .u64 (x / b), .int .u64 (x % b)]) ∧ Below w.heap.size w w' := by
  go_enter Tryz.func83, Tryz.ntmps83
  go_wp2
  go_region
  all_goals go_wp2
  all_goals (refine bodyPost_ret (v := .agg #[.int .u64 (x / b), .int .u64 (x % b)]) (by simp [results, Tryz.results83, go_sem]) rfl ⟨rfl, ?_⟩)
  all_goals exact ((Below.refl _ _).alloc (Nat.le_refl _) _).drew
set_option linter.unusedVariables false in
set_option maxHeartbeats 400000 in
theorem join_any (b x y : Int) (hb : 1 ≤ b) (hb2 : b ≤ 18446744073709551615) (hx : 0 ≤ x) (hx2 : x ≤ 18446744073709551615) (hy : 0 ≤ y) (hy2 : y ≤ 18446744073709551615) (w : World) :
    Calls Tryz.prog 63 #[.int .u64 b, .agg #[.int .u64 x, .int .u64 y]] w fun e w' => e = .returned (.int .u64 (IntKind.u64.wrap (IntKind.u64.wrap (x * b) + y % b))) ∧ Below w.heap.size w w' := by
  go_enter Tryz.func63, Tryz.ntmps63
  go_wp2
  go_quiet (fail)
  go_wp2
  go_ret
  exact ⟨rfl, below_drewN ((Below.refl _ _).alloc (Nat.le_refl _) _) _⟩
set_option maxHeartbeats 400000 in
theorem split_any (x : Int) (hx : 0 ≤ x) (hx2 : x ≤ 18446744073709551615) (w : World) :
    Calls Tryz.prog 126 #[.int .u64 x] w fun e w' => e = .returned (.tuple #[.int .u32 (x / 4294967296), .int .u32 (x % 4294967296)]) ∧ Below w.heap.size w w' := by
  go_enter Tryz.func126, Tryz.ntmps126
  go_wp2_with (go_at_call 83; refine (part_any 4294967296 x (by omega) (by omega) hx hx2 _).mono ?_; rintro e w1 ⟨rfl, hb⟩)
  go_quiet (fail)
  go_wp2
  go_ret2
  exact ⟨rfl, below_drewN ((hb.alloc hb.size _)) _⟩
set_option maxHeartbeats 400000 in
theorem pair_any (x y : Int) (hx : 0 ≤ x) (hx2 : x ≤ 4294967295) (hy : 0 ≤ y) (hy2 : y ≤ 4294967295) (w : World) :
    Calls Tryz.prog 31 #[.int .u32 x, .int .u32 y] w fun e w' => e = .returned (.int .u64 (x * 4294967296 + y)) ∧ Below w.heap.size w w' := by
  go_enter Tryz.func31, Tryz.ntmps31
  go_wp2_with (go_at_call 63; refine (join_any 4294967296 x y (by omega) (by omega) hx (by omega) hy (by omega) _).mono ?_; rintro e w1 ⟨rfl, hb⟩)
  go_ret
  exact ⟨ret_int (by rw [IntKind.wrap_u64, IntKind.wrap_u64]; omega), hb⟩
set_option maxHeartbeats 400000 in
theorem turn_any (x y : Int) (hx : 0 ≤ x) (hx2 : x ≤ 18446744073709551615) (hy : 0 ≤ y) (hy2 : y ≤ 4294967295) (w : World) :
    Calls Tryz.prog 182 #[.int .u64 x, .int .u32 y] w fun e w' => e = .returned (.int .u64 ((x / 4294967296 + 1) % 4294967296 * 4294967296 + y)) ∧ Below w.heap.size w w' := by
  go_enter Tryz.func182, Tryz.ntmps182
  go_wp2_with (first | (go_at_call 126; refine (split_any x hx hx2 _).mono ?_; rintro e w1 ⟨rfl, hb⟩) | (go_at_call 31; refine (pair_any (IntKind.u32.wrap (x / 4294967296 + 1)) y (by rw [IntKind.wrap_u32]; omega) (by rw [IntKind.wrap_u32]; omega) hy hy2 _).mono ?_; rintro e w2 ⟨rfl, hb2⟩))
  go_ret
  exact ⟨ret_int (by rw [IntKind.wrap_u32]), below_step hb hb.size hb2⟩
def lowOf (x : Int) : Int := x % 4294967296
def hiOf (x : Int) : Int := x / 4294967296
def turnOf (x n : Int) : Int := (hiOf x + 1) % 4294967296 * 4294967296 + n
set_option maxHeartbeats 400000 in
theorem low_any (x : Int) (hx : 0 ≤ x) (hx2 : x ≤ 18446744073709551615) (w : World) :
    Calls Tryz.prog 146 #[.int .u64 x] w fun e w' => e = .returned (.int .u32 (lowOf x)) ∧ Below w.heap.size w w' := by
  go_enter Tryz.func146, Tryz.ntmps146
  go_wp2_with (first | (go_at_call 126; (with_reducible refine (split_any x hx hx2 _).mono ?_); rintro e w1 ⟨rfl, hb⟩) | fail)
  go_ret
  exact ⟨rfl, hb⟩
theorem turnw_any (x y : Int) (hx : 0 ≤ x) (hx2 : x ≤ 18446744073709551615) (hy : 0 ≤ y) (hy2 : y ≤ 4294967295) (w : World) :
    Calls Tryz.prog 182 #[.int .u64 x, .int .u32 y] w fun e w' => e = .returned (.int .u64 (turnOf x y)) ∧ Below w.heap.size w w' := turn_any x y hx hx2 hy hy2 w
end Go.Proofs.YthoiaffeenhfgaaGreat

namespace Go.Proofs.YthoiaffeenhfgaaGreat
set_option linter.unusedVariables false
set_option linter.unusedSimpArgs false
def sruns : Nat → List Int → Sm → List Int × Sm
  | 0, L, m => (L, m)
  | k + 1, L, m => sruns k (sstp L m).1 (sstp L m).2
theorem sstp_no {L : List Int} {m : Sm} (h : m.pc = 0) : sstp L m = (L, m) := by simp [sstp, h]
theorem push_first {L : List Int} {m : Sm} (hk : m.kind = 1) (hp : m.pc = 1) {w : Int} (hw : ldq L m.k.head = w) :
    sstp L m = (L, { m with pc := 2, h := w, link := low w, tries := m.tries + 1 }) := by
  subst hw; simp [sstp, hk, hp]
theorem push_link {L : List Int} {m : Sm} (hk : m.kind = 1) (hp : m.pc = 2) : sstp L m = (ptq L (atOf m.k.links m.item) m.link, { m with pc := 3 }) := by
  simp [sstp, hk, hp]
theorem pop_link {L : List Int} {m : Sm} (hk : m.kind = 2) (hp : m.pc = 2) : sstp L m = (L, { m with pc := 3, link := low (ldq L (atOf m.k.links m.item)) }) := by
  simp [sstp, hk, hp]
theorem push_swap {L : List Int} {m : Sm} (hk : m.kind = 1) (hp : m.pc = 3) : sstp L m = swapS L m m.item := by
  simp [sstp, hk, hp]
theorem pop_swap {L : List Int} {m : Sm} (hk : m.kind = 2) (hp : m.pc = 3) : sstp L m = swapS L m m.link := by
  simp [sstp, hk, hp]
end Go.Proofs.YthoiaffeenhfgaaGreat

namespace Go.Proofs.YthoiaffeenhfgaaGreat
open Go.RowKit
set_option linter.unusedVariables false
def lnkL (c : Lay.Cfg) : List Int := (List.range (Lay.packN c).toNat).map fun (i : Nat) => Lay.plcc c 12 ((i : Int) + 1) 0
def nxtL (c : Lay.Cfg) : List Int := (List.range (Lay.nodesN c).toNat).map fun (i : Nat) => Lay.plcc c 17 ((i : Int) + 1) 0
theorem atOf_row (n : Nat) (f : Int → Int) (x : Int) (h : ∀ x, x < 1 ∨ (n : Int) < x → f x = -1) : atOf ((List.range n).map fun (i : Nat) => f ((i : Int) + 1)) x = f x := by
  unfold atOf
  simp only [List.length_map, List.length_range]
  by_cases hx : 1 ≤ x ∧ x ≤ (n : Int)
  · rw [if_pos hx]
    obtain ⟨i, hi⟩ : ∃ i : Nat, x = (i : Int) + 1 := ⟨(x - 1).toNat, by omega⟩
    subst hi
    have e : ((i : Int) + 1 - 1).toNat = i := by omega
    rw [e]
    simp [List.getD, show i < n by omega]
  · rw [if_neg hx, h x (by omega)]
theorem lnk_at {c : Lay.Cfg} (hc : Lay.OkC c) (x : Int) : atOf (lnkL c) x = Lay.plcc c 12 x 0 := by
  refine atOf_row _ (fun x => Lay.plcc c 12 x 0) x fun x hx => ?_
  have h0 := (Lay.bds hc).p0
  unfold Lay.plcc Lay.plc
  rw [if_neg (by simp), if_neg (by simp), if_neg (by simp), if_neg (by simp), if_neg (by simp), if_neg (by simp), if_neg (by simp), if_neg (by simp), if_pos (by simp)]
  exact if_neg (show ¬ (1 ≤ x ∧ x ≤ (((Lay.packN c).toNat : Nat) : Int)) by omega)
theorem nxt_at' {c : Lay.Cfg} (hc : Lay.OkC c) (x : Int) : atOf (nxtL c) x = Lay.plcc c 17 x 0 := by
  refine atOf_row _ (fun x => Lay.plcc c 17 x 0) x fun x hx => ?_
  have hl := Lay.ks_len hc
  unfold Lay.plcc Lay.plc
  rw [if_neg (by simp), if_neg (by simp), if_neg (by simp), if_neg (by simp), if_neg (by simp), if_neg (by simp), if_neg (by simp), if_neg (by simp), if_neg (by simp), if_neg (by simp), if_pos (by simp)]
  have e : (Lay.roomsN c).length = (Lay.ksOf c).length := by simp [Lay.roomsN]
  exact if_neg (show ¬ (1 ≤ x ∧ x ≤ (((Lay.roomsN c).length : Nat) : Int)) by omega)
def Lk (w : World) (lv : Value) (Ab : Nat) (zs : List Int) : Prop :=
  ∃ c, Lay.OkC c ∧ Lay.IsMap w Ab c ∧ ((lv = .func (.func 53) #[Lay.mapP Ab] #[] ∧ zs = lnkL c) ∨ (lv = .func (.func 51) #[Lay.mapP Ab] #[] ∧ zs = nxtL c))
theorem Lk.lt {w : World} {lv : Value} {Ab : Nat} {zs : List Int} (h : Lk w lv Ab zs) : Ab < w.heap.size := by
  obtain ⟨c, _, h, _⟩ := h; exact h.1
theorem Lk.keep {w w' : World} {lv : Value} {Ab : Nat} {zs : List Int} (h : Lk w lv Ab zs) (hs : w.heap.size ≤ w'.heap.size) (h2 : w'.heap[Ab]? = w.heap[Ab]?) : Lk w' lv Ab zs := by
  obtain ⟨c, hc, hm, hr⟩ := h
  exact ⟨c, hc, ⟨Nat.lt_of_lt_of_le hm.1 hs, fun i hi => (World.cell?_of_block (w := w) (a := ⟨Ab, i, none⟩) h2).trans (hm.2 i hi)⟩, hr⟩
theorem Lk.below {w w' : World} {lv : Value} {Ab : Nat} {zs : List Int} (h : Lk w lv Ab zs) (hb : Below w.heap.size w w') : Lk w' lv Ab zs :=
  h.keep hb.size (hb.block Ab h.lt)
theorem catch_idle (p : Addr) (w : World) :
    CallsD Tryz.prog 166 #[.pointer (some p)] .returning w fun e u' w' => e = .returned (.tuple #[]) ∧ u' = .returning ∧ w' = w := by
  refine callsD_of_wpS Tryz.func166 rfl fun c₀ cs hu => ?_
  apply wpS_seq
  apply wpS_region
  simp [wpOpsS, go_sem, recoverD, hu, Tryz.ntmps166, Exit.thenS]
  refine wpS_cond (t := false) (by simp [Act.eval, Array.replicate]) ?_
  simp only [Bool.false_eq_true, if_false]
  refine wpS_of_wp (wp_skip ?_)
  cases c₀
  simp_all [bodyPostS, results, Tryz.results166]
theorem pcell {W w1 : World} (hb : Below W.heap.size W w1) : (∀ b o, b < W.heap.size → w1.cell? ⟨b, o, none⟩ = W.cell? ⟨b, o, none⟩) ∧ (∀ b o, b < W.heap.size → w1.frozen? ⟨b, o, none⟩ = W.frozen? ⟨b, o, none⟩) :=
  ⟨fun b o h => hb.cell (p := ⟨b, o, none⟩) h, fun b o h => hb.frozen (p := ⟨b, o, none⟩) h⟩
set_option maxHeartbeats 1000000 in
theorem place_any {lv : Value} {Ab : Nat} {zs : List Int} (x : Int) (w : World) (h : Lk w lv Ab zs) (h0 : 0 ≤ x) (h1 : x ≤ 4294967295) :
    Calls Tryz.prog 147 #[lv, .int .u32 x] w fun e w' => e = .returned (.int .i64 (atOf zs x)) ∧ Below w.heap.size w w' := by
  have hmf : ∀ (fn : Fn) (first cap : Array Value) (w : World), (Instr.makeFunc fn first cap).run Tryz.prog w = .ok (.func fn first cap) w := fun _ _ _ _ => rfl
  obtain ⟨c, hc, hm, hr⟩ := h
  have H := Lib.hid hm; have HC := Lib.hid hc
  have hwf : (Lit.int .i64 x).wf = true := Lay.wf_i64 (by omega) (by omega)
  rcases hr with ⟨rfl, rfl⟩ | ⟨rfl, rfl⟩
  · rw [lnk_at hc]
    clear hm hc
    go_enter_defers Tryz.func147, Tryz.ntmps147
    go_wp2_with (first
      | (go_at_call 53; (with_reducible refine (Lay.link_m HC.out Ab x hwf _ (H.out.below (below_alloc0 (Below.refl _ _) _))).mono ?_); rintro r w1 ⟨rfl, hb⟩; obtain ⟨hcc, hff⟩ := pcell hb)
      | fail)
    have e0 : w1.cell? ⟨w.heap.size, 0, none⟩ = some (.int .i64 0) := (hcc _ 0 (by simp)).trans (by rw [World.cell?_alloc_at _ _ _ _ rfl]; rfl)
    have hw : Below w.heap.size w w1 := below_then (below_alloc0 (Below.refl _ _) _) hb
    refine leaves_cons (f := 166) (args := #[.pointer (some ⟨w.heap.size, 0, none⟩)]) (by simp) (by simp [go_sem]) ?_
    refine (catch_idle ⟨w.heap.size, 0, none⟩ _).mono ?_
    rintro e u' w'' ⟨rfl, rfl, rfl⟩
    refine ⟨.int .i64 (Lay.plcc c 12 x 0), ?_, rfl, hw.setCell (Nat.le_refl _) _⟩
    have e1 := World.cell?_setCell_same w1 ⟨w.heap.size, 0, none⟩ (.int .i64 (Lay.plcc c 12 x 0)) e0
    simp [results, Tryz.results147, go_sem, e1]
  · rw [nxt_at' hc]
    clear hm hc
    go_enter_defers Tryz.func147, Tryz.ntmps147
    go_wp2_with (first
      | (go_at_call 51; (with_reducible refine (Lay.next_m HC.out Ab x hwf _ (H.out.below (below_alloc0 (Below.refl _ _) _))).mono ?_); rintro r w1 ⟨rfl, hb⟩; obtain ⟨hcc, hff⟩ := pcell hb)
      | fail)
    have e0 : w1.cell? ⟨w.heap.size, 0, none⟩ = some (.int .i64 0) := (hcc _ 0 (by simp)).trans (by rw [World.cell?_alloc_at _ _ _ _ rfl]; rfl)
    have hw : Below w.heap.size w w1 := below_then (below_alloc0 (Below.refl _ _) _) hb
    refine leaves_cons (f := 166) (args := #[.pointer (some ⟨w.heap.size, 0, none⟩)]) (by simp) (by simp [go_sem]) ?_
    refine (catch_idle ⟨w.heap.size, 0, none⟩ _).mono ?_
    rintro e u' w'' ⟨rfl, rfl, rfl⟩
    refine ⟨.int .i64 (Lay.plcc c 17 x 0), ?_, rfl, hw.setCell (Nat.le_refl _) _⟩
    have e1 := World.cell?_setCell_same w1 ⟨w.heap.size, 0, none⟩ (.int .i64 (Lay.plcc c 17 x 0)) e0
    simp [results, Tryz.results147, go_sem, e1]
end Go.Proofs.YthoiaffeenhfgaaGreat

namespace Go.Proofs.YthoiaffeenhfgaaGreat.Dg
set_option linter.unusedVariables false
set_option maxRecDepth 100000
set_option linter.unusedSimpArgs false
structure En where
  top : Int
  bot : Int
  ent : Int
  room : Int
def roomOf (e : En) : Int := if e.room < 1 then 1 else e.room
def entOf (e : En) (n : Int) : Int := e.ent + n % roomOf e
def u64w (a : Int) : Int := a % 18446744073709551616
def ahead (a b : Int) : Int := if u64w (a - b) < 9223372036854775808 then u64w (a - b) else u64w (a - b) - 18446744073709551616
structure Mc where
  kind : Nat
  pc : Nat
  e : En
  b : Int
  t : Int
  w : Int
  won : Bool
  out : Int
def fin (m : Mc) (o x : Int) : Mc := { m with pc := 0, out := o, w := x }
def pushS (L : List Int) (m : Mc) : List Int × Mc :=
  if m.pc = 1 then (L, { m with pc := 2, b := ldq L m.e.bot })
  else if m.pc = 2 then (if roomOf m.e ≤ ahead m.b (ldq L m.e.top) then (L, fin m 2 0) else (L, { m with pc := 3, t := ldq L m.e.top }))
  else if m.pc = 3 then (ptq L (entOf m.e m.b) m.w, { m with pc := 4 })
  else (ptq L m.e.bot (u64w (m.b + 1)), fin m 1 0)
def popS (L : List Int) (m : Mc) : List Int × Mc :=
  if m.pc = 1 then (L, { m with pc := 2, b := u64w (ldq L m.e.bot - 1) })
  else if m.pc = 2 then (ptq L m.e.bot m.b, { m with pc := 3 })
  else if m.pc = 3 then (if 0 < ahead (ldq L m.e.top) m.b then (L, { m with pc := 7, t := ldq L m.e.top }) else (L, { m with pc := 4, t := ldq L m.e.top }))
  else if m.pc = 4 then (if 0 < ahead m.b m.t then (L, fin m 1 (ldq L (entOf m.e m.b))) else (L, { m with pc := 5, w := ldq L (entOf m.e m.b) }))
  else if m.pc = 5 then (if (0 ≤ m.e.top ∧ m.e.top < L.length) ∧ L.getD m.e.top.toNat 0 = m.t then (ptq L m.e.top (u64w (m.t + 1)), { m with pc := 6, won := true }) else (L, { m with pc := 6, won := false }))
  else if m.pc = 6 then (ptq L m.e.bot (u64w (m.b + 1)), if m.won = true then fin m 1 m.w else fin m 3 0)
  else (ptq L m.e.bot (u64w (m.b + 1)), fin m 3 0)
def stealS (L : List Int) (m : Mc) : List Int × Mc :=
  if m.pc = 1 then (L, { m with pc := 2, t := ldq L m.e.top })
  else if m.pc = 2 then (if ahead (ldq L m.e.bot) m.t ≤ 0 then (L, fin m 3 0) else (L, { m with pc := 3, b := ldq L m.e.bot }))
  else if m.pc = 3 then (L, { m with pc := 4, w := ldq L (entOf m.e m.t) })
  else (if (0 ≤ m.e.top ∧ m.e.top < L.length) ∧ L.getD m.e.top.toNat 0 = m.t then (ptq L m.e.top (u64w (m.t + 1)), fin m 1 m.w) else (L, fin m 4 0))
def stp (L : List Int) (m : Mc) : List Int × Mc :=
  if m.pc = 0 then (L, m) else if m.kind = 1 then pushS L m else if m.kind = 2 then popS L m else stealS L m
def mPush (e : En) (w : Int) : Mc := ⟨1, 1, e, 0, 0, w, false, 0⟩
def mPop (e : En) : Mc := ⟨2, 1, e, 0, 0, 0, false, 0⟩
def mSteal (e : En) : Mc := ⟨3, 1, e, 0, 0, 0, false, 0⟩
def entw (e : En) (L : List Int) (x : Int) : Int := L.getD (entOf e x).toNat 0
section
variable {n : Nat} {e : En} {L : List Int} {T β bc : Int} {Q : List Int}
end
inductive Ph (n : Nat) (e : En) (L : List Int) (T β : Int) (Q : List Int) (w : Int) : Int → Int → Mc → Prop
  | idle (k b t x won out) : Ph n e L T β Q w β β ⟨k, 0, e, b, t, x, won, out⟩
  | push1 (b t won out) : Ph n e L T β Q w β β ⟨1, 1, e, b, t, w, won, out⟩
  | push2 (t won out) : Ph n e L T β Q w β β ⟨1, 2, e, β, t, w, won, out⟩
  | push3 (t won out) (h : β - T < n) : Ph n e L T β Q w β β ⟨1, 3, e, β, t, w, won, out⟩
  | push4 (t won out) (h : β - T < n) (hv : entw e L β = w) : Ph n e L T β Q w β β ⟨1, 4, e, β, t, w, won, out⟩
  | pop1 (b t x won out) : Ph n e L T β Q w β β ⟨2, 1, e, b, t, x, won, out⟩
  | pop2 (t x won out) : Ph n e L T β Q w β β ⟨2, 2, e, u64w (β - 1), t, x, won, out⟩
  | pop3 (t x won out) : Ph n e L T β Q w β (β - 1) ⟨2, 3, e, u64w (β - 1), t, x, won, out⟩
  | pop4a (t x won out) (h0 : 0 ≤ t) (h1 : t < β - 1) (h2 : T ≤ β - 1) : Ph n e L T β Q w (β - 1) (β - 1) ⟨2, 4, e, β - 1, t, x, won, out⟩
  | pop4b (t x won out) (h0 : 0 ≤ t) (h1 : t = β - 1) (h2 : t ≤ T) : Ph n e L T β Q w β (β - 1) ⟨2, 4, e, β - 1, t, x, won, out⟩
  | pop5 (t x won out) (h0 : 0 ≤ t) (h1 : t = β - 1) (h2 : t ≤ T) (h3 : T = t → x = Q.headD 0) : Ph n e L T β Q w β (β - 1) ⟨2, 5, e, β - 1, t, x, won, out⟩
  | pop6 (t x won out) (h0 : 0 ≤ β - 1) (h1 : T = β) : Ph n e L T β Q w β (β - 1) ⟨2, 6, e, β - 1, t, x, won, out⟩
  | pop7 (t x won out) (h1 : T = β) : Ph n e L T β Q w β (β - 1) ⟨2, 7, e, u64w (β - 1), t, x, won, out⟩
def left (m : Mc) : Nat := if m.pc = 0 then 0 else if m.kind = 2 then (if m.pc = 7 then 1 else 7 - m.pc) else 5 - m.pc
end Go.Proofs.YthoiaffeenhfgaaGreat.Dg
