/-  -/
import Derived.Test.YthoiaffeenhfgaaGreatJ8
import Derived.Test.YthoiaffeenhfgaaGreatJ2
import Derived.Test.YthoiaffeenhfgaaGreatJ3
import Derived.Test.YthoiaffeenhfgaaGreatJ11
import Derived.Test.YthoiaffeenhfgaaGreatJ1
import Derived.Test.YthoiaffeenhfgaaGreatJ6
import Derived.ScopeJumps
import Derived.WalkMore
import Derived.Deep.AppendLies
import Derived.Test.YthoiaffeenhfgaaGreatLayFirst
namespace Go.Proofs.YthoiaffeenhfgaaGreat
open Go.RowKit
set_option linter.unusedVariables false
set_option linter.unusedSimpArgs false
variable {w0 : World} {M S D Ab : Nat} {lv : Value} {m : Sm} {L : List Int} {c t : Int}
theorem eqin_fn (d f M : Nat) (w : World) : (Op.equalIn (d + 1) 104 (fnv f M) .nilFunc).run Tryz.prog w = .ok false w := by
  simp [Op.equalIn, run_underlying Tryz.underlying104]
theorem eqin_nil (d : Nat) (w : World) : (Op.equalIn (d + 1) 104 .nilFunc .nilFunc).run Tryz.prog w = .ok true w := by
  simp [Op.equalIn, run_underlying Tryz.underlying104]
@[go_sem] theorem eql_fn (f M : Nat) (w : World) : (binOp .eql 104 (fnv f M) .nilFunc).run Tryz.prog w = .ok (.bool false) w := by
  have h : (Op.equal 104 (fnv f M) .nilFunc).run Tryz.prog w = .ok false w := eqin_fn 9999 f M w
  simp only [binOp]
  simp [h]
@[go_sem] theorem eql_nil (w : World) : (binOp .eql 104 .nilFunc .nilFunc).run Tryz.prog w = .ok (.bool true) w := by
  have h : (Op.equal 104 .nilFunc .nilFunc).run Tryz.prog w = .ok true w := eqin_nil 9999 w
  simp only [binOp]
  simp [h]
def cst (m : Sm) (c : Int) : Int := if m.pc = 0 then c else c + 1
theorem Mi.nx {w : World} (h : Mi w0 w M S D lv Ab m L c) : w.cell? ⟨M, 3, none⟩ = some (nxt M m) := Mst.c3 h
theorem nfn_is (m : Sm) (P : Nat → Prop) (a0 : P 170) (a1 : P 183) (a2 : P 194) (a3 : P 115) (a4 : P 131) (a5 : P 148) : P (nfn m) := by
  unfold nfn
  repeat' split
  all_goals assumption
theorem enter_nfn (m : Sm) (a : Array Value) (w : World) : (callFunc (nfn m) a).run Tryz.prog w = .ok (.enter (nfn m) a) w := by
  refine nfn_is m (fun f => (callFunc f a).run Tryz.prog w = .ok (.enter f a) w) ?_ ?_ ?_ ?_ ?_ ?_ <;> simp [go_sem]
set_option maxHeartbeats 1000000 in
theorem step_on (w : World) (h : Mi w0 w M S D lv Ab m L c) (wm : Wm t m) (ww : WW L) (h0 : 0 ≤ c) (h1 : c ≤ 1000000000) (ht : t ≤ 1000000000) (hp : m.pc ≠ 0) :
    Calls Tryz.prog 209 #[ptr M, ptr S] w fun a w' => a = .returned (.bool (decide ((sstp L m).2.pc = 0))) ∧ Mi w0 w' M S D lv Ab (sstp L m).2 (sstp L m).1 (c + 1) := by
  have c4 := h.nx
  rw [nxt_at hp] at c4
  have HN := Lib.hid (next_any h hp wm ww h0 h1 ht)
  have hen := fun (a : Array Value) (w : World) => enter_nfn m a w
  generalize nfn m = f at c4 HN hen
  generalize sstp L m = z at HN ⊢
  obtain ⟨L', m'⟩ := z
  have HP := Lib.hid hp
  clear h hp wm ww
  by_cases hp' : m'.pc = 0
  · have e1 : decide (m'.pc = 0) = true := by simpa using hp'
    rw [e1]
    have HP' := Lib.hid hp'; clear hp' e1
    go_enter Tryz.func209, Tryz.ntmps209
    go_wp2_with (first
      | ((with_reducible refine HN.out.mono ?_); rintro r w1 ⟨rfl, hk⟩; have HK := Lib.hid hk; have d4 := hk.nx; rw [nxt_no HP'.out] at d4; clear hk)
      | fail)
    go_ret
    exact ⟨rfl, HK.out⟩
  · have e1 : decide (m'.pc = 0) = false := by simpa using hp'
    rw [e1]
    have HP' := Lib.hid hp'; clear hp' e1
    go_enter Tryz.func209, Tryz.ntmps209
    go_wp2_with (first
      | ((with_reducible refine HN.out.mono ?_); rintro r w1 ⟨rfl, hk⟩; have HK := Lib.hid hk; have d4 := hk.nx; rw [nxt_at HP'.out] at d4; clear hk)
      | fail)
    go_ret
    exact ⟨rfl, HK.out⟩
set_option maxHeartbeats 1000000 in
theorem step_off (w : World) (h : Mi w0 w M S D lv Ab m L c) (hp : m.pc = 0) :
    Calls Tryz.prog 209 #[ptr M, ptr S] w fun a w' => a = .returned (.bool true) ∧ w = w' := by
  have c4 := h.nx
  rw [nxt_no hp] at c4
  clear h hp
  go_enter Tryz.func209, Tryz.ntmps209
  go_wp2
  go_ret
  exact ⟨rfl, rfl⟩
theorem step_any (w : World) (h : Mi w0 w M S D lv Ab m L c) (wm : Wm t m) (ww : WW L) (h0 : 0 ≤ c) (h1 : c ≤ 1000000000) (ht : t ≤ 1000000000) :
    Calls Tryz.prog 209 #[ptr M, ptr S] w fun a w' => a = .returned (.bool (decide ((sstp L m).2.pc = 0))) ∧ Mi w0 w' M S D lv Ab (sstp L m).2 (sstp L m).1 (cst m c) := by
  by_cases hp : m.pc = 0
  · rw [sstp_no hp]
    refine (step_off w h hp).mono ?_
    rintro a w' ⟨rfl, rfl⟩
    exact ⟨by simp [hp], by simpa [cst, hp] using h⟩
  · refine (step_on w h wm ww h0 h1 ht hp).mono ?_
    rintro a w' ⟨rfl, hk⟩
    exact ⟨rfl, by simpa [cst, hp] using hk⟩
def MM (w : World) (M : Nat) (lv : Value) (m : Sm) : Prop := Mem w M lv m.k.head (fnv (ffn m) M) (nxt M m) m.h m.item m.link (sItem m) m.tries
theorem MM.lt {w : World} (h : MM w M lv m) : M < w.heap.size := (Array.getElem?_eq_some_iff.1 h).1
theorem MM.mi {w : World} (h : MM w M lv m) (hs : St w S D L c) (hl : Lk w lv Ab m.k.links) (n1 : M ≠ S) (n2 : M ≠ D) (b2 : Ab ≠ M ∧ Ab ≠ S ∧ Ab ≠ D) : Mi w w M S D lv Ab m L c :=
  ⟨h, hs, n1, n2, hl, b2, .refl _ _ _ _⟩
theorem Mi.mm {w : World} (h : Mi w0 w M S D lv Ab m L c) : MM w M lv m := h.mem
theorem Mi.st' {w : World} (h : Mi w0 w M S D lv Ab m L c) : St w S D L c := h.st
theorem Mi.u' {w : World} (h : Mi w0 w M S D lv Ab m L c) : U3 M S D w0 w := h.u
set_option maxHeartbeats 1000000 in
theorem item_any (w : World) (h : MM w M lv m) (wm : Wm t m) : Calls Tryz.prog 236 #[ptr M] w fun a w' => a = .returned (.int .i64 (sItem m)) ∧ w = w' := by
  have c7 : w.cell? ⟨M, 7, none⟩ = some (.int .u32 (sItem m)) := by unfold MM Mem at h; simp [World.cell?, h]
  have i0 : 0 ≤ sItem m ∧ sItem m ≤ 4294967295 := by have := wm.i; unfold sItem; split <;> omega
  obtain ⟨y, hy⟩ : ∃ y, y = sItem m := ⟨_, rfl⟩
  rw [← hy] at c7 i0 ⊢
  obtain ⟨y0, y1⟩ := i0
  clear h hy wm
  go_enter Tryz.func236, Tryz.ntmps236
  go_wp2
  go_ret
  exact ⟨rfl, rfl⟩
theorem cnt_any (w : World) (h : St w S D L c) : Calls Tryz.prog 18 #[ptr S] w fun a w' => a = .returned (.int .i64 c) ∧ w = w' := by
  have hc := h.many
  clear h
  go_enter Tryz.func18, Tryz.ntmps18
  go_wp2
  go_ret
  exact ⟨rfl, rfl⟩
def NewM (w : World) (lv : Value) (m : Sm) (a : Ending) (w' : World) : Prop := ∃ M, a = .returned (ptr M) ∧ w.heap.size ≤ M ∧ MM w' M lv m ∧ Below w.heap.size w w'
set_option maxHeartbeats 1000000 in
theorem numbered_any (x : Int) (w : World) (hx : -9223372036854775808 ≤ x ∧ x ≤ 9223372036854775807) : Calls Tryz.prog 169 #[.int .i64 x] w fun a w' => a = .returned (.int .u32 (itemOf x)) ∧ w = w' := by
  by_cases h1 : x < 1
  · have e : itemOf x = 0 := by unfold itemOf; rw [if_pos (.inl h1)]
    rw [e]; clear e
    go_enter Tryz.func169, Tryz.ntmps169
    go_wp2
    go_ret
    exact ⟨rfl, rfl⟩
  · by_cases h2 : 4294967295 < x
    · have e : itemOf x = 0 := by unfold itemOf; rw [if_pos (.inr h2)]
      rw [e]; clear e
      go_enter Tryz.func169, Tryz.ntmps169
      go_wp2
      go_ret
      exact ⟨rfl, rfl⟩
    · have e : itemOf x = x := by unfold itemOf; rw [if_neg (by omega)]
      rw [e]; clear e
      go_enter Tryz.func169, Tryz.ntmps169
      go_wp2
      go_ret
      exact ⟨rfl, rfl⟩
theorem new_m (w : World) (k : Sk) (x : Int) (g kd : Nat) (hg : kd = 1 ∧ g = 170 ∨ kd = 2 ∧ g = 115) :
    NewM w lv ⟨kd, 1, k, x, 0, 0, 0⟩ (.returned (ptr w.heap.size)) (w.alloc (.cells #[.int .i64 k.head, lv, fnv g w.heap.size, fnv g w.heap.size, .int .u64 0, .int .u32 x, .int .u32 0, .int .u32 0, .int .i64 0] 142)) := by
  refine ⟨w.heap.size, rfl, Nat.le_refl _, ?_, below_alloc0 (Below.refl _ _) _⟩
  have e1 : nxt w.heap.size ⟨kd, 1, k, x, 0, 0, 0⟩ = fnv g w.heap.size := by rcases hg with ⟨rfl, rfl⟩ | ⟨rfl, rfl⟩ <;> simp [nxt, nfn]
  have e2 : ffn ⟨kd, 1, k, x, 0, 0, 0⟩ = g := by rcases hg with ⟨rfl, rfl⟩ | ⟨rfl, rfl⟩ <;> simp [ffn]
  unfold MM Mem
  rw [e1, e2]
  show (w.heap.push _)[w.heap.size]? = _
  simp [sItem]
set_option maxHeartbeats 1000000 in
theorem push_any {zs : List Int} (k : Sk) (x : Int) (w : World) (hl : Lk w lv Ab zs) (hx : -9223372036854775808 ≤ x ∧ x ≤ 9223372036854775807) : Calls Tryz.prog 151 #[.int .i64 k.head, lv, .int .i64 x] w (NewM w lv (mPush k x)) := by
  have hmf : ∀ (fn : Fn) (first cap : Array Value) (w : World), (Instr.makeFunc fn first cap).run Tryz.prog w = .ok (.func fn first cap) w := fun _ _ _ _ => rfl
  obtain ⟨c, _, _, hr⟩ := hl
  rcases hr with ⟨rfl, _⟩ | ⟨rfl, _⟩
  · go_enter Tryz.func151, Tryz.ntmps151
    go_wp2_with (first
      | (go_at_call 169; (with_reducible refine (numbered_any _ _ hx).mono ?_); rintro r w1 ⟨rfl, hw⟩; cases hw)
      | fail)
    go_ret
    exact new_m w k (itemOf x) 170 1 (.inl ⟨rfl, rfl⟩)
  · go_enter Tryz.func151, Tryz.ntmps151
    go_wp2_with (first
      | (go_at_call 169; (with_reducible refine (numbered_any _ _ hx).mono ?_); rintro r w1 ⟨rfl, hw⟩; cases hw)
      | fail)
    go_ret
    exact new_m w k (itemOf x) 170 1 (.inl ⟨rfl, rfl⟩)
set_option maxHeartbeats 1000000 in
theorem pop_any {zs : List Int} (k : Sk) (w : World) (hl : Lk w lv Ab zs) : Calls Tryz.prog 101 #[.int .i64 k.head, lv] w (NewM w lv (mPop k)) := by
  have hmf : ∀ (fn : Fn) (first cap : Array Value) (w : World), (Instr.makeFunc fn first cap).run Tryz.prog w = .ok (.func fn first cap) w := fun _ _ _ _ => rfl
  obtain ⟨c, _, _, hr⟩ := hl
  rcases hr with ⟨rfl, _⟩ | ⟨rfl, _⟩
  · go_enter Tryz.func101, Tryz.ntmps101
    go_wp2
    go_ret
    exact new_m w k 0 115 2 (.inr ⟨rfl, rfl⟩)
  · go_enter Tryz.func101, Tryz.ntmps101
    go_wp2
    go_ret
    exact new_m w k 0 115 2 (.inr ⟨rfl, rfl⟩)
theorem wm_push (k : Sk) (x : Int) : Wm 0 (mPush k x) := by
  refine ⟨.inl rfl, (by simp [mPush]), (by simp [mPush]), ?_, (by simp [mPush]), (by simp [mPush])⟩
  simp only [mPush]; unfold itemOf; split <;> omega
theorem wm_pop (k : Sk) : Wm 0 (mPop k) := ⟨.inr rfl, (by simp [mPop]), (by simp [mPop]), (by simp [mPop]), (by simp [mPop]), (by simp [mPop])⟩
end Go.Proofs.YthoiaffeenhfgaaGreat

namespace Go.Proofs.YthoiaffeenhfgaaGreat
open Go.RowKit
set_option linter.unusedVariables false
set_option linter.unusedSimpArgs false
variable {B S D Ab M : Nat} {lv : Value} {w0 w w' : World} {zs L : List Int} {k t : Int} {m : Sm}
theorem sstp_k (L : List Int) (m : Sm) : (sstp L m).2.k = m.k := by
  unfold sstp swapS
  repeat' (first | rfl | refine ite_ind (P := fun z : List Int × Sm => z.2.k = m.k) ?_ ?_)
attribute [local irreducible] sruns
end Go.Proofs.YthoiaffeenhfgaaGreat

namespace Go.Proofs.YthoiaffeenhfgaaGreat
open Go.RowKit
set_option linter.unusedVariables false
def OwnI (k : IntKind) (e : TypeId) (B : Nat) (w0 wr : World) (v : Value) (l : List Int) : Prop :=
  wr.ownsRow B e 1 v l.length (l.map (Value.int k)) ∧ Below B w0 wr
theorem OwnI.nil {k : IntKind} {e : TypeId} {B : Nat} {w0 wr : World} (h : Below B w0 wr) : OwnI k e B w0 wr (.slice none 0 0) [] := ⟨World.ownsRow_nil _ _ _ _, h⟩
theorem OwnI.reads {k : IntKind} {e : TypeId} {B : Nat} {w0 wr : World} {v : Value} {l : List Int} (h : OwnI k e B w0 wr v l) : ∃ A cap, v = .slice A l.length cap ∧ Reads k wr A l ∧ (A = none → cap = 0) ∧ l.length ≤ cap ∧ cap ≤ maxLen := by
  obtain ⟨ho, hb⟩ := h
  have hlt := ho.lt
  have hcell := fun g (hg : v.ownBlock = some g) => ho.cells hg
  obtain ⟨hl, ⟨h1, h2⟩ | ⟨g, cap, cur, h1, h2, h3, h4, h5, h6, h7⟩⟩ := ho
  · exact ⟨none, 0, by rw [h1, h2], fun h => by omega, fun _ => rfl, by omega, by unfold maxLen; omega⟩
  · refine ⟨_, cap, h1, fun _ => ⟨g, 0, rfl, (hlt g (by rw [h1]; rfl)).2, fun i hi => ?_⟩, (fun e => by cases e), h4, h5⟩
    have c0 := hcell g (by rw [h1]; rfl) i _ (map_get k l i hi)
    rw [add_off] at c0
    exact c0
theorem OwnI.blk {k : IntKind} {e : TypeId} {B : Nat} {w0 wr : World} {v : Value} {l : List Int} (h : OwnI k e B w0 wr v l) : ∃ A cap, v = .slice A l.length cap ∧ (0 < l.length → ∃ b off, A = some ⟨b, off, none⟩ ∧ B ≤ b ∧ b < wr.heap.size ∧ ∀ j, j < l.length → wr.cell? ⟨b, off + j, none⟩ = some (.int k (l.getD j 0))) := by
  obtain ⟨ho, hb⟩ := h
  have hlt := ho.lt
  have hcell := fun g (hg : v.ownBlock = some g) => ho.cells hg
  obtain ⟨hl, ⟨h1, h2⟩ | ⟨g, cap, cur, h1, h2, h3, h4, h5, h6, h7⟩⟩ := ho
  · exact ⟨none, 0, by rw [h1, h2], fun h => by omega⟩
  · refine ⟨_, cap, h1, fun _ => ⟨g, 0, rfl, (hlt g (by rw [h1]; rfl)).1, (hlt g (by rw [h1]; rfl)).2, fun i hi => ?_⟩⟩
    have c0 := hcell g (by rw [h1]; rfl) i _ (map_get k l i hi)
    rw [add_off] at c0
    exact c0
end Go.Proofs.YthoiaffeenhfgaaGreat

namespace Go.Proofs.YthoiaffeenhfgaaGreat
open Go.RowKit
set_option linter.unusedVariables false
open Lay (plcc plc shOf packN nodesN OkC Cfg Norm firstV Rep lenL)
def spK (c : Cfg) : Sk := ⟨plcc c 5 0 0, lnkL c⟩
def poK (c : Cfg) : Sk := ⟨plcc c 4 0 0, lnkL c⟩
def gOf (c : Cfg) : Pg := ⟨spK c, poK c, fun x j => plcc c 13 x j, fun x => plcc c 11 x 0⟩
def pkn (c : Cfg) : Nat := (packN c).toNat
theorem pkn_is {c : Cfg} (hc : OkC c) : ((pkn c : Nat) : Int) = packN c := by have := (Lay.bds hc).p0; unfold pkn; omega
theorem nrm (k a b : Int) (h6 : 0 ≤ k) (h18 : k ≤ 18) (ha : k ≤ 5 → a = 0) (hb : k ≠ 10 → k ≠ 13 → k ≠ 18 → b = 0) : Norm ⟨k, a, b⟩ := ⟨h6, h18, ha, hb⟩
theorem one_place {c : Cfg} {k a b k' a' b' : Int} (h : Norm ⟨k, a, b⟩) (h' : Norm ⟨k', a', b'⟩) (h0 : 0 ≤ plcc c k a b) (e : plcc c k a b = plcc c k' a' b') : k = k' ∧ a = a' ∧ b = b' := by
  have := Lay.plc_inj (s := shOf c) h h' h0 e.symm
  injection this with e1 e2 e3
  exact ⟨e1.symm, e2.symm, e3.symm⟩
theorem pos11 {c : Cfg} (hc : OkC c) {x : Int} (h1 : 1 ≤ x) (h2 : x ≤ packN c) : 0 ≤ plcc c 11 x 0 := by
  have := (Lay.bds hc).t4
  rw [← Lay.plc_many hc x, Lay.wordL, if_pos (by omega)]; omega
theorem pos12 {c : Cfg} (hc : OkC c) {x : Int} (h1 : 1 ≤ x) (h2 : x ≤ packN c) : 0 ≤ plcc c 12 x 0 := Lay.link_pos hc x h1 h2
theorem pos13 {c : Cfg} (hc : OkC c) {x j : Int} (h1 : 1 ≤ x) (h2 : x ≤ packN c) (h3 : 0 ≤ j) (h4 : j < 4) : 0 ≤ plcc c 13 x j := by
  have := (Lay.bds hc).t4
  rw [← Lay.plc_task hc x j, Lay.itemL, if_pos (by omega), Lay.wordL, if_pos (by omega)]; omega
theorem gk_of {c : Cfg} (hc : OkC c) (h : Int) (h5 : h = 4 ∨ h = 5) : Gk (pkn c) (lenL (shOf c)) ⟨plcc c h 0 0, lnkL c⟩ := by
  have hn := pkn_is hc
  have hb := (Lay.bds hc).p1
  have e : plcc c h 0 0 = h := Lay.single_pos c h (by omega) (by omega)
  refine ⟨by omega, ⟨by show 0 ≤ plcc c h 0 0; omega, Lay.plc_lt (nrm h 0 0 (by omega) (by omega) (fun _ => rfl) (fun _ _ _ => rfl)) (by show 0 ≤ plcc c h 0 0; omega)⟩, fun x h1 h2 => ?_, fun x y h1 h2 h3 h4 he => ?_⟩
  · show 0 ≤ atOf (lnkL c) x ∧ atOf (lnkL c) x < _ ∧ atOf (lnkL c) x ≠ plcc c h 0 0
    rw [lnk_at hc]
    have p := pos12 hc h1 (by omega)
    have nx : Norm ⟨12, x, 0⟩ := nrm 12 x 0 (by omega) (by omega) (fun h => by omega) (fun _ _ _ => rfl)
    refine ⟨p, Lay.plc_lt nx p, fun he => ?_⟩
    have := one_place nx (nrm h 0 0 (by omega) (by omega) (fun _ => rfl) (fun _ _ _ => rfl)) p he
    omega
  · have he' : atOf (lnkL c) x = atOf (lnkL c) y := he
    rw [lnk_at hc, lnk_at hc] at he'
    have nx : ∀ z, Norm ⟨12, z, 0⟩ := fun z => nrm 12 z 0 (by omega) (by omega) (fun h => by omega) (fun _ _ _ => rfl)
    exact (one_place (nx x) (nx y) (pos12 hc h1 (by omega)) he').2.1
theorem gp_of {c : Cfg} (hc : OkC c) : Gp (pkn c) (lenL (shOf c)) (gOf c) := by
  have hn := pkn_is hc
  have e4 : plcc c 4 0 0 = 4 := Lay.single_pos c 4 (by omega) (by omega)
  have e5 : plcc c 5 0 0 = 5 := Lay.single_pos c 5 (by omega) (by omega)
  have n0 : ∀ h : Int, 0 ≤ h → h ≤ 5 → Norm ⟨h, 0, 0⟩ := fun h h1 h2 => nrm h 0 0 h1 (by omega) (fun _ => rfl) (fun _ _ _ => rfl)
  have n1 : ∀ k z : Int, 6 ≤ k → k ≤ 18 → Norm ⟨k, z, 0⟩ := fun k z h1 h2 => nrm k z 0 (by omega) h2 (fun h => by omega) (fun _ _ _ => rfl)
  have n3 : ∀ z j : Int, Norm ⟨13, z, j⟩ := fun z j => nrm 13 z j (by omega) (by omega) (fun h => by omega) (fun _ h _ => absurd rfl h)
  refine ⟨gk_of hc 5 (.inr rfl), gk_of hc 4 (.inl rfl), rfl, by show plcc c 5 0 0 ≠ plcc c 4 0 0; omega, ?_, ?_, ?_, ?_, ?_, ?_, ?_⟩
  · intro x j h1 h2 h3 h4
    have p := pos13 hc h1 (by omega) h3 h4
    refine ⟨p, Lay.plc_lt (n3 x j) p, fun he => ?_, fun he => ?_⟩
    · have := one_place (n3 x j) (n0 5 (by omega) (by omega)) p he; omega
    · have := one_place (n3 x j) (n0 4 (by omega) (by omega)) p he; omega
  · intro x j y h1 h2 h3 h4 h5 h6 he
    have he' : plcc c 13 x j = atOf (lnkL c) y := he
    rw [lnk_at hc] at he'
    have := one_place (n3 x j) (n1 12 y (by omega) (by omega)) (pos13 hc h1 (by omega) h3 h4) he'; omega
  · intro x j y h1 h2 h3 h4 h5 h6 he
    have := one_place (n3 x j) (n1 11 y (by omega) (by omega)) (pos13 hc h1 (by omega) h3 h4) he; omega
  · intro x j y i h1 h2 h3 h4 h5 h6 h7 h8 he
    have := one_place (n3 x j) (n3 y i) (pos13 hc h1 (by omega) h3 h4) he
    exact this.2
  · intro x h1 h2
    have p := pos11 hc h1 (by omega)
    refine ⟨p, Lay.plc_lt (n1 11 x (by omega) (by omega)) p, fun he => ?_, fun he => ?_⟩
    · have := one_place (n1 11 x (by omega) (by omega)) (n0 5 (by omega) (by omega)) p he; omega
    · have := one_place (n1 11 x (by omega) (by omega)) (n0 4 (by omega) (by omega)) p he; omega
  · intro x y h1 h2 h3 h4 he
    have he' : plcc c 11 x 0 = atOf (lnkL c) y := he
    rw [lnk_at hc] at he'
    have := one_place (n1 11 x (by omega) (by omega)) (n1 12 y (by omega) (by omega)) (pos11 hc h1 (by omega)) he'; omega
  · intro x y h1 h2 h3 h4 he
    exact (one_place (n1 11 x (by omega) (by omega)) (n1 11 y (by omega) (by omega)) (pos11 hc h1 (by omega)) he).2.1
end Go.Proofs.YthoiaffeenhfgaaGreat

namespace Go.Proofs.YthoiaffeenhfgaaGreat
open Go.RowKit
set_option linter.unusedVariables false
open Lay (plcc plc shOf packN nodesN OkC Cfg Norm firstV Rep lenL things)
abbrev CfgC (B : Nat) (c : Cfg) (w' : World) : Prop := w'.cell? ⟨B, 0, none⟩ = some (.int .i64 c.a) ∧ w'.cell? ⟨B, 1, none⟩ = some (.int .i64 c.b) ∧ w'.cell? ⟨B, 2, none⟩ = some (.int .i64 c.c) ∧ w'.cell? ⟨B, 3, none⟩ = some (.int .i64 c.d) ∧ w'.cell? ⟨B, 4, none⟩ = some (.int .i64 c.e) ∧ w'.cell? ⟨B, 5, none⟩ = some (.int .i64 c.mr) ∧ w'.cell? ⟨B, 6, none⟩ = some (.int .i64 c.mu) ∧ w'.cell? ⟨B, 7, none⟩ = some (.int .i64 c.dq) ∧ w'.cell? ⟨B, 8, none⟩ = some (.int .i64 c.ch) ∧ w'.cell? ⟨B, 9, none⟩ = some (.int .i64 c.bf) ∧ w'.cell? ⟨B, 10, none⟩ = some (.int .i64 c.rt) ∧ w'.cell? ⟨B, 11, none⟩ = some (.int .i64 c.sw)
theorem kc_cells {w : World} {B : Nat} {c : Cfg} {w' : World} (h : Lay.KC w B c w') : CfgC B c w' := ⟨h.c0, h.c1, h.c2, h.c3, h.c4, h.c5, h.c6, h.c7, h.c8, h.c9, h.c10, h.c11⟩
end Go.Proofs.YthoiaffeenhfgaaGreat

namespace Go.Proofs.YthoiaffeenhfgaaGreat
set_option linter.unusedVariables false
set_option linter.unusedSimpArgs false
structure Wg where
  sw : Int
  dn : Int
  st : Int → Int
  ma : Int → Int
  cl : Int → Nat
  hk : Nat → Sk
  n : Int
  per : Int
def Wg.parts (g : Wg) : Int := (g.n + g.per - 1) / g.per
structure Wn where
  pc : Nat
  cy : Int
  w : Int
  part : Int
  v : Int
  last : Int
  x : Sm
  ek : Int
  ea : Int
def wgo (m : Wn) (v : Int) : Wn := { m with v := v, pc := if v ≤ m.last then 3 else 7 }
def wq (m : Wn) : Wn := { m with ek := 0, ea := 0 }
def wmin (a b : Int) : Int := if a ≤ b then a else b
def wstp (g : Wg) (L : List Int) (m : Wn) : List Int × Wn :=
  if m.pc = 1 then
    (L, { wq m with w := ldq L g.sw, pc := if hiw (ldq L g.sw) = m.cy % 4294967296 ∧ low (ldq L g.sw) < g.parts then 2 else 0 })
  else if m.pc = 2 then
    (if (0 ≤ g.sw ∧ g.sw < L.length) ∧ L.getD g.sw.toNat 0 = m.w then
      (ptq L g.sw (m.w + 1), wgo { wq m with part := low m.w, last := wmin ((low m.w + 1) * g.per) g.n } (low m.w * g.per + 1))
     else (L, { wq m with pc := 0 }))
  else if m.pc = 3 then (L, if ldq L (g.st m.v) = 1 then { wq m with pc := 4 } else wgo (wq m) (m.v + 1))
  else if m.pc = 4 then (L, if ldq L (g.ma m.v) < m.cy then { wq m with pc := 5 } else wgo (wq m) (m.v + 1))
  else if m.pc = 5 then (ptq L (g.st m.v) 0, { m with ek := 5, ea := m.v, x := mPush (g.hk (g.cl m.v)) m.v, pc := 6 })
  else if m.pc = 6 then ((sstp L m.x).1, if (sstp L m.x).2.pc = 0 then wgo { wq m with x := (sstp L m.x).2 } (m.v + 1) else { wq m with x := (sstp L m.x).2 })
  else if m.pc = 7 then (ptq L g.dn ((ldq L g.dn + 1) % 18446744073709551616), { m with ek := 6, ea := m.part, pc := 0 })
  else (L, wq m)
def xnone : Sm := ⟨0, 0, ⟨0, []⟩, 0, 0, 0, 0⟩
def wNew (cy : Int) : Wn := ⟨1, cy, 0, -1, 0, 0, xnone, 0, 0⟩
def fset {α : Type} (f : Nat → α) (k : Nat) (a : α) : Nat → α := fun i => if i = k then a else f i
theorem fset_same {α : Type} (f : Nat → α) (k : Nat) (a : α) : fset f k a k = a := if_pos rfl
theorem fset_other {α : Type} {f : Nat → α} {k i : Nat} (a : α) (h : i ≠ k) : fset f k a i = f i := if_neg h
section
variable {n : Nat} {g : Wg} {cy : Int} {L0 L L' : List Int} {T T' : Int} {F F' : Int → Nat} {PD PD' : Int → Bool} {Ts Ts' : Nat → Int} {Qs Qs' : Nat → List Int} {M : Nat → Wn} {m m' : Wn} {k : Nat}
end
end Go.Proofs.YthoiaffeenhfgaaGreat

namespace Go.Proofs.YthoiaffeenhfgaaGreat
open Go.RowKit
set_option linter.unusedVariables false
open Lay (plcc plc shOf packN nodesN OkC Cfg Norm firstV Rep lenL kindV)
def wOf (c : Cfg) : Wg := ⟨plcc c 2 0 0, plcc c 3 0 0, fun v => plcc c 15 v 0, fun v => plcc c 16 v 0, fun v => (kindV c v).toNat, fun k => ⟨plcc c 7 (k : Int) 0, nxtL c⟩, nodesN c, c.sw⟩
def nodn (c : Cfg) : Nat := (nodesN c).toNat
theorem node_kind {c : Cfg} (hc : OkC c) {v : Int} (h1 : 1 ≤ v) (h2 : v ≤ nodesN c) : 0 ≤ kindV c v ∧ kindV c v < 5 := by
  rcases Lay.kindV_cases hc v with ⟨k, h⟩ | ⟨k, _⟩ | ⟨k, _⟩ | ⟨k, _⟩ | ⟨k, _⟩ | ⟨k, _⟩
  · omega
  all_goals omega
end Go.Proofs.YthoiaffeenhfgaaGreat

namespace Go.Proofs.YthoiaffeenhfgaaGreat
set_option linter.unusedVariables false
set_option linter.unusedSimpArgs false
section
variable {n : Nat} {g : Wg} {cy : Int} {L0 L L' : List Int} {T T' : Int} {F F' : Int → Nat} {PD PD' : Int → Bool} {Ts Ts' : Nat → Int} {Qs Qs' : Nat → List Int} {M : Nat → Wn} {m m' : Wn} {k : Nat}
theorem three {α : Type} (f : α → Int) (M M' : Nat → α) (k : Nat) (hk : k < 3) (d : Int) (h1 : f (M' k) + d ≤ f (M k)) (h2 : ∀ i, i < 3 → i ≠ k → f (M' i) ≤ f (M i)) : f (M' 0) + f (M' 1) + f (M' 2) + d ≤ f (M 0) + f (M 1) + f (M 2) := by
  have : k = 0 ∨ k = 1 ∨ k = 2 := by omega
  rcases this with rfl | rfl | rfl
  · have a := h2 1 (by omega) (by omega); have b := h2 2 (by omega) (by omega); omega
  · have a := h2 0 (by omega) (by omega); have b := h2 2 (by omega) (by omega); omega
  · have a := h2 0 (by omega) (by omega); have b := h2 1 (by omega) (by omega); omega
end
end Go.Proofs.YthoiaffeenhfgaaGreat
