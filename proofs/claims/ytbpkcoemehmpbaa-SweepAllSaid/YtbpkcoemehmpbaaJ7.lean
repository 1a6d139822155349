/- How many packets there are, walked. The document's own count of packets, walked. What a map is made of: lists of things, grown by one. The document's list of all things, walked. The document's own search for a thing's place, walked. -/
import Derived.Test.YtbpkcoemehmpbaaLayMap
namespace Go.Proofs.Ytbpkcoemehmpbaa.Lay
open Go.RowKit
set_option linter.unusedVariables false

/-- A configuration that lies in memory. -/
structure KC (w : World) (B : Nat) (c : Cfg) (w' : World) : Prop where
  lt : B < w'.heap.size
  c0 : w'.cell? ⟨B, 0, none⟩ = some (.int .i64 c.a)
  c1 : w'.cell? ⟨B, 1, none⟩ = some (.int .i64 c.b)
  c2 : w'.cell? ⟨B, 2, none⟩ = some (.int .i64 c.c)
  c3 : w'.cell? ⟨B, 3, none⟩ = some (.int .i64 c.d)
  c4 : w'.cell? ⟨B, 4, none⟩ = some (.int .i64 c.e)
  c5 : w'.cell? ⟨B, 5, none⟩ = some (.int .i64 c.mr)
  c6 : w'.cell? ⟨B, 6, none⟩ = some (.int .i64 c.mu)
  c7 : w'.cell? ⟨B, 7, none⟩ = some (.int .i64 c.dq)
  c8 : w'.cell? ⟨B, 8, none⟩ = some (.int .i64 c.ch)
  c9 : w'.cell? ⟨B, 9, none⟩ = some (.int .i64 c.bf)
  c10 : w'.cell? ⟨B, 10, none⟩ = some (.int .i64 c.rt)
  c11 : w'.cell? ⟨B, 11, none⟩ = some (.int .i64 c.sw)
  bel : Below w.heap.size w w'
theorem KC.start (c : Cfg) (t : TypeId) (w w1 : World) (h : Below w.heap.size w w1) : KC w w1.heap.size c (w1.alloc (cfgO c t)) := by
  refine ⟨by simp, ?_, ?_, ?_, ?_, ?_, ?_, ?_, ?_, ?_, ?_, ?_, ?_, below_alloc0 h _⟩
  all_goals (rw [World.cell?_alloc_at _ _ _ _ rfl]; rfl)
theorem KC.step {w : World} {B : Nat} {c : Cfg} {w' w2 : World} (h : KC w B c w') (hb : Below w'.heap.size w' w2) : KC w B c w2 :=
  ⟨Nat.lt_of_lt_of_le h.lt hb.size, (hb.cell (p := ⟨B, 0, none⟩) h.lt).trans h.c0, (hb.cell (p := ⟨B, 1, none⟩) h.lt).trans h.c1, (hb.cell (p := ⟨B, 2, none⟩) h.lt).trans h.c2, (hb.cell (p := ⟨B, 3, none⟩) h.lt).trans h.c3, (hb.cell (p := ⟨B, 4, none⟩) h.lt).trans h.c4, (hb.cell (p := ⟨B, 5, none⟩) h.lt).trans h.c5,
   (hb.cell (p := ⟨B, 6, none⟩) h.lt).trans h.c6, (hb.cell (p := ⟨B, 7, none⟩) h.lt).trans h.c7, (hb.cell (p := ⟨B, 8, none⟩) h.lt).trans h.c8, (hb.cell (p := ⟨B, 9, none⟩) h.lt).trans h.c9, (hb.cell (p := ⟨B, 10, none⟩) h.lt).trans h.c10, (hb.cell (p := ⟨B, 11, none⟩) h.lt).trans h.c11, below_then h.bel hb⟩
theorem KC.drew {w : World} {B : Nat} {c : Cfg} {w' : World} (h : KC w B c w') : KC w B c w'.drew := h.step ((Below.refl _ _).drew)
theorem KC.drewN {w : World} {B : Nat} {c : Cfg} {w' : World} (h : KC w B c w') (n : Nat) : KC w B c (w'.drewN n) := h.step (below_drewN (Below.refl _ _) n)
theorem KC.alloc {w : World} {B : Nat} {c : Cfg} {w' : World} (h : KC w B c w') (o : Obj) : KC w B c (w'.alloc o) := h.step (below_alloc0 (Below.refl _ _) o)
theorem KC.seven {w : World} {B : Nat} {c : Cfg} {w' : World} (h : KC w B c w') : (w'.cell? ⟨B, 0, none⟩ = some (.int .i64 c.a) ∧ w'.cell? ⟨B, 1, none⟩ = some (.int .i64 c.b) ∧ w'.cell? ⟨B, 2, none⟩ = some (.int .i64 c.c) ∧ w'.cell? ⟨B, 3, none⟩ = some (.int .i64 c.d) ∧ w'.cell? ⟨B, 4, none⟩ = some (.int .i64 c.e) ∧ w'.cell? ⟨B, 5, none⟩ = some (.int .i64 c.mr) ∧ w'.cell? ⟨B, 6, none⟩ = some (.int .i64 c.mu)) ∧ KC w B c w' :=
  ⟨⟨h.c0, h.c1, h.c2, h.c3, h.c4, h.c5, h.c6⟩, h⟩
theorem KC.more {X : Prop} {w : World} {B : Nat} {c : Cfg} {w' w2 : World} (h : X ∧ KC w B c w') (hb : Below w'.heap.size w' w2) : KC w B c w2 := h.2.step hb

theorem slots_lit (k v : Int) (h : slotsOf k = v) (w : World) : Calls Try.prog 37 #[.int .i64 k] w fun e w' => e = .returned (.int .i64 v) ∧ w' = w :=
  (slots_any k w).mono fun _ _ ⟨he, hb⟩ => ⟨by rw [he, h], hb.symm⟩
theorem pieces_lit (n d : Int) (h0 : 0 ≤ n) (h1 : n ≤ 1000) (h2 : d ≤ 1000) (w : World) : Calls Try.prog 43 #[.int .i64 n, .int .i64 d] w fun e w' => e = .returned (.int .i64 (piecesOf n d)) ∧ w' = w :=
  (pieces_any n d h0 h1 h2 w).mono fun _ _ ⟨he, hb⟩ => ⟨he, hb.symm⟩

set_option maxHeartbeats 2000000 in
set_option maxRecDepth 100000 in
theorem packets_any {c : Cfg} (h : OkC c) (w : World) : Calls Try.prog 36 #[cfgV c] w fun r w' => r = .returned (.int .i64 (packN c)) ∧ Below w.heap.size w w' := by
  have H := Lib.hid h
  have hp := (bds h).p1
  have hn0 := (bds h).n0
  have hn1 := (bds h).n1
  obtain ⟨a0, a1, b0, b1, c0, c1, d0, d1, e0, e1, s0, k0, k1, u0, u1, q0, q1, h0, h1, f0, f1, r0, r1, w0, w1⟩ := h
  obtain ⟨x0, x1⟩ := pieces_bd 1 c.ch (by omega) h0
  obtain ⟨y0, y1⟩ := pieces_bd 2 c.ch (by omega) h0
  obtain ⟨z0, z1⟩ := pieces_bd 4 c.ch (by omega) h0
  obtain ⟨u0', u1'⟩ := pieces_bd 8 c.ch (by omega) h0
  obtain ⟨v0, v1⟩ := pieces_bd 16 c.ch (by omega) h0
  obtain ⟨m0, m1⟩ := mul_bd a0 a1 x0 x1
  obtain ⟨m2, m3⟩ := mul_bd b0 b1 y0 y1
  obtain ⟨m4, m5⟩ := mul_bd c0 c1 z0 z1
  obtain ⟨m6, m7⟩ := mul_bd d0 d1 u0' u1'
  obtain ⟨m8, m9⟩ := mul_bd e0 e1 v0 v1
  clear s0 q0 q1 f0 f1 r0 r1 w0 w1
  have hk := KC.start c 62 w w (Below.refl _ _)
  go_enter Try.func36, Try.ntmps36
  go_wp2_with (fail)
  go_region_held3 (fun w' => (w'.cell? ⟨w.heap.size, 0, none⟩ = some (.int .i64 c.a) ∧ w'.cell? ⟨w.heap.size, 1, none⟩ = some (.int .i64 c.b) ∧ w'.cell? ⟨w.heap.size, 2, none⟩ = some (.int .i64 c.c) ∧ w'.cell? ⟨w.heap.size, 3, none⟩ = some (.int .i64 c.d) ∧ w'.cell? ⟨w.heap.size, 4, none⟩ = some (.int .i64 c.e) ∧ w'.cell? ⟨w.heap.size, 5, none⟩ = some (.int .i64 c.mr) ∧ w'.cell? ⟨w.heap.size, 6, none⟩ = some (.int .i64 c.mu)) ∧ KC w w.heap.size c w')
    (first | exact KC.seven (by assumption) | exact KC.seven (KC.drew (by assumption)) | fail)
    (first
      | (go_at_call 44; (with_reducible refine (nodes_ok H.out _).mono ?_); rintro r w2 ⟨rfl, hb2⟩; have hkk := KC.more (by assumption) hb2)
      | fail)
  have HKK := Lib.hid hkk
  obtain ⟨klt, q0, q1, q2, q3, q4, q5, q6, q7, q8, q9, q10, q11, qb⟩ := hkk
  clear q5 q6 q7 q9 q10 q11 qb hk
  have hch : c.ch ≤ 1000 := by omega
  go_wp2_with (fail)
  refine wp_loop_rounds 6 ?_
  rw [rounds_succ]; go_wp2
  go_quiet (first
    | (go_at_call 37; exact (slots_lit 0 1 rfl _).mono fun _ _ ⟨he, hm⟩ => ⟨he, _, hm⟩)
    | (go_at_call 43; exact (pieces_lit 1 _ (by decide) (by decide) hch _).mono fun _ _ ⟨he, hm⟩ => ⟨he, _, hm⟩)
    | fail)
  go_wp2
  rw [rounds_succ]; go_wp2
  go_quiet (first
    | (go_at_call 37; exact (slots_lit 1 2 rfl _).mono fun _ _ ⟨he, hm⟩ => ⟨he, _, hm⟩)
    | (go_at_call 43; exact (pieces_lit 2 _ (by decide) (by decide) hch _).mono fun _ _ ⟨he, hm⟩ => ⟨he, _, hm⟩)
    | fail)
  go_wp2
  rw [rounds_succ]; go_wp2
  go_quiet (first
    | (go_at_call 37; exact (slots_lit 2 4 rfl _).mono fun _ _ ⟨he, hm⟩ => ⟨he, _, hm⟩)
    | (go_at_call 43; exact (pieces_lit 4 _ (by decide) (by decide) hch _).mono fun _ _ ⟨he, hm⟩ => ⟨he, _, hm⟩)
    | fail)
  go_wp2
  rw [rounds_succ]; go_wp2
  go_quiet (first
    | (go_at_call 37; exact (slots_lit 3 8 rfl _).mono fun _ _ ⟨he, hm⟩ => ⟨he, _, hm⟩)
    | (go_at_call 43; exact (pieces_lit 8 _ (by decide) (by decide) hch _).mono fun _ _ ⟨he, hm⟩ => ⟨he, _, hm⟩)
    | fail)
  go_wp2
  rw [rounds_succ]; go_wp2
  go_quiet (first
    | (go_at_call 37; exact (slots_lit 4 16 rfl _).mono fun _ _ ⟨he, hm⟩ => ⟨he, _, hm⟩)
    | (go_at_call 43; exact (pieces_lit 16 _ (by decide) (by decide) hch _).mono fun _ _ ⟨he, hm⟩ => ⟨he, _, hm⟩)
    | fail)
  go_wp2
  rw [rounds_succ]; go_wp2
  go_ret
  exact ⟨ret_int (by unfold packN; omega), below_drewN HKK.out.bel _⟩
end Go.Proofs.Ytbpkcoemehmpbaa.Lay

namespace Go.Proofs.Ytbpkcoemehmpbaa.Lay
open Go.RowKit
set_option linter.unusedVariables false

theorem OwnI.lower {k : IntKind} {e : TypeId} {w w2 wr : World} {v : Value} {l : List Int} (h : OwnI k e w2.heap.size w2 wr v l) (hb : Below w.heap.size w w2) : OwnI k e w.heap.size w wr v l :=
  ⟨h.1.mono hb.size, below_then hb h.2⟩
theorem KC.of {c : Cfg} {t : TypeId} {w wr : World} (h : Below (w.heap.size + 1) (w.alloc (cfgO c t)) wr) : KC w w.heap.size c wr := by
  have k := KC.start c t w w (Below.refl _ _)
  have hl : w.heap.size < w.heap.size + 1 := Nat.lt_succ_self _
  exact ⟨by have := h.size; simp at this; omega, (h.cell (p := ⟨_, 0, none⟩) hl).trans k.c0, (h.cell (p := ⟨_, 1, none⟩) hl).trans k.c1, (h.cell (p := ⟨_, 2, none⟩) hl).trans k.c2, (h.cell (p := ⟨_, 3, none⟩) hl).trans k.c3, (h.cell (p := ⟨_, 4, none⟩) hl).trans k.c4, (h.cell (p := ⟨_, 5, none⟩) hl).trans k.c5,
    (h.cell (p := ⟨_, 6, none⟩) hl).trans k.c6, (h.cell (p := ⟨_, 7, none⟩) hl).trans k.c7, (h.cell (p := ⟨_, 8, none⟩) hl).trans k.c8, (h.cell (p := ⟨_, 9, none⟩) hl).trans k.c9, (h.cell (p := ⟨_, 10, none⟩) hl).trans k.c10, (h.cell (p := ⟨_, 11, none⟩) hl).trans k.c11,
    k.bel.trans (h.mono (Nat.le_succ _))⟩

/-- The classes of all nodes; their rooms. -/
def ksOf (c : Cfg) : List Int := pre c.a c.b c.c c.d c.e 5
def roomsI (c : Cfg) : List Int := (ksOf c).map slotsOf
/-- A slice of numbers that was made. -/
def SomeI (k : IntKind) (e : TypeId) (l : List Int) (w : World) (en : Ending) (w' : World) : Prop := ∃ v, en = .returned v ∧ OwnI k e w.heap.size w w' v l

theorem ks_len {c : Cfg} (h : OkC c) : ((ksOf c).length : Int) = nodesN c := by
  unfold ksOf; rw [pre_length, many_is ⟨h.a0, h.a1⟩, many_is ⟨h.b0, h.b1⟩, many_is ⟨h.c0, h.c1⟩, many_is ⟨h.d0, h.d1⟩, many_is ⟨h.e0, h.e1⟩]; rfl
theorem ks_len60 (c : Cfg) : (ksOf c).length ≤ 60 := pre_len _ _ _ _ _ 5
theorem rooms_len (c : Cfg) : (roomsI c).length = (ksOf c).length := by simp [roomsI]
theorem rooms_get (c : Cfg) (k : Nat) (h : k < (ksOf c).length) : (roomsI c).getD k 0 = slotsOf ((ksOf c).getD k 0) := by
  simp [roomsI, List.getD, List.getElem?_map, List.getElem?_eq_getElem h]
theorem take_snocI (l : List Int) (k : Nat) (h : k < l.length) : l.take (k + 1) = l.take k ++ [l.getD k 0] := by
  rw [List.take_succ_eq_append_getElem h, List.getD_eq_getElem?_getD, List.getElem?_eq_getElem h]; rfl

/-- The pieces of rooms. -/
def psum (ch : Int) (l : List Int) : Int := (l.map fun r => piecesOf r ch).sum
theorem psum_app (ch : Int) (l m : List Int) : psum ch (l ++ m) = psum ch l + psum ch m := by unfold psum; simp
theorem psum_rep (ch : Int) (n : Nat) (k : Int) : psum ch (List.replicate n k) = n * piecesOf k ch := by
  induction n with
  | zero => simp [psum]
  | succ n ih => rw [List.replicate_succ', psum_app, ih]; simp [psum]; rw [Int.add_mul]; simp
theorem psum_all {c : Cfg} (h : OkC c) : nodesN c + 2 * c.mr + c.mu + psum c.ch (roomsI c) = packN c := by
  unfold roomsI ksOf
  rw [pre5, many_is ⟨h.a0, h.a1⟩, many_is ⟨h.b0, h.b1⟩, many_is ⟨h.c0, h.c1⟩, many_is ⟨h.d0, h.d1⟩, many_is ⟨h.e0, h.e1⟩]
  simp only [List.map_append, List.map_replicate, psum_app, psum_rep]
  rw [show slotsOf 0 = 1 from rfl, show slotsOf 1 = 2 from rfl, show slotsOf 2 = 4 from rfl, show slotsOf 3 = 8 from rfl, show slotsOf 4 = 16 from rfl]
  rw [Int.toNat_of_nonneg h.a0, Int.toNat_of_nonneg h.b0, Int.toNat_of_nonneg h.c0, Int.toNat_of_nonneg h.d0, Int.toNat_of_nonneg h.e0]
  unfold packN; omega
theorem psum_take (ch : Int) (l : List Int) (k : Nat) (h : k < l.length) : psum ch (l.take (k + 1)) = psum ch (l.take k) + piecesOf (l.getD k 0) ch := by
  rw [take_snocI l k h, psum_app]; simp [psum]
theorem psum_bd (ch : Int) (l : List Int) (h : 1 ≤ ch) (hl : ∀ x ∈ l, 0 ≤ x ∧ x ≤ 16) : 0 ≤ psum ch l ∧ psum ch l ≤ 16 * l.length := by
  induction l with
  | nil => simp [psum]
  | cons x l ih =>
    have i := ih (fun y hy => hl y (by simp [hy]))
    obtain ⟨p0, p1⟩ := hl x (by simp)
    obtain ⟨q0, q1⟩ := pieces_bd x ch p0 h
    have e : psum ch (x :: l) = piecesOf x ch + psum ch l := by simp [psum]
    rw [e]; simp only [List.length_cons]; omega
theorem rooms_bd (c : Cfg) : ∀ x ∈ roomsI c, 0 ≤ x ∧ x ≤ 16 := by
  intro x hx
  simp only [roomsI, List.mem_map] at hx
  obtain ⟨k, _, rfl⟩ := hx
  exact slots_bd k
theorem getD_mem (l : List Int) (k : Nat) (h : k < l.length) : l.getD k 0 ∈ l := by
  rw [List.getD_eq_getElem?_getD, List.getElem?_eq_getElem h]; exact List.getElem_mem h

end Go.Proofs.Ytbpkcoemehmpbaa.Lay

namespace Go.Proofs.Ytbpkcoemehmpbaa.Lay
open Go.RowKit
set_option linter.unusedVariables false

/-- What a map is made of. -/
def roomsN (c : Cfg) : List Nat := (ksOf c).map fun k => (slotsOf k).toNat
def shOf (c : Cfg) : Sh := ⟨c.mu.toNat, c.mr.toNat, c.dq.toNat, (packN c).toNat, roomsN c⟩
theorem roomsN_len (c : Cfg) : (roomsN c).length = (ksOf c).length := by simp [roomsN]
theorem roomsN_get (c : Cfg) (k : Nat) (h : k < (ksOf c).length) : (((roomsN c).getD k 0 : Nat) : Int) = slotsOf ((ksOf c).getD k 0) := by
  have := slots_bd ((ksOf c).getD k 0)
  simp only [roomsN, List.getD, List.getElem?_map, List.getElem?_eq_getElem h, Option.map_some, Option.getD_some] at *
  omega

def singlesTo (n : Nat) : List Th := (List.range n).map fun k : Nat => ⟨k, 0, 0⟩
theorem singles_succ (n : Nat) : singlesTo (n + 1) = singlesTo n ++ [⟨(n : Int), 0, 0⟩] := by simp [singlesTo, List.range_succ]
theorem acks_succ (n : Nat) : acks (n + 1) = acks n ++ [⟨6, (n : Int), 0⟩] := by simp [acks, List.range_succ]
theorem heads_succ (n : Nat) : heads (n + 1) = heads n ++ [⟨7, (n : Int), 0⟩] := by simp [heads, List.range_succ]
theorem entries_succ (i n : Nat) : entries i (n + 1) = entries i n ++ [⟨10, (i : Int), (n : Int)⟩] := by simp [entries, List.range_succ]
def tasksI (p : Int) (n : Nat) : List Th := (List.range n).map fun j : Nat => ⟨13, p, j⟩
def slotsI (v : Int) (n : Nat) : List Th := (List.range n).map fun j : Nat => ⟨18, v, j⟩
theorem tasks_succ (p : Int) (n : Nat) : tasksI p (n + 1) = tasksI p n ++ [⟨13, p, (n : Int)⟩] := by simp [tasksI, List.range_succ]
theorem slotsI_succ (v : Int) (n : Nat) : slotsI v (n + 1) = slotsI v n ++ [⟨18, v, (n : Int)⟩] := by simp [slotsI, List.range_succ]
theorem packs_succ (n : Nat) : packsTo (n + 1) = packsTo n ++ ([⟨11, (n : Int) + 1, 0⟩] ++ ([⟨12, (n : Int) + 1, 0⟩] ++ tasksI ((n : Int) + 1) 4)) := by
  simp [packsTo, pack1, tasks, tasksI]
theorem nodes_succ (r : List Nat) (n : Nat) : nodesTo r (n + 1) = nodesTo r n ++ ([⟨14, (n : Int) + 1, 0⟩] ++ ([⟨15, (n : Int) + 1, 0⟩] ++ ([⟨16, (n : Int) + 1, 0⟩] ++ ([⟨17, (n : Int) + 1, 0⟩] ++ slotsI ((n : Int) + 1) (r.getD n 0))))) := by
  simp [nodesTo, node1, slots, slotsI]
theorem marks_succ (D n : Nat) : marksTo D (n + 1) = marksTo D n ++ ([⟨8, (n : Int), 0⟩] ++ ([⟨9, (n : Int), 0⟩] ++ entries n D)) := by
  simp [marksTo, mark1]

theorem off_le (r : List Nat) (h : ∀ x ∈ r, x ≤ 16) : ∀ n, n ≤ r.length → off r n ≤ 20 * n
  | 0, _ => by simp [off]
  | n + 1, hn => by
    have ih := off_le r h n (by omega)
    have : r.getD n 0 ≤ 16 := h _ (by rw [List.getD_eq_getElem?_getD, List.getElem?_eq_getElem (by omega)]; exact List.getElem_mem _)
    simp only [off]; omega
theorem roomsN_le (c : Cfg) : ∀ x ∈ roomsN c, x ≤ 16 := by
  intro x hx
  simp only [roomsN, List.mem_map] at hx
  obtain ⟨k, _, rfl⟩ := hx
  have := slots_bd k; omega

end Go.Proofs.Ytbpkcoemehmpbaa.Lay

namespace Go.Proofs.Ytbpkcoemehmpbaa.Lay
open Go.RowKit
set_option linter.unusedVariables false

/-- A slice of numbers that lies apart from a row that grows. -/
def ReadsA (wr : World) (v : Value) (A : Option Addr) (zs : List Int) : Prop :=
  0 < zs.length → ∃ b off, A = some ⟨b, off, none⟩ ∧ b < wr.heap.size ∧ v.ownBlock ≠ some b ∧ ∀ j, j < zs.length → wr.cell? ⟨b, off + j, none⟩ = some (.int .i64 (zs.getD j 0))
theorem ReadsA.alloc {wr : World} {v : Value} {A : Option Addr} {zs : List Int} (h : ReadsA wr v A zs) (o : Obj) : ReadsA (wr.alloc o) v A zs := fun h0 => by
  obtain ⟨b, off, e, hlt, hn, hc⟩ := h h0
  exact ⟨b, off, e, by simp; omega, hn, fun j hj => (World.cell?_alloc_past _ _ _ hlt).trans (hc j hj)⟩

end Go.Proofs.Ytbpkcoemehmpbaa.Lay

namespace Go.Proofs.Ytbpkcoemehmpbaa.Lay
open Go.RowKit
set_option linter.unusedVariables false

theorem place_spec {s : Sh} {t : Th} (hn : Norm t) {k : Nat} (hk : k < (things s).length) (he : gt (things s) k = t) : plc s t = (k : Int) := by
  rw [← he]; have := seg_all s k hk; rw [this]; omega
theorem place_none {s : Sh} {t : Th} (hn : Norm t) (h : ∀ i, i < (things s).length → gt (things s) i ≠ t) : plc s t = -1 := by
  rcases plc_spec s t hn with ⟨h1, _⟩ | ⟨i, hi, _, h2, _⟩
  · exact h1
  · exact absurd h2 (h i hi)

end Go.Proofs.Ytbpkcoemehmpbaa.Lay
