/-
  Joined: Pb. Conditions: as each part says.
-/
import Derived.Test.YtedoggejbhbebaaJ25
import Derived.Test.YtedoggejbhbebaaJ30

/-
  The program's product of blocks: contract of gcm.block.times. Conditions: the halves have 64 bits.
-/
/-
  The program's blocks of two halves: contracts of gcm.block.plus and shifted. Conditions: the halves have 64 bits.
-/
namespace Go.Proofs.Ytedoggejbhbebaa
namespace Gcm
open Go.ChangeShapes Go.WideShapes Go.ChangeAt Go.RowKit Go.Great
open Gf Aes
set_option linter.unusedVariables false

def isStruct : Option TypeDesc → Bool
  | some (.struct _) => true
  | _ => false
theorem struct_of {o : Option TypeDesc} (h : isStruct o = true) : ∃ fs, o = some (.struct fs) := by
  cases o with
  | none => cases h
  | some d => cases d <;> first | exact ⟨_, rfl⟩ | cases h
theorem under_blk : ∃ fs, Try.prog.underlying 82 = some (.struct fs) := struct_of (by kernel_rfl)
theorem info_blk : (Try.prog.info? 82).map (·.size) = some 2 := by kernel_rfl

/-- A block of halves in memory. -/
abbrev B2 (g a b : Nat) (w : World) : Prop := w.heap[g]? = some (.cells #[.int .u64 (a : Nat), .int .u64 (b : Nat)] 82 (0, 0))
theorem B2.hi {g a b : Nat} {w : World} (h : B2 g a b w) : w.cell? ⟨g, 0, none⟩ = some (.int .u64 (a : Nat)) := by rw [cell_of_row _ _ _ _ _ _ h]; rfl
theorem B2.lo {g a b : Nat} {w : World} (h : B2 g a b w) : w.cell? ⟨g, 1, none⟩ = some (.int .u64 (b : Nat)) := by rw [cell_of_row _ _ _ _ _ _ h]; rfl
theorem B2.frozen {g a b : Nat} {w : World} (h : B2 g a b w) (j : Nat) : w.frozen? ⟨g, j, none⟩ = false := frozen_of_row _ _ _ _ _ h

/-- The end of a function that gives a block. -/
theorem ret_blk {fn : Func} {p : Tmp} {Q : Ending → World → Prop} {tmps : Array Value} {w : World} {g a b : Nat} (h : fn.results = #[.cell p 82]) (hp : tmps.getD p undef = .pointer (some ⟨g, 0, none⟩)) (hg : B2 g a b w)
    (hq : Q (.returned (.agg #[.int .u64 (a : Nat), .int .u64 (b : Nat)])) w) : bodyPost Try.prog fn Q Exit.ret { tmps := tmps, defers := [] } w := by
  obtain ⟨fs, hu⟩ := under_blk
  exact bodyPost_ret (results_cell_row h tmps w g 82 _ (0, 0) _ hp hg hu rfl info_blk) rfl hq

theorem third_new (w : World) (o1 o2 o3 : Obj) : (((w.alloc o1).alloc o2).alloc o3).heap[w.heap.size + 1 + 1]? = some o3 := by
  have := heap_alloc_new ((w.alloc o1).alloc o2) o3
  rwa [alloc_size, alloc_size] at this
theorem second_new (w : World) (o1 o2 : Obj) : ((w.alloc o1).alloc o2).heap[w.heap.size + 1]? = some o2 := by
  have := heap_alloc_new (w.alloc o1) o2
  rwa [alloc_size] at this

set_option maxHeartbeats 2000000 in
theorem plus_any (a b c d : Nat) (w : World) (ha : a < 2 ^ 64) (hb : b < 2 ^ 64) (hc : c < 2 ^ 64) (hd : d < 2 ^ 64) :
    Calls Try.prog 64 #[.agg #[.int .u64 (a : Nat), .int .u64 (b : Nat)], .agg #[.int .u64 (c : Nat), .int .u64 (d : Nat)]] w fun e w' => e = .returned (.agg #[.int .u64 ((a ^^^ c : Nat)), .int .u64 ((b ^^^ d : Nat))]) ∧ Below w.heap.size w w' := by
  have q1 := u64_xor_nat a c ha hc
  have q2 := u64_xor_nat b d hb hd
  clear ha hb hc hd
  go_enter Try.func64, Try.ntmps64
  go_wp2
  exact ret_blk rfl rfl (third_new w _ _ _) ⟨rfl, below_alloc (below_alloc (below_alloc (Below.refl _ _) _) _) _⟩

theorem wrap64_lt {n : Nat} (h : n < 2 ^ 64) : IntKind.u64.wrap (n : Int) = (n : Int) := by rw [IntKind.wrap_u64]; omega

/-- The last bit, times the divisor's word. -/
theorem gone_word (b : Nat) (hb : b < 2 ^ 64) : IntKind.u64.wrap (bits .and .u64 (b : Int) 1 * 16212958658533785600) = ((sel (b.testBit 0) 16212958658533785600 : Nat) : Int) := by
  have e := bits_and_u64_nat b 1 hb (by decide)
  rw [show ((1 : Nat) : Int) = 1 from rfl] at e
  rw [e, Nat.and_one_is_mod, IntKind.wrap_u64]
  rw [Nat.testBit_zero]
  rcases Nat.mod_two_eq_zero_or_one b with h | h <;> rw [h] <;> rfl
theorem moved_up (a : Nat) : IntKind.u64.wrap ((a : Int) * 9223372036854775808) = ((a % 2 * 2 ^ 63 : Nat) : Int) := by
  rw [IntKind.wrap_u64]; omega

set_option maxHeartbeats 2000000 in
theorem shifted_any (a b : Nat) (w : World) (ha : a < 2 ^ 64) (hb : b < 2 ^ 64) :
    Calls Try.prog 99 #[.agg #[.int .u64 (a : Nat), .int .u64 (b : Nat)]] w fun e w' => e = .returned (.agg #[.int .u64 ((a / 2 ^^^ sel (b.testBit 0) 16212958658533785600 : Nat)), .int .u64 ((b / 2 + a % 2 * 2 ^ 63 : Nat))]) ∧ Below w.heap.size w w' := by
  obtain ⟨x, hx⟩ : ∃ x, x = sel (b.testBit 0) 16212958658533785600 := ⟨_, rfl⟩
  obtain ⟨y, hy⟩ : ∃ y, y = a % 2 * 2 ^ 63 := ⟨_, rfl⟩
  have q1 := gone_word b hb
  have q2 := moved_up a
  have q3 := u64_xor_nat (a / 2) x (by omega) (by rw [hx]; exact sel_lt (by decide))
  have q4 := bits_or_u64_nat y (b / 2) (by omega) (by omega)
  have q5 := half_or (hi := a) hb
  have e1 : (a : Int) / 2 = ((a / 2 : Nat) : Int) := rfl
  have e2 : (b : Int) / 2 = ((b / 2 : Nat) : Int) := rfl
  rw [← hx] at q1 ⊢
  rw [← hy] at q2 q5 ⊢
  rw [Nat.or_comm] at q5
  have H := Lib.hid (And.intro q1 (And.intro q2 (And.intro q3 (And.intro q4 (And.intro q5 (And.intro e1 e2))))))
  clear q1 q2 q3 q4 q5 e1 e2 ha hb hx hy
  go_enter Try.func99, Try.ntmps99
  go_wp2
  rw [H.out.1, H.out.2.1, H.out.2.2.2.2.2.1, H.out.2.2.2.2.2.2, H.out.2.2.1, H.out.2.2.2.1, H.out.2.2.2.2.1]
  exact ret_blk rfl rfl (second_new w _ _) ⟨rfl, below_alloc (below_alloc (Below.refl _ _) _) _⟩

end Gcm
end Go.Proofs.Ytedoggejbhbebaa

namespace Go.Proofs.Ytedoggejbhbebaa
namespace Gcm
open Go.ChangeShapes Go.WideShapes Go.ChangeAt Go.RowKit Go.Great
open Gf Aes
set_option linter.unusedVariables false

/-- The factor that is shifted up, i times. -/
def upN (m i : Nat) : Nat := m * 2 ^ i % 2 ^ 128
theorem upN_lt (m i : Nat) : upN m i < 2 ^ 128 := Nat.mod_lt _ (by decide)
theorem upN_zero {m : Nat} (h : m < 2 ^ 128) : upN m 0 = m := by rw [upN, Nat.pow_zero, Nat.mul_one, Nat.mod_eq_of_lt h]
theorem upN_bit (m i : Nat) (h : i < 128) : (upN m i).testBit 127 = m.testBit (127 - i) := by
  rw [upN, Nat.testBit_mod_two_pow, decide_eq_true (by decide : 127 < 128), Bool.true_and, Nat.mul_comm, Nat.testBit_two_pow_mul, decide_eq_true (by omega), Bool.true_and]
theorem upN_next (m i : Nat) : upN m (i + 1) = upN m i * 2 % 2 ^ 128 := by
  unfold upN
  rw [Nat.pow_succ, ← Nat.mul_assoc, Nat.mod_mul_mod]
/-- On halves. -/
theorem up_whole {c d : Nat} (hd : d < 2 ^ 64) : whole c d * 2 % 2 ^ 128 = whole (c * 2 % 2 ^ 64 + d / 2 ^ 63) (d * 2 % 2 ^ 64) := by unfold whole; omega
theorem top_bit {c d : Nat} (hc : c < 2 ^ 64) (hd : d < 2 ^ 64) : (whole c d).testBit 127 = decide (c / 2 ^ 63 = 1) := by
  rw [whole_bit hd, if_neg (by decide), Nat.testBit_eq_decide_div_mod_eq]
  congr 1
  apply propext
  constructor <;> intro h <;> omega

theorem shl_up (c : Nat) : IntKind.u64.wrap ((c : Int) * 2) = ((c * 2 % 2 ^ 64 : Nat) : Int) := by rw [IntKind.wrap_u64]; omega
theorem or_up (c d : Nat) (hd : d < 2 ^ 64) : (c * 2 % 2 ^ 64) ||| (d / 2 ^ 63) = c * 2 % 2 ^ 64 + d / 2 ^ 63 := by
  have e : c * 2 % 2 ^ 64 = 2 ^ 1 * (c % 2 ^ 63) := by omega
  rw [e]
  exact (Nat.two_pow_add_eq_or_of_lt (i := 1) (b := d / 2 ^ 63) (by omega) (c % 2 ^ 63)).symm

/-- The rows in memory: both factors, the result's, the sum. -/
structure Tb (w : World) (x1 x0 y1 y0 p1 p0 : Nat) (X : World) : Prop where
  hX : B2 w.heap.size x1 x0 X
  hY : B2 (w.heap.size + 1) y1 y0 X
  hR : B2 (w.heap.size + 1 + 1) 0 0 X
  hP : B2 (w.heap.size + 1 + 1 + 1) p1 p0 X
  below : Below w.heap.size w X

theorem Tb.next {w X Y : World} {x1 x0 y1 y0 p1 p0 : Nat} (h : Tb w x1 x0 y1 y0 p1 p0 X) (hb : Below X.heap.size X Y) : Tb w x1 x0 y1 y0 p1 p0 Y :=
  ⟨keepBlock h.hX hb, keepBlock h.hY hb, keepBlock h.hR hb, keepBlock h.hP hb, below_link h.below hb⟩
/-- A block anew. -/
def put2 (X : World) (g a b : Nat) : World := (X.setCell ⟨g, 0, none⟩ (.int .u64 (a : Nat))).setCell ⟨g, 1, none⟩ (.int .u64 (b : Nat))
theorem B2.put {g a b : Nat} {w : World} (h : B2 g a b w) (x y : Nat) : B2 g x y (put2 w g x y) := by
  unfold B2 put2
  rw [heap_setCell_same _ _ _ _ _ _ (heap_setCell_same _ _ _ _ _ _ h)]
  rfl
theorem B2.far {g a b : Nat} {w : World} (h : B2 g a b w) {g' : Nat} (hg : g ≠ g') (x y : Nat) : B2 g a b (put2 w g' x y) := by
  unfold B2 put2
  rw [heap_setCell_other _ _ _ _ (by simp only []; exact hg), heap_setCell_other _ _ _ _ (by simp only []; exact hg)]
  exact h
theorem below_put2 {w X : World} (hb : Below w.heap.size w X) {g : Nat} (hg : w.heap.size ≤ g) (x y : Nat) : Below w.heap.size w (put2 X g x y) :=
  (hb.setCell (by simp only []; exact hg) _).setCell (by simp only []; exact hg) _
/-- What a store into it asks. -/
theorem B2.asks {g a b : Nat} {w : World} (h : B2 g a b w) : w.cell? ⟨g, 0, none⟩ = some (.int .u64 (a : Nat)) ∧ w.cell? ⟨g, 1, none⟩ = some (.int .u64 (b : Nat)) ∧ w.frozen? ⟨g, 0, none⟩ = false ∧ w.frozen? ⟨g, 1, none⟩ = false :=
  ⟨h.hi, h.lo, h.frozen 0, h.frozen 1⟩
theorem Tb.putP {w X : World} {x1 x0 y1 y0 p1 p0 : Nat} (h : Tb w x1 x0 y1 y0 p1 p0 X) (a b : Nat) : Tb w x1 x0 y1 y0 a b (put2 X (w.heap.size + 1 + 1 + 1) a b) :=
  ⟨h.hX.far (by omega) _ _, h.hY.far (by omega) _ _, h.hR.far (by omega) _ _, h.hP.put _ _, below_put2 h.below (by omega) _ _⟩
theorem Tb.putX {w X : World} {x1 x0 y1 y0 p1 p0 : Nat} (h : Tb w x1 x0 y1 y0 p1 p0 X) (a b : Nat) : Tb w a b y1 y0 p1 p0 (put2 X w.heap.size a b) :=
  ⟨h.hX.put _ _, h.hY.far (by omega) _ _, h.hR.far (by omega) _ _, h.hP.far (by omega) _ _, below_put2 h.below (by omega) _ _⟩
theorem Tb.putY {w X : World} {x1 x0 y1 y0 p1 p0 : Nat} (h : Tb w x1 x0 y1 y0 p1 p0 X) (a b : Nat) : Tb w x1 x0 a b p1 p0 (put2 X (w.heap.size + 1) a b) :=
  ⟨h.hX.far (by omega) _ _, h.hY.put _ _, h.hR.far (by omega) _ _, h.hP.far (by omega) _ _, below_put2 h.below (by omega) _ _⟩

theorem mul_bit (c x : Nat) (hc : c < 2 ^ 64) (hx : x < 2 ^ 64) : IntKind.u64.wrap ((c / 2 ^ 63 : Nat) * (x : Int)) = ((sel (decide (c / 2 ^ 63 = 1)) x : Nat) : Int) := by
  have h : c / 2 ^ 63 = 0 ∨ c / 2 ^ 63 = 1 := by omega
  rcases h with h | h
  · rw [h]; simp [sel, IntKind.wrap_u64]
  · rw [h, decide_eq_true rfl]; simp only [sel]; rw [IntKind.wrap_u64]; simp; omega

set_option maxRecDepth 100000 in
set_option maxHeartbeats 8000000 in
theorem times_any (a b c d : Nat) (w : World) (ha : a < 2 ^ 64) (hb : b < 2 ^ 64) (hc : c < 2 ^ 64) (hd : d < 2 ^ 64) :
    Calls Try.prog 78 #[.agg #[.int .u64 (a : Nat), .int .u64 (b : Nat)], .agg #[.int .u64 (c : Nat), .int .u64 (d : Nat)]] w fun e w' => ∃ h l : Nat, h < 2 ^ 64 ∧ l < 2 ^ 64 ∧ whole h l = times128 (whole a b) (whole c d) ∧ e = .returned (.agg #[.int .u64 (h : Nat), .int .u64 (l : Nat)]) ∧ Below w.heap.size w w' := by
  obtain ⟨n, hn⟩ : ∃ n, n = whole a b := ⟨_, rfl⟩
  obtain ⟨m, hm⟩ : ∃ m, m = whole c d := ⟨_, rfl⟩
  have hnl : n < 2 ^ 128 := by rw [hn]; exact whole_lt ha hb
  have hml : m < 2 ^ 128 := by rw [hm]; exact whole_lt hc hd
  rw [← hn, ← hm]
  have HN := Lib.hid (And.intro hn (And.intro hm (And.intro hnl hml)))
  have HL := Lib.hid (And.intro ha (And.intro hb (And.intro hc hd)))
  clear hn hm hnl hml ha hb hc hd
  go_enter Try.func78, Try.ntmps78
  go_wp2
  go_loopw [7] (fun i wr => ∃ k x1 x0 y1 y0 p1 p0 : Nat, k ≤ 128 ∧ i = .int .i64 (k : Nat) ∧ Tb w x1 x0 y1 y0 p1 p0 wr ∧ x1 < 2 ^ 64 ∧ x0 < 2 ^ 64 ∧ y1 < 2 ^ 64 ∧ y0 < 2 ^ 64 ∧ p1 < 2 ^ 64 ∧ p0 < 2 ^ 64 ∧ whole x1 x0 = xrn n k ∧ whole y1 y0 = upN m k ∧ whole p1 p0 = accR m n k) (fun i _ => 128 - (intOf i).toNat)
  case atStart =>
    refine ⟨0, a, b, c, d, 0, 0, Nat.zero_le _, rfl, ⟨?_, ?_, ?_, ?_, ?_⟩, HL.out.1, HL.out.2.1, HL.out.2.2.1, HL.out.2.2.2, by decide, by decide, HN.out.1.symm, by rw [upN_zero HN.out.2.2.2]; exact HN.out.2.1.symm, rfl⟩
    · exact keepAlloc (keepAlloc (keepAlloc (heap_alloc_new w _) _) _) _
    · exact keepAlloc (keepAlloc (second_new w _ _) _) _
    · exact keepAlloc (third_new w _ _ _) _
    · have := heap_alloc_new (((w.alloc (Obj.cells #[Value.int IntKind.u64 (a : Nat), Value.int IntKind.u64 (b : Nat)] 82)).alloc (Obj.cells #[Value.int IntKind.u64 (c : Nat), Value.int IntKind.u64 (d : Nat)] 82)).alloc (Obj.cells #[Value.int IntKind.u64 ((0 : Nat) : Int), Value.int IntKind.u64 ((0 : Nat) : Int)] 82)) (Obj.cells #[Value.int IntKind.u64 ((0 : Nat) : Int), Value.int IntKind.u64 ((0 : Nat) : Int)] 82)
      rw [alloc_size, alloc_size, alloc_size] at this
      exact this
    · exact below_alloc (below_alloc (below_alloc (below_alloc (Below.refl _ _) _) _) _) _
  case round =>
    obtain ⟨k, x1, x0, y1, y0, p1, p0, hk, rfl, hT, lx1, lx0, ly1, ly0, lp1, lp0, ex, ey, ep⟩ := hrel
    by_cases hlt : k < 128
    · have f1 := hT.hX.hi
      have f2 := hT.hX.lo
      have f3 := hT.hY.hi
      have f4 := hT.hY.lo
      have f5 := hT.hP.hi
      have f6 := hT.hP.lo
      have HT := Lib.hid hT
      have HE := Lib.hid (And.intro ex (And.intro ey ep))
      have HLL := Lib.hid (And.intro lx1 (And.intro lx0 (And.intro ly1 (And.intro ly0 (And.intro lp1 lp0)))))
      obtain ⟨t, ht⟩ : ∃ t, t = decide (y1 / 2 ^ 63 = 1) := ⟨_, rfl⟩
      obtain ⟨co, hco⟩ : ∃ co, co = y1 / 2 ^ 63 := ⟨_, rfl⟩
      have e1 := mul_bit y1 x1 ly1 lx1
      have e2 := mul_bit y1 x0 ly1 lx0
      obtain ⟨s1, hs1⟩ : ∃ s1, s1 = sel t x1 := ⟨_, rfl⟩
      obtain ⟨s0, hs0⟩ : ∃ s0, s0 = sel t x0 := ⟨_, rfl⟩
      have ls1 : s1 < 2 ^ 64 := by rw [hs1]; exact sel_lt lx1
      have ls0 : s0 < 2 ^ 64 := by rw [hs0]; exact sel_lt lx0
      rw [← ht, ← hco, ← hs1] at e1
      rw [← ht, ← hco, ← hs0] at e2
      have e0 : (y1 : Int) / 9223372036854775808 = (co : Int) := by omega
      have C1 := Lib.hid (fun X => plus_any p1 p0 s1 s0 X lp1 lp0 ls1 ls0)
      have C2 := Lib.hid (fun X => shifted_any x1 x0 X lx1 lx0)
      have htb : (upN m k).testBit 127 = t := by rw [← ey, top_bit ly1 ly0, ht]
      rw [upN_bit m k hlt] at htb
      obtain ⟨u1, hu1⟩ : ∃ u1, u1 = y1 * 2 % 2 ^ 64 := ⟨_, rfl⟩
      obtain ⟨u0, hu0⟩ : ∃ u0, u0 = y0 * 2 % 2 ^ 64 := ⟨_, rfl⟩
      obtain ⟨v1, hv1⟩ : ∃ v1, v1 = y0 / 2 ^ 63 := ⟨_, rfl⟩
      have e3 := shl_up y1
      have e4 := shl_up y0
      rw [← hu1] at e3
      rw [← hu0] at e4
      have e5 : (y0 : Int) / 9223372036854775808 = (v1 : Int) := by omega
      obtain ⟨z1, hz1⟩ : ∃ z1, z1 = u1 + v1 := ⟨_, rfl⟩
      have e6 := bits_or_u64_nat u1 v1 (by omega) (by omega)
      have e7 := or_up y1 y0 ly0
      rw [← hu1, ← hv1, ← hz1] at e7
      rw [e7] at e6
      have ey2 : whole z1 u0 = upN m (k + 1) := by rw [upN_next, ← ey, up_whole ly0, hz1, hu1, hv1, hu0]
      have ex2 : whole (x1 / 2 ^^^ sel (x0.testBit 0) 16212958658533785600) (x0 / 2 + x1 % 2 * 2 ^ 63) = xrn n (k + 1) := by rw [xrn, ← ex, xr_whole lx0]
      have ep2 : whole (p1 ^^^ s1) (p0 ^^^ s0) = accR m n (k + 1) := by
        rw [accR, ← ep, ← ex, htb, whole_sel, whole_xor lp0 (sel_lt lx0), hs1, hs0]
      obtain ⟨r1, hr1⟩ : ∃ r1, r1 = x1 / 2 ^^^ sel (x0.testBit 0) 16212958658533785600 := ⟨_, rfl⟩
      obtain ⟨r0, hr0⟩ : ∃ r0, r0 = x0 / 2 + x1 % 2 * 2 ^ 63 := ⟨_, rfl⟩
      have lr1 : r1 < 2 ^ 64 := by rw [hr1]; exact Nat.xor_lt_two_pow (by omega) (sel_lt (by decide))
      have lr0 : r0 < 2 ^ 64 := by omega
      obtain ⟨o1, ho1⟩ : ∃ o1, o1 = p1 ^^^ s1 := ⟨_, rfl⟩
      obtain ⟨o0, ho0⟩ : ∃ o0, o0 = p0 ^^^ s0 := ⟨_, rfl⟩
      have lo1 : o1 < 2 ^ 64 := by rw [ho1]; exact Nat.xor_lt_two_pow lp1 ls1
      have lo0 : o0 < 2 ^ 64 := by rw [ho0]; exact Nat.xor_lt_two_pow lp0 ls0
      have lz1 : z1 < 2 ^ 64 := by omega
      have lu0 : u0 < 2 ^ 64 := by omega
      rw [← hr1, ← hr0] at ex2 C2
      rw [← ho1, ← ho0] at ep2 C1
      have HF := Lib.hid (And.intro lr1 (And.intro lr0 (And.intro lz1 (And.intro lu0 (And.intro lo1 (And.intro lo0 (And.intro ex2 (And.intro ey2 ep2))))))))
      clear hT ex ey ep lx1 lx0 ly1 ly0 lp1 lp0 ex2 ey2 ep2 lo1 lo0 lr1 lr0 lz1 lu0 ho1 ho0 hr1 hr0 htb e7 hz1 hv1 hu0 hu1 ls1 ls0 hs1 hs0 ht hco
      go_wp2_with fail
      refine (C1.out _).mono ?_
      rintro e w2 ⟨rfl, hb2⟩
      have HT2 := Lib.hid (HT.out.next hb2)
      obtain ⟨s1, s2, s3, s4⟩ := HT2.out.hP.asks
      have HT3 := Lib.hid (HT2.out.putP o1 o0)
      have f1 := HT3.out.hX.hi
      have f2 := HT3.out.hX.lo
      unfold put2 at f1 f2
      clear hb2 HT
      go_wp2_with fail
      refine (C2.out _).mono ?_
      rintro e w4 ⟨rfl, hb4⟩
      have HT4 := Lib.hid (HT3.out.next hb4)
      obtain ⟨s1, s2, s3, s4⟩ := HT4.out.hX.asks
      have HT5 := Lib.hid (HT4.out.putX r1 r0)
      have f3 := HT5.out.hY.hi
      have f4 := HT5.out.hY.lo
      unfold put2 at f3 f4
      obtain ⟨s5, s6, s7, s8⟩ := HT4.out.hY.asks
      have HT6 := Lib.hid (HT5.out.putY z1 u0)
      clear hb4 HT2 HT3 f1 f2 f5 f6
      go_wp2
      go_roundw
      case rel => exact ⟨k + 1, r1, r0, z1, u0, o1, o0, by omega, by go_num, HT6.out, HF.out.1, HF.out.2.1, HF.out.2.2.1, HF.out.2.2.2.1, HF.out.2.2.2.2.1, HF.out.2.2.2.2.2.1, HF.out.2.2.2.2.2.2.1, HF.out.2.2.2.2.2.2.2.1, HF.out.2.2.2.2.2.2.2.2⟩
      case measure => simp [intOf]; omega
    · obtain rfl : k = 128 := by omega
      have hfin : whole p1 p0 = times128 n m := by rw [ep, accR_all HN.out.2.2.2 HN.out.2.2.1, times128_comm HN.out.2.2.2 HN.out.2.2.1]
      have f5 := hT.hP.hi
      have f6 := hT.hP.lo
      obtain ⟨s1, s2, s3, s4⟩ := hT.hR.asks
      have HT := Lib.hid hT
      have HF := Lib.hid (And.intro lp1 (And.intro lp0 hfin))
      clear hT ex ey ep lx1 lx0 ly1 ly0 lp1 lp0 hfin
      go_wp2
      exact ret_blk rfl rfl (HT.out.hR.put p1 p0) ⟨p1, p0, HF.out.1, HF.out.2.1, HF.out.2.2, rfl, below_put2 HT.out.below (by omega) _ _⟩

end Gcm
end Go.Proofs.Ytedoggejbhbebaa
