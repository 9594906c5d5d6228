/-
  Joined: Ph. Conditions: as each part says.
-/
import Derived.Test.YtedoggejbhbebaaJ34
import Derived.Test.YtedoggejbhbebaaJ37

/-
  Contract of gcm.lock.tag. Conditions: the lock's cipher is the key's; the texts are shorter than 2^30 bytes.
-/
/-
  Contracts of gcm.lock.encrypted and gcm.lock.tag. Conditions: the lock's cipher is the key's; the texts are shorter than 2^30 bytes.
-/
namespace Go.Proofs.Ytedoggejbhbebaa
namespace Gcm
open Go.ChangeShapes Go.WideShapes Go.ChangeAt Go.RowKit Go.Great Go.ChangeMaps
open Gf Aes
set_option linter.unusedVariables false
set_option maxRecDepth 100000

/-- The cipher of a key on rows of bytes. -/
def encL (n : Nat) (key : ByteArray) (l : List Nat) : List Nat := nums (doneB n key (toB l))
theorem encL_length (n : Nat) (key : ByteArray) (l : List Nat) : (encL n key l).length = 16 := by unfold encL; rw [nums_length, doneB_size]
theorem encL_small (n : Nat) (key : ByteArray) (l : List Nat) : Small (encL n key l) := nums_lt _
theorem encL_ok (n : Nat) (key : ByteArray) : ∀ b, b.length = 16 → Small b → (encL n key b).length = 16 ∧ Small (encL n key b) := fun b _ _ => ⟨encL_length n key b, encL_small n key b⟩
/-- On numbers. -/
def encN (n : Nat) (key : ByteArray) (v : Nat) : Nat := big (encL n key (bytes 16 v))
theorem encN_lt (n : Nat) (key : ByteArray) (v : Nat) : encN n key v < 2 ^ 128 := (encL_small n key _).big (encL_length n key _)

/-- A lock in memory. -/
abbrev L5 (g p a b c d : Nat) (w : World) : Prop := w.heap[g]? = some (.cells #[.pointer (some ⟨p, 0, none⟩), .int .u64 (a : Nat), .int .u64 (b : Nat), .int .u64 (c : Nat), .int .u64 (d : Nat)] 84 (0, 0))
theorem L5.cells {g p a b c d : Nat} {w : World} (h : L5 g p a b c d w) : w.cell? ⟨g, 0, none⟩ = some (.pointer (some ⟨p, 0, none⟩)) ∧ w.cell? ⟨g, 1, none⟩ = some (.int .u64 (a : Nat)) ∧ w.cell? ⟨g, 2, none⟩ = some (.int .u64 (b : Nat)) ∧ w.cell? ⟨g, 3, none⟩ = some (.int .u64 (c : Nat)) ∧ w.cell? ⟨g, 4, none⟩ = some (.int .u64 (d : Nat)) := by
  refine ⟨?_, ?_, ?_, ?_, ?_⟩ <;> (rw [cell_of_row _ _ _ _ _ _ h]; rfl)
theorem L5.frozen {g p a b c d : Nat} {w : World} (h : L5 g p a b c d w) (j : Nat) : w.frozen? ⟨g, j, none⟩ = false := frozen_of_row _ _ _ _ _ h

/-- The lock, the block that came in, the result's; the cipher. -/
structure En (w : World) (p n : Nat) (key : ByteArray) (a b c d x1 x0 : Nat) (X : World) : Prop where
  hL : L5 w.heap.size p a b c d X
  hX : B2 (w.heap.size + 1) x1 x0 X
  hR : B2 (w.heap.size + 1 + 1) 0 0 X
  hK : Key p n key X
  below : Below w.heap.size w X
theorem En.next {w X Y : World} {p n : Nat} {key : ByteArray} {a b c d x1 x0 : Nat} (h : En w p n key a b c d x1 x0 X) (hb : Below X.heap.size X Y) : En w p n key a b c d x1 x0 Y :=
  ⟨keepBlock h.hL hb, keepBlock h.hX hb, keepBlock h.hR hb, h.hK.next hb, below_link h.below hb⟩
theorem En.drew {w X : World} {p n : Nat} {key : ByteArray} {a b c d x1 x0 : Nat} (h : En w p n key a b c d x1 x0 X) : En w p n key a b c d x1 x0 X.drew :=
  ⟨h.hL, h.hX, h.hR, h.hK.next ((Below.refl _ _).drew), h.below.drew⟩
theorem En.cells {w X : World} {p n : Nat} {key : ByteArray} {a b c d x1 x0 : Nat} (h : En w p n key a b c d x1 x0 X) : X.cell? ⟨w.heap.size, 0, none⟩ = some (.pointer (some ⟨p, 0, none⟩)) ∧ X.cell? ⟨w.heap.size + 1, 0, none⟩ = some (.int .u64 (x1 : Nat)) ∧ X.cell? ⟨w.heap.size + 1, 1, none⟩ = some (.int .u64 (x0 : Nat)) :=
  ⟨h.hL.cells.1, h.hX.hi, h.hX.lo⟩
theorem En.stored {w X : World} {p n : Nat} {key : ByteArray} {a b c d x1 x0 : Nat} (h : En w p n key a b c d x1 x0 X) (x y : Nat) : (put2 X (w.heap.size + 1 + 1) x y).cell? ⟨w.heap.size, 0, none⟩ = some (.pointer (some ⟨p, 0, none⟩)) ∧ (put2 X (w.heap.size + 1 + 1) x y).cell? ⟨w.heap.size + 1, 0, none⟩ = some (.int .u64 (x1 : Nat)) ∧ (put2 X (w.heap.size + 1 + 1) x y).cell? ⟨w.heap.size + 1, 1, none⟩ = some (.int .u64 (x0 : Nat)) := by
  have e : ∀ g j, g ≠ w.heap.size + 1 + 1 → (put2 X (w.heap.size + 1 + 1) x y).cell? ⟨g, j, none⟩ = X.cell? ⟨g, j, none⟩ := fun g j hg => by
    unfold put2
    rw [World.cell?_setCell_far _ _ _ _ (by simp only []; omega), World.cell?_setCell_far _ _ _ _ (by simp only []; omega)]
  exact ⟨by rw [e _ _ (by omega)]; exact h.hL.cells.1, by rw [e _ _ (by omega)]; exact h.hX.hi, by rw [e _ _ (by omega)]; exact h.hX.lo⟩

set_option maxHeartbeats 8000000 in
theorem encrypted_any (p n : Nat) (key : ByteArray) (a b c d x1 x0 : Nat) (w : World) (hn : n = 4 ∨ n = 8) (hK : Key p n key w) (l1 : x1 < 2 ^ 64) (l0 : x0 < 2 ^ 64) :
    Calls Try.prog 61 #[.agg #[.pointer (some ⟨p, 0, none⟩), .int .u64 (a : Nat), .int .u64 (b : Nat), .int .u64 (c : Nat), .int .u64 (d : Nat)], .agg #[.int .u64 (x1 : Nat), .int .u64 (x0 : Nat)]] w fun e w' => ∃ h l : Nat, h < 2 ^ 64 ∧ l < 2 ^ 64 ∧ whole h l = encN n key (whole x1 x0) ∧ e = .returned (.agg #[.int .u64 (h : Nat), .int .u64 (l : Nat)]) ∧ Below w.heap.size w w' := by
  have hs : En w p n key a b c d x1 x0 (((w.alloc (.cells #[.pointer (some ⟨p, 0, none⟩), .int .u64 (a : Nat), .int .u64 (b : Nat), .int .u64 (c : Nat), .int .u64 (d : Nat)] 84)).alloc (.cells #[.int .u64 (x1 : Nat), .int .u64 (x0 : Nat)] 82)).alloc (.cells #[.int .u64 0, .int .u64 0] 82)) :=
    ⟨keepAlloc (keepAlloc (heap_alloc_new w _) _) _, keepAlloc (second_new w _ _) _, third_new w _ _ _, hK.next (below_alloc (below_alloc (below_alloc (Below.refl _ _) _) _) _), below_alloc (below_alloc (below_alloc (Below.refl _ _) _) _) _⟩
  have HS := Lib.hid hs
  obtain ⟨B, hB⟩ : ∃ B, B = blockB (whole x1 x0) := ⟨_, rfl⟩
  have C1 := Lib.hid (fun X => text_blk x1 x0 X l1 l0)
  rw [← hB] at C1
  obtain ⟨D, hD⟩ : ∃ D, D = doneB n key B := ⟨_, rfl⟩
  have C2 := Lib.hid (fun X (h : Key p n key X) => do_key p n key B X hn (by rw [hB]; exact blockB_size _) h)
  rw [← hD] at C2
  have hfin : big (padL (nums D)) = encN n key (whole x1 x0) := by
    rw [padL_full (by rw [nums_length, hD, doneB_size]), hD, hB]; rfl
  have HF := Lib.hid hfin
  clear hs hB hD hfin hK l1 l0 hn
  go_enter Try.func61, Try.ntmps61
  go_wp2
  generalize ((w.alloc (Obj.cells #[.pointer (some ⟨p, 0, none⟩), .int .u64 (a : Nat), .int .u64 (b : Nat), .int .u64 (c : Nat), .int .u64 (d : Nat)] 84)).alloc (Obj.cells #[.int .u64 (x1 : Nat), .int .u64 (x0 : Nat)] 82)).alloc (Obj.cells #[.int .u64 0, .int .u64 0] 82) = wq at *
  go_region_held3 (fun X => X.cell? ⟨w.heap.size, 0, none⟩ = some (.pointer (some ⟨p, 0, none⟩)) ∧ X.cell? ⟨w.heap.size + 1, 0, none⟩ = some (.int .u64 (x1 : Nat)) ∧ X.cell? ⟨w.heap.size + 1, 1, none⟩ = some (.int .u64 (x0 : Nat))) (first | (with_reducible exact HS.out.drew.cells) | (with_reducible exact HQ3.out.cells) | (with_reducible exact HQ4.out.cells) | (with_reducible exact HQ5.out.cells) | (exact HQ5.out.stored z1 z0)) (first
    | (go_at_call 65; with_reducible refine (C1.out _).mono ?_; rintro e w3 ⟨rfl, hb3⟩; have HQ3 := Lib.hid (HS.out.drew.next hb3); clear hb3)
    | (go_at_call 67; with_reducible refine (C2.out _ HQ3.out.hK).mono ?_; rintro e w4 ⟨rfl, hb4⟩; have HQ4 := Lib.hid (HQ3.out.next hb4); clear hb4)
    | (go_at_call 62; with_reducible refine (blockOf_any D _).mono ?_; rintro e w5 ⟨z1, z0, lz1, lz0, ez, rfl, hb5⟩; have HQ5 := Lib.hid (HQ4.out.next hb5); have HZ := Lib.hid (And.intro lz1 (And.intro lz0 ez)); obtain ⟨s1, s2, s3, s4⟩ := HQ5.out.hR.asks; clear hb5 lz1 lz0 ez))
  clear s1 s2 s3 s4
  go_wp2
  exact ret_blk rfl rfl (HQ5.out.hR.put z1 z0) ⟨z1, z0, HZ.out.1, HZ.out.2.1, by rw [HZ.out.2.2, HF.out], rfl, below_put2 HQ5.out.below (by omega) _ _⟩

end Gcm
end Go.Proofs.Ytedoggejbhbebaa

namespace Go.Proofs.Ytedoggejbhbebaa
namespace Gcm
open Go.ChangeShapes Go.WideShapes Go.ChangeAt Go.RowKit Go.Great Go.ChangeMaps
open Gf Aes
set_option linter.unusedVariables false
set_option maxRecDepth 100000

/-- The lock that came in, and its cipher. -/
structure Lk (w : World) (p n : Nat) (key : ByteArray) (a b c d : Nat) (X : World) : Prop where
  hL : L5 w.heap.size p a b c d X
  hK : Key p n key X
  below : Below w.heap.size w X
theorem Lk.next {w X Y : World} {p n : Nat} {key : ByteArray} {a b c d : Nat} (h : Lk w p n key a b c d X) (hb : Below X.heap.size X Y) : Lk w p n key a b c d Y :=
  ⟨keepBlock h.hL hb, h.hK.next hb, below_link h.below hb⟩
theorem Lk.drew {w X : World} {p n : Nat} {key : ByteArray} {a b c d : Nat} (h : Lk w p n key a b c d X) : Lk w p n key a b c d X.drew :=
  ⟨h.hL, h.hK.next ((Below.refl _ _).drew), h.below.drew⟩
theorem Lk.start (w : World) (p n : Nat) (key : ByteArray) (a b c d : Nat) (hK : Key p n key w) : Lk w p n key a b c d (w.alloc (.cells #[.pointer (some ⟨p, 0, none⟩), .int .u64 (a : Nat), .int .u64 (b : Nat), .int .u64 (c : Nat), .int .u64 (d : Nat)] 84)) :=
  ⟨heap_alloc_new w _, hK.next (below_alloc (Below.refl _ _) _), below_alloc (Below.refl _ _) _⟩

set_option maxHeartbeats 8000000 in
theorem tag_any (p n : Nat) (key : ByteArray) (a b c d : Nat) (s t : ByteArray) (w : World) (hn : n = 4 ∨ n = 8) (hK : Key p n key w) (la : a < 2 ^ 64) (lb : b < 2 ^ 64) (lc : c < 2 ^ 64) (ld : d < 2 ^ 64) (hs : s.size ≤ 1073741824) (ht : t.size ≤ 1073741824) :
    Calls Try.prog 54 #[.agg #[.pointer (some ⟨p, 0, none⟩), .int .u64 (a : Nat), .int .u64 (b : Nat), .int .u64 (c : Nat), .int .u64 (d : Nat)], .string s, .string t] w fun e w' => e = .returned (.string (blockB (hashN (whole a b) (nums s) (nums t) ^^^ encN n key (whole c d)))) ∧ Below w.heap.size w w' := by
  have HS := Lib.hid (Lk.start w p n key a b c d hK)
  have HL := Lib.hid (And.intro la (And.intro lb (And.intro lc ld)))
  have C1 := Lib.hid (fun X => hash_any a b s t X la lb hs ht)
  have C2 := Lib.hid (fun X (h : Key p n key X) => encrypted_any p n key a b c d c d X hn h lc ld)
  obtain ⟨R, hR⟩ : ∃ R, R = hashN (whole a b) (nums s) (nums t) ^^^ encN n key (whole c d) := ⟨_, rfl⟩
  rw [← hR]
  have HR := Lib.hid hR
  clear hK la lb lc ld hs ht hn hR
  go_enter Try.func54, Try.ntmps54
  go_wp2
  generalize (w.alloc (Obj.cells #[.pointer (some ⟨p, 0, none⟩), .int .u64 (a : Nat), .int .u64 (b : Nat), .int .u64 (c : Nat), .int .u64 (d : Nat)] 84)) = wq at *
  go_region_held3 (fun X => X.cell? ⟨w.heap.size, 0, none⟩ = some (.pointer (some ⟨p, 0, none⟩)) ∧ X.cell? ⟨w.heap.size, 1, none⟩ = some (.int .u64 (a : Nat)) ∧ X.cell? ⟨w.heap.size, 2, none⟩ = some (.int .u64 (b : Nat)) ∧ X.cell? ⟨w.heap.size, 3, none⟩ = some (.int .u64 (c : Nat)) ∧ X.cell? ⟨w.heap.size, 4, none⟩ = some (.int .u64 (d : Nat))) (first | (with_reducible exact HS.out.drew.hL.cells) | (with_reducible exact HQ3.out.hL.cells) | (with_reducible exact HQ4.out.hL.cells) | (with_reducible exact HQ5.out.hL.cells) | (with_reducible exact HQ6.out.hL.cells)) (first
    | (go_at_call 63; with_reducible refine (C1.out _).mono ?_; rintro e w3 ⟨x1, x0, lx1, lx0, ex, rfl, hb3⟩; have HQ3 := Lib.hid (HS.out.drew.next hb3); have HX := Lib.hid (And.intro lx1 (And.intro lx0 ex)); clear hb3 lx1 lx0 ex)
    | (go_at_call 61; with_reducible refine (C2.out _ HQ3.out.hK).mono ?_; rintro e w4 ⟨y1, y0, ly1, ly0, ey, rfl, hb4⟩; have HQ4 := Lib.hid (HQ3.out.next hb4); have HY := Lib.hid (And.intro ly1 (And.intro ly0 ey)); clear hb4 ly1 ly0 ey)
    | (go_at_call 64; with_reducible refine (plus_blk x1 x0 y1 y0 _ HX.out.1 HX.out.2.1 HY.out.1 HY.out.2.1).mono ?_; rintro e w5 ⟨z1, z0, lz1, lz0, ez, rfl, hb5⟩; have HQ5 := Lib.hid (HQ4.out.next hb5); have HZ := Lib.hid (And.intro lz1 (And.intro lz0 ez)); clear hb5 lz1 lz0 ez)
    | (go_at_call 65; with_reducible refine (text_blk z1 z0 _ HZ.out.1 HZ.out.2.1).mono ?_; rintro e w6 ⟨rfl, hb6⟩; have HQ6 := Lib.hid (HQ5.out.next hb6); clear hb6))
  go_wp2
  go_ret
  exact ⟨by rw [HZ.out.2.2, HX.out.2.2, HY.out.2.2, ← HR.out]; rfl, HQ6.out.below⟩

end Gcm
end Go.Proofs.Ytedoggejbhbebaa
