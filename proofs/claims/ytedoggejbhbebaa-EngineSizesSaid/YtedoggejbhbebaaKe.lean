/-
  Contracts of an ideal core's entries, sign, seal, holds and open. Conditions: the core lies in memory; fewer than a thousand entries; texts of at most 2^30 bytes.
-/
import Derived.Test.YtedoggejbhbebaaKd
namespace Go.Proofs.Ytedoggejbhbebaa
namespace Eng
open Go.ChangeShapes Go.WideShapes Go.ChangeAt Go.RowKit Go.Great
open Gf Aes Gcm
set_option linter.unusedVariables false
set_option maxRecDepth 100000

theorem text_iff (a b : ByteArray) : a.toList = b.toList ↔ a = b := by
  have := text_beq a b
  by_cases h : a = b <;> simp_all
theorem eql_run (x y : Ent) (X : World) : (binOp .eql 157 (.agg #[.int .i64 x.variant, .string x.key, .string x.nonce, .string x.beside, .string x.text]) (.agg #[.int .i64 y.variant, .string y.key, .string y.nonce, .string y.beside, .string y.text])).run Try.prog X = .ok (.bool (decide (x = y))) X := by
  have hf : Try.prog.fieldsOf 157 = (match Try.prog.underlying 157 with | some (.struct fs) => fs | _ => #[]) := rfl
  rw [Try.underlying157] at hf
  have hu : Try.prog.underlying 157 = some (.struct (Try.prog.fieldsOf 157)) := by rw [hf]; exact Try.underlying157
  rw [run_eql_struct, run_equalIn_struct X 9999 157 _ _ hu (by kernel_rfl), hf]
  have e9 : Try.prog.underlying 9 = some .string := Try.underlying9
  have e3 : Try.prog.underlying 3 = some (.int .i64) := Try.underlying3
  simp [Op.eqFields, go_sem, text_iff]
  obtain ⟨a, b, c, d, f⟩ := x
  obtain ⟨a', b', c', d', f'⟩ := y
  simp only [Ent.mk.injEq]
  by_cases h1 : a = a' <;> by_cases h2 : b = b' <;> by_cases h3 : c = c' <;> by_cases h4 : d = d' <;> by_cases h5 : f = f' <;> simp [h1, h2, h3, h4, h5]
theorem neq_run (x y : Ent) (X : World) : (binOp .neq 157 (.agg #[.int .i64 x.variant, .string x.key, .string x.nonce, .string x.beside, .string x.text]) (.agg #[.int .i64 y.variant, .string y.key, .string y.nonce, .string y.beside, .string y.text])).run Try.prog X = .ok (.bool (!decide (x = y))) X := by
  have h := eql_run x y X
  rw [run_eql_struct] at h
  rw [run_neq_struct]
  revert h
  cases (Op.equalIn 10000 157 (.agg #[.int .i64 x.variant, .string x.key, .string x.nonce, .string x.beside, .string x.text]) (.agg #[.int .i64 y.variant, .string y.key, .string y.nonce, .string y.beside, .string y.text])).run Try.prog X with
  | ok b w => intro h; simp only [Result.andThen_ok, Result.ok.injEq, Value.bool.injEq] at h ⊢; exact ⟨by rw [h.1], h.2⟩
  | halt e w => intro h; simp [Result.andThen] at h

theorem entries_any (c : Nat) (v : Value) (L : List Ent) (w : World) (h : Cor w c v L) :
    Calls Try.prog 111 #[.pointer (some ⟨c, 0, none⟩)] w fun e w' => e = .returned (.int .i64 (L.length : Nat)) ∧ w' = w := by
  obtain ⟨A, cap, hv⟩ := h.slice
  have c0 := h.cell
  subst hv
  clear h
  go_enter Try.func111, Try.ntmps111
  go_wp2
  go_ret
  exact ⟨rfl, rfl⟩

set_option maxHeartbeats 1000000 in
theorem sign_any (c : Nat) (v : Value) (L : List Ent) (var : Int) (key text : ByteArray) (w : World) (h : Cor w c v L) (hfew : L.length ≤ 1000) :
    Calls Try.prog 115 #[.pointer (some ⟨c, 0, none⟩), .int .i64 var, .string key, .string text] w fun e w' => e = .returned (.string (freshTag (L.length + 1) var)) ∧ After w c v (L ++ [⟨var, key, ⟨#[]⟩, ⟨#[]⟩, text⟩]) w' := by
  have H := Lib.hid (add_any c v L ⟨var, key, ⟨#[]⟩, ⟨#[]⟩, text⟩ w h hfew)
  obtain ⟨m, hm⟩ : ∃ m, m = L.length + 1 := ⟨_, rfl⟩
  have HF : ∀ w, Calls Try.prog 117 #[.int .u64 (m : Nat), .int .i64 (sizeOf var)] w fun e w' => e = .returned (.string (freshTag m var)) ∧ Below w.heap.size w w' := by
    intro w
    have hs := sizeOf_le var
    have := fresh_any m (sizeOf var).toNat w (by omega) (by omega)
    rwa [show (((sizeOf var).toNat : Nat) : Int) = sizeOf var from Int.toNat_of_nonneg hs.1] at this
  have HF := Lib.hid HF
  have HS := Lib.hid (psize var)
  rw [← hm] at H ⊢
  clear h hm hfew
  go_enter Try.func115, Try.ntmps115
  go_wp2_with fail
  refine H.out.mono ?_
  rintro e w1 ⟨rfl, ha⟩
  have HA := Lib.hid ha; clear ha
  go_wp2_with fail
  refine (HS.out _).mono ?_
  rintro e w2 ⟨rfl, hw⟩
  rw [hw]
  clear hw
  go_wp2_with fail
  refine (HF.out _).mono ?_
  rintro e w3 ⟨rfl, hb⟩
  have HA2 := Lib.hid (HA.out.next hb); clear hb
  go_wp2
  go_ret
  exact ⟨rfl, HA2.out⟩

set_option maxHeartbeats 1000000 in
theorem seal_any (c : Nat) (v : Value) (L : List Ent) (var : Int) (key nonce beside text : ByteArray) (w : World) (h : Cor w c v L) (hfew : L.length ≤ 1000) (ht : text.size ≤ 1073741824) :
    Calls Try.prog 114 #[.pointer (some ⟨c, 0, none⟩), .int .i64 var, .string key, .string nonce, .string beside, .string text] w fun e w' => e = .returned (.tuple #[.string (toE (freshL (L.length + 1) text.size)), .string (freshTag (L.length + 1) var), .int .i64 0]) ∧ After w c v (L ++ [⟨var, key, nonce, beside, text⟩]) w' := by
  have H := Lib.hid (add_any c v L ⟨var, key, nonce, beside, text⟩ w h hfew)
  obtain ⟨m, hm⟩ : ∃ m, m = L.length + 1 := ⟨_, rfl⟩
  have HF : ∀ w, Calls Try.prog 117 #[.int .u64 (m : Nat), .int .i64 (sizeOf var)] w fun e w' => e = .returned (.string (freshTag m var)) ∧ Below w.heap.size w w' := by
    intro w
    have hs := sizeOf_le var
    have := fresh_any m (sizeOf var).toNat w (by omega) (by omega)
    rwa [show (((sizeOf var).toNat : Nat) : Int) = sizeOf var from Int.toNat_of_nonneg hs.1] at this
  have HF := Lib.hid HF
  have HT := Lib.hid (fun w => fresh_any m text.size w (by omega) ht)
  have HS := Lib.hid (psize var)
  rw [← hm] at H ⊢
  obtain ⟨T, hT⟩ : ∃ T, T = toE (freshL m text.size) := ⟨_, rfl⟩
  rw [← hT] at HT ⊢
  clear h hm hfew ht hT
  go_enter Try.func114, Try.ntmps114
  go_wp2_with fail
  refine H.out.mono ?_
  rintro e w1 ⟨rfl, ha⟩
  have HA := Lib.hid ha; clear ha
  go_wp2_with fail
  refine (HT.out _).mono ?_
  rintro e w2 ⟨rfl, hb⟩
  have HA1 := Lib.hid (HA.out.next hb); clear hb
  go_wp2_with fail
  refine (HS.out _).mono ?_
  rintro e w2 ⟨rfl, hw⟩
  rw [hw]
  clear hw
  go_wp2_with fail
  refine (HF.out _).mono ?_
  rintro e w3 ⟨rfl, hb⟩
  have HA2 := Lib.hid (HA1.out.next hb); clear hb
  go_wp2
  exact bodyPost_ret (results_tmp3 rfl _ _ _) rfl ⟨rfl, HA2.out⟩

set_option maxHeartbeats 1000000 in
theorem holds_any (c : Nat) (v : Value) (L : List Ent) (var : Int) (key text tag : ByteArray) (w : World) (h : Cor w c v L) (hfew : L.length ≤ 1000) (r : Bool) (hr : r = decide (hit L tag = some ⟨var, key, ⟨#[]⟩, ⟨#[]⟩, text⟩)) :
    Calls Try.prog 112 #[.pointer (some ⟨c, 0, none⟩), .int .i64 var, .string key, .string text, .string tag] w fun e w' => e = .returned (.bool r) ∧ Below w.heap.size w w' := by
  rcases hit_cases L tag with ⟨h1, h2⟩ | ⟨n, m, x, h1, h2, h3, h4⟩
  · have H := Lib.hid (tagged_out c v L tag w h hfew h1)
    unfold noEnt at H
    have hr0 : r = false := by rw [hr, h2]; rfl
    subst hr0
    clear h1 h2 hr h
    go_enter Try.func112, Try.ntmps112
    go_wp2_with fail
    refine H.out.mono ?_
    rintro e w1 ⟨rfl, hb⟩
    have HB := Lib.hid hb; clear hb
    go_wp2
    go_ret
    exact ⟨rfl, HB.out.alloc HB.out.size _⟩
  · by_cases ht : tag = freshTag m x.variant
    · have H := Lib.hid (tagged_in c v L tag w h hfew n m x h1 h2 h3 true (by simp [ht]))
      rw [if_pos ht] at h4
      have hr2 : r = decide (x = ⟨var, key, ⟨#[]⟩, ⟨#[]⟩, text⟩) := by rw [hr, h4]; simp
      have E := fun X => eql_run x ⟨var, key, ⟨#[]⟩, ⟨#[]⟩, text⟩ X
      rw [← hr2] at E
      clear h1 h2 h3 h4 hr hr2 h ht
      go_enter Try.func112, Try.ntmps112
      go_wp2_with fail
      refine H.out.mono ?_
      rintro e w1 ⟨rfl, hb⟩
      have HB := Lib.hid hb; clear hb
      go_wp2
      go_ret
      exact ⟨rfl, HB.out.alloc HB.out.size _⟩
    · have H := Lib.hid (tagged_in c v L tag w h hfew n m x h1 h2 h3 false (by simp [ht]))
      rw [if_neg ht] at h4
      have hr0 : r = false := by rw [hr, h4]; rfl
      subst hr0
      clear h1 h2 h3 h4 hr h ht
      go_enter Try.func112, Try.ntmps112
      go_wp2_with fail
      refine H.out.mono ?_
      rintro e w1 ⟨rfl, hb⟩
      have HB := Lib.hid hb; clear hb
      go_wp2
      go_ret
      exact ⟨rfl, HB.out.alloc HB.out.size _⟩
end Eng
end Go.Proofs.Ytedoggejbhbebaa
