/-
  The walk of GcmHashes. Conditions: the block's numbers are sixteen bytes.
-/
import Derived.Test.YtpjobjpdfhpobaaLa
namespace Go.Proofs.Ytpjobjpdfhpobaa
namespace Gcm
open Go.ChangeShapes Go.WideShapes Go.ChangeAt Go.RowKit Go.Great Go.ChangeMaps
open Gf Aes
set_option linter.unusedVariables false
set_option maxRecDepth 100000

/-- What Hash gives, whatever comes. -/
def hashB (h a b : ByteArray) : ByteArray := if h.size = 16 then blockB (hashN (numT h) (nums a) (nums b)) else ⟨#[]⟩
theorem Hash_all (h a b : ByteArray) (w : World) (ha : a.size ≤ 1048576) (hb : b.size ≤ 1048576) :
    Calls Try.prog 16 #[.string h, .string a, .string b] w fun e w' => e = .returned (.string (hashB h a b)) ∧ Below w.heap.size w w' := by
  unfold hashB
  by_cases hh : h.size = 16
  · rw [if_pos hh]
    exact Hash_any h a b w hh (by omega) (by omega)
  · rw [if_neg hh]
    exact (Hash_none h a b w hh).mono fun e w' ⟨h1, h2⟩ => ⟨h1, by rw [h2]; exact Below.refl _ _⟩

set_option maxHeartbeats 8000000 in
theorem walk_hashes (l : List Nat) (s t : ByteArray) (w : World) (hl : l.length = 16) (hb : ∀ c ∈ l, c < 256) :
    Calls Try.prog 5 #[.agg (valsK .u8 l), .string s, .string t] w fun e w' => e = .returned (.bool true) ∧ Below w.heap.size w w' := by
  obtain ⟨PL, hPL⟩ : ∃ PL, PL = valsK .u8 l := ⟨_, rfl⟩
  have hrow0 : Wd .u8 22 w.heap.size l (w.alloc (.cells PL 22)) := by rw [hPL]; exact heap_alloc_new w _
  have HR := Lib.hid (And.intro hrow0 (below_alloc (Below.refl w.heap.size w) (.cells PL 22)))
  rw [← hPL]
  have HLB := Lib.hid (And.intro hl hb)
  clear hPL hrow0 hl hb
  go_enter Try.func5, Try.ntmps5
  go_wp2_with fail
  refine (awake_any _).mono ?_
  rintro e w1 ⟨rfl, hb1⟩
  have H1 := Lib.hid (And.intro (keepBlock HR.out.1 hb1) (below_link HR.out.2 hb1))
  clear hb1 HR
  by_cases hst : s.size ≤ 200 ∧ t.size ≤ 200
  · have g1 : ¬ (200 : Int) < (s.size : Int) := by omega
    have g2 : ¬ (200 : Int) < (t.size : Int) := by omega
    have HSZ := Lib.hid hst
    obtain ⟨K, hK⟩ : ∃ K, K = toB l := ⟨_, rfl⟩
    have hcv := row_text w1 w.heap.size l H1.out.1 HLB.out.1 HLB.out.2 16
    rw [← hK] at hcv
    have hKs : K.size = 16 := by rw [hK, toB_size]; exact HLB.out.1
    have C1 := Lib.hid (fun X => Hash_any K s t X hKs (by omega) (by omega))
    have C2 : Hid (∀ X, Calls Try.prog 17 #[.string K, .string s, .string t] X fun e w' => e = .returned (.string (blockB (hashN (numT K) (nums s) (nums t)))) ∧ Below X.heap.size X w') := Lib.hid (fun X => rhash_any K s t X hKs (by omega) (by omega))
    have C3 : Hid (∀ X, Calls Try.prog 16 #[.string t, .string ⟨#[]⟩, .string s] X fun e w' => e = .returned (.string (hashB t ⟨#[]⟩ s)) ∧ Below X.heap.size X w') := Lib.hid (fun X => Hash_all t ⟨#[]⟩ s X (by decide) (by omega))
    have C4 : Hid (∀ X, Calls Try.prog 18 #[.string t, .string s] X fun e w' => e = .returned (.string (hashB t ⟨#[]⟩ s)) ∧ Below X.heap.size X w') := Lib.hid (fun X => lhashed_any t s X (by omega))
    obtain ⟨P, hP⟩ : ∃ P, P = blockB (hashN (numT K) (nums s) (nums t)) := ⟨_, rfl⟩
    obtain ⟨Q, hQ⟩ : ∃ Q, Q = hashB t ⟨#[]⟩ s := ⟨_, rfl⟩
    rw [← hP] at C1 C2
    rw [← hQ] at C3 C4
    clear hst hK hKs hP hQ
    go_wp2_with fail
    refine (C1.out _).mono ?_
    rintro e w2 ⟨rfl, hb2⟩
    have H2 := Lib.hid (below_link H1.out.2 hb2)
    clear hb2 hcv
    go_wp2_with fail
    refine (C2.out _).mono ?_
    rintro e w3 ⟨rfl, hb3⟩
    have H3 := Lib.hid (below_link H2.out hb3)
    clear hb3
    go_wp2_with fail
    refine (C3.out _).mono ?_
    rintro e w4 ⟨rfl, hb4⟩
    have H4 := Lib.hid (below_link H3.out hb4)
    clear hb4
    go_wp2_with fail
    refine (C4.out _).mono ?_
    rintro e w5 ⟨rfl, hb5⟩
    have H5 := Lib.hid (below_link H4.out hb5)
    clear hb5
    go_wp2
    go_ret
    exact ⟨by simp, H5.out⟩
  · by_cases hs2 : s.size ≤ 200
    · have g1 : ¬ (200 : Int) < (s.size : Int) := by omega
      have g2 : (200 : Int) < (t.size : Int) := by omega
      clear hst hs2
      go_wp2_with fail
      refine (awake_any _).mono ?_
      rintro e w3 ⟨rfl, hb3⟩
      have H3 := Lib.hid (below_link H1.out.2 hb3)
      clear hb3
      go_wp2
      go_ret
      exact ⟨rfl, H3.out⟩
    · have g1 : (200 : Int) < (s.size : Int) := by omega
      clear hst hs2
      go_wp2_with fail
      refine (awake_any _).mono ?_
      rintro e w3 ⟨rfl, hb3⟩
      have H3 := Lib.hid (below_link H1.out.2 hb3)
      clear hb3
      go_wp2
      go_ret
      exact ⟨rfl, H3.out⟩

end Gcm
end Go.Proofs.Ytpjobjpdfhpobaa
