/- The law NoteReads. -/
import Derived.Test.YtakbbabmbhencaaDoorNoteRP
import Derived.Test.YtakbbabmbhencaaDoorNoteRN
import Derived.Test.YtakbbabmbhencaaDoorNoteE
namespace Go.Proofs.YtakbbabmbhencaaDoor
open Go.RowKit
set_option linter.unusedVariables false
set_option linter.unusedSimpArgs false

theorem parsed_one {l : Bs} {e : Ending} (h : ParsedN l e) : ∃ k c x y n : Int, e = .returned (.tuple #[.agg #[.int .i64 k, .int .i64 c, .int .i64 x, .int .i64 y], .int .i64 n]) ∧ ∀ e', ParsedN l e' → e' = .returned (.tuple #[.agg #[.int .i64 k, .int .i64 c, .int .i64 x, .int .i64 y], .int .i64 n]) := by
  rcases h with ⟨b, hb, rfl⟩ | ⟨hno, rfl⟩
  · refine ⟨b.t, b.w, b.o, b.a, 0, rfl, fun e' h' => ?_⟩
    rcases h' with ⟨b', hb', rfl⟩ | ⟨hno, _⟩
    · obtain rfl := hb'.inj hb; rfl
    · exact absurd hb (hno b)
  · refine ⟨0, 0, 0, 0, 4, rfl, fun e' h' => ?_⟩
    rcases h' with ⟨b', hb', _⟩ | ⟨_, rfl⟩
    · exact absurd hb' (hno b')
    · rfl

set_option maxHeartbeats 1000000 in
set_option maxRecDepth 100000 in
theorem walk_noteReads (s : ByteArray) (w : World) (hs : s.size ≤ maxLen) (h : LiesN w) : Calls Tryd.prog 4 #[.string s] w fun e w' => e = .returned (.bool true) ∧ Only Nil w w' := by
  have HL := Lib.hid h
  have hmax : (s.size : Int) ≤ 9223372036854775807 := by unfold maxLen at hs; omega
  by_cases hbig : (100 : Int) < s.size
  · clear hs h
    go_enter Tryd.func4, Tryd.ntmps4
    go_wp2_with fail
    refine (awake_any _).mono ?_
    rintro e w7 ⟨rfl, hO⟩
    have HO7 := Lib.hid hO
    clear hO
    go_wp2
    go_ret
    exact ⟨rfl, HO7.out⟩
  · have HP := Lib.hid (parse_note s w (by omega) h)
    have HR := Lib.hid (fun W => parse_ref s W (by omega))
    clear hs h
    go_enter Tryd.func4, Tryd.ntmps4
    go_wp2_with fail
    refine HP.out.mono ?_
    rintro e w2 ⟨hpa, hO⟩
    obtain ⟨k, c, x, y, n, rfl, hone⟩ := parsed_one hpa
    have HO2 := Lib.hid hO
    have HONE := Lib.hid hone
    clear hO HP hone hpa
    go_wp2_with fail
    have HO3 := Lib.hid (HO2.out.alloc (.cells #[.int .i64 k, .int .i64 c, .int .i64 x, .int .i64 y] 23))
    have HA3 := Lib.hid (Row.new w2 23 #[.int .i64 k, .int .i64 c, .int .i64 x, .int .i64 y])
    generalize w2.alloc (.cells #[.int .i64 k, .int .i64 c, .int .i64 x, .int .i64 y] 23) = w3 at *
    generalize w2.heap.size = g at *
    clear HO2
    refine (HR.out _).mono ?_
    rintro e w4 ⟨hpr, hO⟩
    obtain rfl := HONE.out e hpr
    have HO4 := Lib.hid (HO3.out.trans hO)
    have HA4 := Lib.hid (HA3.out.only hO id)
    clear hO HR hpr HA3
    have c0 := fun ob => (HA4.out.alloc ob).cell_ (i := 0) rfl
    have c1 := fun ob => (HA4.out.alloc ob).cell_ (i := 1) rfl
    have c2 := fun ob => (HA4.out.alloc ob).cell_ (i := 2) rfl
    have c3 := fun ob => (HA4.out.alloc ob).cell_ (i := 3) rfl
    have hq := fun W => (eql_note k c x y k c x y W).trans (by rw [sameN_iff.2 ⟨rfl, rfl, rfl, rfl⟩])
    have HNN := Lib.hid (number_note s)
    have HRN := Lib.hid (number_ref s)
    generalize numI opWs s.data.toList = r at *
    have hrr : (r == r) = true := by simp
    go_wp2_with fail
    refine (HNN.out _).mono ?_
    rintro e w5 ⟨rfl, hO⟩
    have HO5 := Lib.hid ((HO4.out.alloc _).trans hO)
    clear hO c0 c1 c2 c3 hq
    go_wp2_with fail
    refine (HRN.out _).mono ?_
    rintro e w6 ⟨rfl, hO⟩
    have HO6 := Lib.hid (HO5.out.trans hO)
    clear hO
    go_wp2_with fail
    refine (awake_any _).mono ?_
    rintro e w7 ⟨rfl, hO⟩
    have HO7 := Lib.hid (HO6.out.trans hO)
    clear hO
    go_wp2
    go_ret
    exact ⟨rfl, HO7.out⟩
end Go.Proofs.YtakbbabmbhencaaDoor
