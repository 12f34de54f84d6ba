/- Contract of (*Memory).Do. -/
import Derived.Test.YtjdgniconbocnaaCells
namespace Go.Proofs.Ytjdgniconbocnaa
open Go.RowKit

/-- A cell that isn't there, and a nil memory: nothing is done. -/
theorem do_out (b : Nat) (A : Option Addr) (n cap : Nat) (k c x y o : Int) (w : World) (h : Row w b 49 #[.slice A n cap]) (hc : c < 0 ∨ (n : Int) ≤ c) :
    Calls Try.prog 27 #[.pointer (some ⟨b, 0, none⟩), .agg #[.int .i64 k, .int .i64 c, .int .u32 x, .int .u32 y, .int .u32 o]] w fun e w' =>
      e = .returned (.tuple #[.agg #[.int .i64 0, .int .i64 0, .int .u32 0, .int .u32 0, .int .u32 0], .bool false]) ∧ Only Nil w w' := by
  by_cases h0 : c < 0
  · clear h hc
    go_enter Try.func27, Try.ntmps27
    go_wp2
    go_quiet (fail)
    go_wp2
    go_returns
    exact ⟨rfl, by (repeat' (first | (with_reducible exact Only.refl _ _) | (with_reducible assumption) | (with_reducible refine Only.setCell ?_ ?_ _) | (with_reducible refine Only.drewN ?_ _) | (with_reducible refine Only.drew ?_) | (with_reducible refine Only.alloc ?_ _) | (left; simp; done) | (left; simp; omega) | (right; rfl)))⟩
  · have h1 : (n : Int) ≤ c := by omega
    have h2 : ∀ o1 o2, Row ((w.alloc o1).alloc o2) b 49 #[.slice A n cap] := fun o1 o2 => (h.alloc o1).alloc o2
    have H := Lib.hid h2
    clear h hc h2
    go_enter Try.func27, Try.ntmps27
    go_wp2
    go_quiet ((go_at_call 35; exact Calls.quiet_of_same (len_any b A n cap _ (H.out _ _))))
    go_wp2
    go_returns
    exact ⟨rfl, by (repeat' (first | (with_reducible exact Only.refl _ _) | (with_reducible assumption) | (with_reducible refine Only.setCell ?_ ?_ _) | (with_reducible refine Only.drewN ?_ _) | (with_reducible refine Only.drew ?_) | (with_reducible refine Only.alloc ?_ _) | (left; simp; done) | (left; simp; omega) | (right; rfl)))⟩

theorem do_nil (k c x y o : Int) (w : World) :
    Calls Try.prog 27 #[.pointer none, .agg #[.int .i64 k, .int .i64 c, .int .u32 x, .int .u32 y, .int .u32 o]] w fun e w' =>
      e = .returned (.tuple #[.agg #[.int .i64 0, .int .i64 0, .int .u32 0, .int .u32 0, .int .u32 0], .bool false]) ∧ Only Nil w w' := by
  by_cases h0 : c < 0
  · go_enter Try.func27, Try.ntmps27
    go_wp2
    go_quiet (fail)
    go_wp2
    go_returns
    exact ⟨rfl, by (repeat' (first | (with_reducible exact Only.refl _ _) | (with_reducible assumption) | (with_reducible refine Only.setCell ?_ ?_ _) | (with_reducible refine Only.drewN ?_ _) | (with_reducible refine Only.drew ?_) | (with_reducible refine Only.alloc ?_ _) | (left; simp; done) | (left; simp; omega) | (right; rfl)))⟩
  · have h1 : (0 : Int) ≤ c := by omega
    go_enter Try.func27, Try.ntmps27
    go_wp2
    go_quiet ((go_at_call 35; exact Calls.quiet_of_same (len_nil _)))
    go_wp2
    go_returns
    exact ⟨rfl, by (repeat' (first | (with_reducible exact Only.refl _ _) | (with_reducible assumption) | (with_reducible refine Only.setCell ?_ ?_ _) | (with_reducible refine Only.drewN ?_ _) | (with_reducible refine Only.drew ?_) | (with_reducible refine Only.alloc ?_ _) | (left; simp; done) | (left; simp; omega) | (right; rfl)))⟩
end Go.Proofs.Ytjdgniconbocnaa
