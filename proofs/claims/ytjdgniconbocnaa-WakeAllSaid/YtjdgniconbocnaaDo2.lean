/- Contract of (*Memory).Do at a cell that is there. -/
import Derived.Test.YtjdgniconbocnaaDo
namespace Go.Proofs.Ytjdgniconbocnaa
open Go.RowKit

theorem do_in (b g n cap i : Nat) (cur : Array Value) (k x y o v : Int) (w : World) (h : Row w b 49 #[.slice (some ⟨g, 0, none⟩) n cap]) (hg : Row w g 31 cur)
    (hi : i < n) (hv : cur[i]? = some (.int .u32 v)) (hk : isKind k = true) :
    Calls Try.prog 27 #[.pointer (some ⟨b, 0, none⟩), .agg #[.int .i64 k, .int .i64 i, .int .u32 x, .int .u32 y, .int .u32 o]] w fun e w' =>
      e = .returned (.tuple #[.agg #[.int .i64 k, .int .i64 i, .int .u32 x, .int .u32 y, .int .u32 v], .bool true]) ∧ Only (· = g) w w' ∧ Row w' g 31 (cur.setIfInBounds i (.int .u32 (leftOf k x y v))) := by
  have h2 : ∀ o1 o2, Row ((w.alloc o1).alloc o2) b 49 #[.slice (some ⟨g, 0, none⟩) n cap] := fun o1 o2 => (h.alloc o1).alloc o2
  have H := Lib.hid h2
  have hlt := h.lt
  have hglt := hg.lt
  have hin : (i : Int) < n := by omega
  have h0 : ¬ (i : Int) < 0 := by omega
  have hc := h.cell_ (i := 0) rfl
  have hcv := hg.cell_ hv
  have HG := Lib.hid hg
  have HV := Lib.hid hv
  clear h h2 hv hg
  go_enter Try.func27, Try.ntmps27
  go_wp2
  go_quiet ((go_at_call 35; exact Calls.quiet_of_same (len_any b _ n cap _ (H.out _ _))))
  go_wp2
  go_region
  go_wp2_with fail
  refine (behind_any k i x y v _).mono ?_
  rintro e w1 ⟨rfl, ho⟩
  rw [hk]
  generalize hl : leftOf k x y v = lv
  have F0 : Row w1 w.heap.size 33 #[.int .i64 k, .int .i64 i, .int .u32 x, .int .u32 y, .int .u32 v] := ((((Row.new w _ _).alloc _).drewN _).set 4 _).only ho id
  have F1 : Row w1 (w.heap.size + 1) 33 #[.int .i64 0, .int .i64 0, .int .u32 0, .int .u32 0, .int .u32 0] := by
    have := ((Row.new (w.alloc (Obj.cells #[.int .i64 k, .int .i64 i, .int .u32 x, .int .u32 y, .int .u32 o] 33)) 33 #[.int .i64 0, .int .i64 0, .int .u32 0, .int .u32 0, .int .u32 0]).drewN (nq + 1))
    rw [show (w.alloc (Obj.cells #[.int .i64 k, .int .i64 i, .int .u32 x, .int .u32 y, .int .u32 o] 33)).heap.size = w.heap.size + 1 by simp] at this
    exact (this.far (by simp) _).only ho id
  have FB := ((((H.out _ _).drewN _).far (p := ⟨w.heap.size, 4, none⟩) (by show b ≠ w.heap.size; omega) _).only ho id)
  have FG := (((((HG.out.alloc _).alloc _).drewN _).far (p := ⟨w.heap.size, 4, none⟩) (by show g ≠ w.heap.size; omega) _).only ho id)
  have OW : Only Nil w w1 := Only.trans (by (repeat' (first | (with_reducible exact Only.refl _ _) | (with_reducible assumption) | (with_reducible refine Only.setCell ?_ ?_ _) | (with_reducible refine Only.drewN ?_ _) | (with_reducible refine Only.drew ?_) | (with_reducible refine Only.alloc ?_ _) | (left; simp; done) | (left; simp; omega) | (right; rfl)))) ho
  clear ho hcv hc
  have hs1 : w.heap.size + 1 < w1.heap.size := F1.lt
  have c0 : w1.cell? ⟨w.heap.size, 0, none⟩ = some (.int .i64 k) := F0.cell_ (i := 0) rfl
  have c1 : w1.cell? ⟨w.heap.size, 1, none⟩ = some (.int .i64 i) := F0.cell_ (i := 1) rfl
  have c2 : w1.cell? ⟨w.heap.size, 2, none⟩ = some (.int .u32 x) := F0.cell_ (i := 2) rfl
  have c3 : w1.cell? ⟨w.heap.size, 3, none⟩ = some (.int .u32 y) := F0.cell_ (i := 3) rfl
  have c4 : w1.cell? ⟨w.heap.size, 4, none⟩ = some (.int .u32 v) := F0.cell_ (i := 4) rfl
  have d0 : w1.cell? ⟨w.heap.size + 1, 0, none⟩ = some (.int .i64 0) := F1.cell_ (i := 0) rfl
  have d1 : w1.cell? ⟨w.heap.size + 1, 1, none⟩ = some (.int .i64 0) := F1.cell_ (i := 1) rfl
  have d2 : w1.cell? ⟨w.heap.size + 1, 2, none⟩ = some (.int .u32 0) := F1.cell_ (i := 2) rfl
  have d3 : w1.cell? ⟨w.heap.size + 1, 3, none⟩ = some (.int .u32 0) := F1.cell_ (i := 3) rfl
  have d4 : w1.cell? ⟨w.heap.size + 1, 4, none⟩ = some (.int .u32 0) := F1.cell_ (i := 4) rfl
  have e0 : w1.frozen? ⟨w.heap.size + 1, 0, none⟩ = false := F1.frozen 0
  have e1 : w1.frozen? ⟨w.heap.size + 1, 1, none⟩ = false := F1.frozen 1
  have e2 : w1.frozen? ⟨w.heap.size + 1, 2, none⟩ = false := F1.frozen 2
  have e3 : w1.frozen? ⟨w.heap.size + 1, 3, none⟩ = false := F1.frozen 3
  have e4 : w1.frozen? ⟨w.heap.size + 1, 4, none⟩ = false := F1.frozen 4
  have b0 : w1.cell? ⟨b, 0, none⟩ = some (.slice (some ⟨g, 0, none⟩) n cap) := FB.cell_ (i := 0) rfl
  have g0 := FG.cell_ HV.out
  have g1 := FG.frozen i
  have HB := Lib.hid FB
  have HG1 := Lib.hid FG
  have H0 := Lib.hid F0
  have H1 := Lib.hid F1
  have HO := Lib.hid OW
  have HL := Lib.hid hl
  clear FB FG F0 F1 OW hl
  go_wp2
  go_region
  all_goals go_wp2
  refine post_row_tmp (P := Try.prog) Try.results27 (t := 33) (g := w.heap.size + 1) (cs := #[.int .i64 k, .int .i64 i, .int .u32 x, .int .u32 y, .int .u32 v]) rfl ?_ Try.underlying33 rfl (by kernel_rfl) rfl ⟨rfl, ?_, ?_⟩
  · exact ((((((H1.out.far (p := ⟨g, i, none⟩) (by show w.heap.size + 1 ≠ g; omega) (.int .u32 lv)).set 0 (.int .i64 k)).set 1 (.int .i64 i)).set 2 (.int .u32 x)).set 3 (.int .u32 y)).set 4 (.int .u32 v)).drew
  · have O1 : Only (· = g) w w1 := HO.out.mono (fun _ _ h => h.elim)
    (repeat' (first | (with_reducible exact Only.refl _ _) | (with_reducible assumption) | (with_reducible refine Only.setCell ?_ ?_ _) | (with_reducible refine Only.drewN ?_ _) | (with_reducible refine Only.drew ?_) | (with_reducible refine Only.alloc ?_ _) | (left; simp; done) | (left; simp; omega) | (right; rfl)))
  · rw [HL.out]
    exact ((((((HG1.out.set i (.int .u32 lv)).far (p := ⟨w.heap.size + 1, 0, none⟩) (by show g ≠ w.heap.size + 1; omega) _).far (p := ⟨w.heap.size + 1, 1, none⟩) (by show g ≠ w.heap.size + 1; omega) _).far (p := ⟨w.heap.size + 1, 2, none⟩) (by show g ≠ w.heap.size + 1; omega) _).far (p := ⟨w.heap.size + 1, 3, none⟩) (by show g ≠ w.heap.size + 1; omega) _).far (p := ⟨w.heap.size + 1, 4, none⟩) (by show g ≠ w.heap.size + 1; omega) _).drew

/-- A kind that is none: nothing is done. -/
theorem do_bad (b g n cap i : Nat) (cur : Array Value) (k x y o v : Int) (w : World) (h : Row w b 49 #[.slice (some ⟨g, 0, none⟩) n cap]) (hg : Row w g 31 cur)
    (hi : i < n) (hv : cur[i]? = some (.int .u32 v)) (hk : isKind k = false) :
    Calls Try.prog 27 #[.pointer (some ⟨b, 0, none⟩), .agg #[.int .i64 k, .int .i64 i, .int .u32 x, .int .u32 y, .int .u32 o]] w fun e w' =>
      e = .returned (.tuple #[.agg #[.int .i64 0, .int .i64 0, .int .u32 0, .int .u32 0, .int .u32 0], .bool false]) ∧ Only Nil w w' := by
  have h2 : ∀ o1 o2, Row ((w.alloc o1).alloc o2) b 49 #[.slice (some ⟨g, 0, none⟩) n cap] := fun o1 o2 => (h.alloc o1).alloc o2
  have H := Lib.hid h2
  have hlt := h.lt
  have hglt := hg.lt
  have hin : (i : Int) < n := by omega
  have h0 : ¬ (i : Int) < 0 := by omega
  have hc := h.cell_ (i := 0) rfl
  have hcv := hg.cell_ hv
  have HG := Lib.hid hg
  have HV := Lib.hid hv
  clear h h2 hv hg
  go_enter Try.func27, Try.ntmps27
  go_wp2
  go_quiet ((go_at_call 35; exact Calls.quiet_of_same (len_any b _ n cap _ (H.out _ _))))
  go_wp2
  go_region
  go_wp2_with fail
  refine (behind_any k i x y v _).mono ?_
  rintro e w1 ⟨rfl, ho⟩
  rw [hk]
  generalize hl : leftOf k x y v = lv
  have F0 : Row w1 w.heap.size 33 #[.int .i64 k, .int .i64 i, .int .u32 x, .int .u32 y, .int .u32 v] := ((((Row.new w _ _).alloc _).drewN _).set 4 _).only ho id
  have F1 : Row w1 (w.heap.size + 1) 33 #[.int .i64 0, .int .i64 0, .int .u32 0, .int .u32 0, .int .u32 0] := by
    have := ((Row.new (w.alloc (Obj.cells #[.int .i64 k, .int .i64 i, .int .u32 x, .int .u32 y, .int .u32 o] 33)) 33 #[.int .i64 0, .int .i64 0, .int .u32 0, .int .u32 0, .int .u32 0]).drewN (nq + 1))
    rw [show (w.alloc (Obj.cells #[.int .i64 k, .int .i64 i, .int .u32 x, .int .u32 y, .int .u32 o] 33)).heap.size = w.heap.size + 1 by simp] at this
    exact (this.far (by simp) _).only ho id
  have FB := ((((H.out _ _).drewN _).far (p := ⟨w.heap.size, 4, none⟩) (by show b ≠ w.heap.size; omega) _).only ho id)
  have FG := (((((HG.out.alloc _).alloc _).drewN _).far (p := ⟨w.heap.size, 4, none⟩) (by show g ≠ w.heap.size; omega) _).only ho id)
  have OW : Only Nil w w1 := Only.trans (by (repeat' (first | (with_reducible exact Only.refl _ _) | (with_reducible assumption) | (with_reducible refine Only.setCell ?_ ?_ _) | (with_reducible refine Only.drewN ?_ _) | (with_reducible refine Only.drew ?_) | (with_reducible refine Only.alloc ?_ _) | (left; simp; done) | (left; simp; omega) | (right; rfl)))) ho
  clear ho hcv hc
  have hs1 : w.heap.size + 1 < w1.heap.size := F1.lt
  have c0 : w1.cell? ⟨w.heap.size, 0, none⟩ = some (.int .i64 k) := F0.cell_ (i := 0) rfl
  have c1 : w1.cell? ⟨w.heap.size, 1, none⟩ = some (.int .i64 i) := F0.cell_ (i := 1) rfl
  have c2 : w1.cell? ⟨w.heap.size, 2, none⟩ = some (.int .u32 x) := F0.cell_ (i := 2) rfl
  have c3 : w1.cell? ⟨w.heap.size, 3, none⟩ = some (.int .u32 y) := F0.cell_ (i := 3) rfl
  have c4 : w1.cell? ⟨w.heap.size, 4, none⟩ = some (.int .u32 v) := F0.cell_ (i := 4) rfl
  have d0 : w1.cell? ⟨w.heap.size + 1, 0, none⟩ = some (.int .i64 0) := F1.cell_ (i := 0) rfl
  have d1 : w1.cell? ⟨w.heap.size + 1, 1, none⟩ = some (.int .i64 0) := F1.cell_ (i := 1) rfl
  have d2 : w1.cell? ⟨w.heap.size + 1, 2, none⟩ = some (.int .u32 0) := F1.cell_ (i := 2) rfl
  have d3 : w1.cell? ⟨w.heap.size + 1, 3, none⟩ = some (.int .u32 0) := F1.cell_ (i := 3) rfl
  have d4 : w1.cell? ⟨w.heap.size + 1, 4, none⟩ = some (.int .u32 0) := F1.cell_ (i := 4) rfl
  have e0 : w1.frozen? ⟨w.heap.size + 1, 0, none⟩ = false := F1.frozen 0
  have e1 : w1.frozen? ⟨w.heap.size + 1, 1, none⟩ = false := F1.frozen 1
  have e2 : w1.frozen? ⟨w.heap.size + 1, 2, none⟩ = false := F1.frozen 2
  have e3 : w1.frozen? ⟨w.heap.size + 1, 3, none⟩ = false := F1.frozen 3
  have e4 : w1.frozen? ⟨w.heap.size + 1, 4, none⟩ = false := F1.frozen 4
  have b0 : w1.cell? ⟨b, 0, none⟩ = some (.slice (some ⟨g, 0, none⟩) n cap) := FB.cell_ (i := 0) rfl
  have g0 := FG.cell_ HV.out
  have g1 := FG.frozen i
  have HB := Lib.hid FB
  have HG1 := Lib.hid FG
  have H0 := Lib.hid F0
  have H1 := Lib.hid F1
  have HO := Lib.hid OW
  have HL := Lib.hid hl
  clear FB FG F0 F1 OW hl
  go_wp2
  refine post_row_tmp (P := Try.prog) Try.results27 (t := 33) (g := w.heap.size + 1) (cs := #[.int .i64 0, .int .i64 0, .int .u32 0, .int .u32 0, .int .u32 0]) rfl ?_ Try.underlying33 rfl (by kernel_rfl) rfl ⟨rfl, ?_⟩
  · exact ((((((H1.out.set 0 (.int .i64 0)).set 1 (.int .i64 0)).set 2 (.int .u32 0)).set 3 (.int .u32 0)).set 4 (.int .u32 0)))
  · have O1 : Only Nil w w1 := HO.out
    (repeat' (first | (with_reducible exact Only.refl _ _) | (with_reducible assumption) | (with_reducible refine Only.setCell ?_ ?_ _) | (with_reducible refine Only.drewN ?_ _) | (with_reducible refine Only.drew ?_) | (with_reducible refine Only.alloc ?_ _) | (left; simp; done) | (left; simp; omega) | (right; rfl)))
end Go.Proofs.Ytjdgniconbocnaa
