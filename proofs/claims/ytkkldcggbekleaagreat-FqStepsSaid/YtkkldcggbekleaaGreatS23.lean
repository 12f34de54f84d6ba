import Derived.Test.YtkkldcggbekleaaGreatS18
import Derived.Test.YtkkldcggbekleaaGreatS22
import Derived.Test.YtkkldcggbekleaaGreatS5
import Derived.Test.YtkkldcggbekleaaGreatS8
set_option linter.unusedVariables false
set_option linter.unusedSimpArgs false
set_option linter.unusedSectionVars false
namespace Go.Proofs.YtkkldcggbekleaaGreat
open Go.RowKit
structure QW (k : Nat) (x y : Int) (xs : List Int) : Prop where
  len : xs.length = 8 + 4 * k
  x : wordAt xs 0 = x
  y : wordAt xs 1 = y
  w : ∀ i, i < k → wordAt xs (wc k i) = 0
  n : ∀ i, i < k → wordAt xs (nc k i) = 0
structure RA (k t : Nat) (mode op line ret : Int) (K : WkV) (x y : Int) (r : LS) : Prop where
  n : r.n = k
  mode : r.mode = mode
  task : r.task = t
  op : r.op = op
  line : r.line = line
  ret : r.ret = ret
  s : r.s = 0
  kk : r.k = K
  w : QW k x y r.xs
section
variable {k t : Nat} {mode op line ret x y v : Int} {K : WkV} {xs : List Int} {r R : LS}
theorem QW.th (h : QW k x y xs) {d : Int} (h0 : 0 ≤ d) (h1 : d < 8 + 4 * k) : there xs d = true := there_lk h.len h0 h1
theorem QW.nw (h : QW k x y xs) (hk : k ≤ 64) : NoWatch k xs := fun i hi => ⟨h.th (by rw [wc_at hk hi]; omega) (by rw [wc_at hk hi]; omega), h.w i hi⟩
theorem QW.tail (h : QW k x y xs) (hk : k ≤ 64) (v : Int) : QW k v y (st xs 0 v) :=
  ⟨(st_len _ _ _).trans h.len, by rw [word_st, if_pos (h.th (by omega) (by omega))], by rw [word_far _ (by decide)]; exact h.y, fun i hi => by rw [word_far _ (by rw [wc_at hk hi]; omega)]; exact h.w i hi, fun i hi => by rw [word_far _ (by rw [nc_q hk hi]; omega)]; exact h.n i hi⟩
theorem QW.nx (h : QW k x y xs) (hk : k ≤ 64) (ht : t < k) : QW k x y (st xs (nc k t) 0) := by
  refine ⟨(st_len _ _ _).trans h.len, by rw [word_far _ (by rw [nc_q hk ht]; omega)]; exact h.x, by rw [word_far _ (by rw [nc_q hk ht]; omega)]; exact h.y, fun i hi => by rw [word_far _ (by rw [wc_at hk hi, nc_q hk ht]; omega)]; exact h.w i hi, fun i hi => ?_⟩
  by_cases e : i = t
  · subst e; rw [word_st, if_pos (h.th (by rw [nc_q hk hi]; omega) (by rw [nc_q hk hi]; omega))]
  · rw [word_far _ (by rw [nc_q hk hi, nc_q hk ht]; omega)]; exact h.n i hi
theorem QW.bl (h : QW k x y xs) (hk : k ≤ 64) (ht : t < k) (v : Int) : QW k x y (st xs (bc k t) v) :=
  ⟨(st_len _ _ _).trans h.len, by rw [word_far _ (by rw [bc_q hk ht]; omega)]; exact h.x, by rw [word_far _ (by rw [bc_q hk ht]; omega)]; exact h.y, fun i hi => by rw [word_far _ (by rw [wc_at hk hi, bc_q hk ht]; omega)]; exact h.w i hi, fun i hi => by rw [word_far _ (by rw [nc_q hk hi, bc_q hk ht]; omega)]; exact h.n i hi⟩
theorem RA.fresh (h : RA k t mode op line ret K x y r) : RA k t mode op line ret K x y r.fresh := ⟨h.n, h.mode, h.task, h.op, h.line, h.ret, h.s, h.kk, h.w⟩
theorem RA.nc (h : RA k t mode op line ret K x y r) : nc r.n r.task = nc k t := by rw [h.n, h.task]
theorem RA.bc (h : RA k t mode op line ret K x y r) : bc r.n r.task = bc k t := by rw [h.n, h.task]
theorem RA.me (h : RA k t mode op line ret K x y r) (hk : k ≤ 64) (ht : t < k) : r.me = (t : Int) + 1 := by unfold LS.me; rw [h.task]; omega
variable (hk : 1 ≤ k ∧ k ≤ 64) (ht : t < k)
include hk ht
end
section
variable {chk : LS → Bool} {k t m : Nat} {mode op line ret op' line' x y x' y' : Int} {r : LS}
def EndA (chk : LS → Bool) (k m : Nat) (r : LS) (ret x y : Int) : Prop := ∃ xs, aloneG chk LS.fq m r = (ret, xs) ∧ QW k x y xs
theorem next_off (h : RA k t mode op line ret wk0 x y r) : r.next LS.fq = r.fresh.fq := by
  unfold LS.next
  rw [h.kk, if_neg (by show ¬ false = true; decide)]
theorem EndA.on (hk0 : Chk chk) (h : RA k t mode op line 0 wk0 x y r) (g : RA k t mode op' line' 0 wk0 x' y' r.fresh.fq) {re X Y : Int} (e : EndA chk k m r.fresh.fq re X Y) : EndA chk k (m + 1) r re X Y := by
  obtain ⟨xs, e1, e2⟩ := e
  refine ⟨xs, ?_, e2⟩
  rw [alone_on hk0 h.s (by rw [next_off h]; unfold LS.over; rw [g.ret]; rfl), next_off h]
  exact e1
theorem EndA.done (hk0 : Chk chk) (hk : 1 ≤ k ∧ k ≤ 64) (h : RA k t mode op line 0 wk0 x y r) (g : RA k t mode op' line' ret (beginI mode 1) x' y' r.fresh.fq) (hr : ret ≠ 0) (hm : k < m) : EndA chk k m r ret x' y' :=
  ⟨_, by
    rw [alone_doneQ hk0 hk (c := 1) (by decide) (next_off h) g.n (g.w.nw hk.2) g.kk (by rw [g.ret]; exact hr) h.s g.s hm, g.ret], g.w⟩
variable (hk0 : Chk chk) (hk : 1 ≤ k ∧ k ≤ 64) (ht : t < k)
include hk0 hk ht
end
end Go.Proofs.YtkkldcggbekleaaGreat
set_option linter.unusedVariables false
set_option linter.unusedSimpArgs false
set_option linter.unusedSectionVars false
namespace Go.Proofs.YtkkldcggbekleaaGreat
open Go.RowKit
structure StQ (k s : Nat) (xs : List Int) : Prop where
  w : QW k (if s = 2 then 1 else 0) (if s = 1 then 1 else if s = 3 then 2 else 0) xs
section
variable {chk : LS → Bool} {k m : Nat} {mode op x y : Int} {xs : List Int}
theorem EndA.st {r : LS} {ret : Int} {s' : Nat} {x y : Int} (e : EndA chk k m r ret x y) (hx : x = if s' = 2 then 1 else 0) (hy : y = if s' = 1 then 1 else if s' = 3 then 2 else 0) : ∃ ys, aloneG chk LS.fq m r = (ret, ys) ∧ StQ k s' ys := by
  obtain ⟨ys, e1, e2⟩ := e
  exact ⟨ys, e1, ⟨by rw [← hx, ← hy]; exact e2⟩⟩
end
end Go.Proofs.YtkkldcggbekleaaGreat
set_option linter.unusedVariables false
set_option linter.unusedSimpArgs false
namespace Go.Proofs.YtkkldcggbekleaaGreat
open Go.RowKit
def FirstW (xs : List Int) (S : Nat) (w : World) (e : Ending) (w' : World) : Prop :=
  ∃ g, e = .returned (.tuple #[.slice (some ⟨g, 0, none⟩) S S, .int .i64 0]) ∧ w.heap.size ≤ g ∧ Held w' (some ⟨g, 0, none⟩) S S xs ∧ Only Nil w w'
end Go.Proofs.YtkkldcggbekleaaGreat
set_option linter.unusedVariables false
set_option linter.unusedSimpArgs false
namespace Go.Proofs.YtkkldcggbekleaaGreat
open Go.RowKit
def fqXs (k : Nat) : List Int := List.replicate (8 + 4 * k) 0
theorem fq_words (k : Nat) : Words (fqXs k) := fun n hn => by
  obtain ⟨_, rfl⟩ := List.mem_replicate.1 hn
  rfl
theorem words_fq (k : Nat) (S c : Nat) (b : Int) : words 4 S c b = List.replicate S 0 := by
  apply List.ext_getElem
  · simp [words]
  · intro i h1 h2
    simp [words, wordI]
theorem first_fq (k : Nat) (b : Int) (w : World) (hk : 1 ≤ k ∧ k ≤ 64) (hb : 0 ≤ b ∧ b < 4294967296) :
    Calls Tryz.prog 15 #[.int .i64 4, .int .i64 k, .int .u32 b] w (FirstW (fqXs k) (8 + 4 * k) w) := by
  have hS : sizeI (k : Int) = ((8 + 4 * k : Nat) : Int) := by unfold sizeI; rw [if_pos (by omega)]; push_cast; rfl
  refine (first_yes 4 k b (8 + 4 * k) w (by omega) (by omega) hS hb).mono ?_
  rintro e w' ⟨g, rfl, hg, hR, hO⟩
  rw [words_fq k] at hR
  have hI := Row.ints (k := .u32) (xs := fqXs k) hR
  exact ⟨g, rfl, hg, ⟨by simp [fqXs], (by intro h; cases h), hI⟩, hO⟩
end Go.Proofs.YtkkldcggbekleaaGreat
set_option linter.unusedVariables false
set_option linter.unusedSimpArgs false
namespace Go.Proofs.YtkkldcggbekleaaGreat
open Go.RowKit
section
variable (B : Nat) (p A : Option Addr) (cp : Nat) (nv : Value) (r : LS) (c x y : Int) (w : World)
theorem RunP.setRet {w : World} {B : Nat} {p A : Option Addr} {cp : Nat} {nv : Value} {r : LS} (h : RunP w B p A cp nv r) (v : Int) : RunP (w.setCell ⟨B, 13, none⟩ (.int .i64 v)) B p A cp nv { r with ret := v } :=
  h.turn ((Only.refl (· = B) w).setCell (p := ⟨B, 13, none⟩) (.inr rfl) _) (h.row.set 13 (.int .i64 v)) rfl rfl
theorem end_run (ok : Bool) (h : RunP w B p A cp nv r) : Calls Tryz.prog 49 #[.pointer (some ⟨B, 0, none⟩), .bool ok] w (Done B p A cp w (.tuple #[]) (r.fin ok)) := by
  have c13 : w.cell? ⟨B, 13, none⟩ = some (.int .i64 r.ret) := h.row.cell_ (i := 13) rfl
  have f13 : w.frozen? ⟨B, 13, none⟩ = false := h.row.frozen 13
  have HP := Lib.hid h
  clear h
  cases ok
  · go_enter Tryz.func49, Tryz.ntmps49
    go_wp2
    go_returns
    exact ⟨rfl, (Only.refl (TurnB B A) w).setCell (p := ⟨B, 13, none⟩) (.inr (.inl rfl)) _, nv, HP.out.setRet 1⟩
  · go_enter Tryz.func49, Tryz.ntmps49
    go_wp2
    go_returns
    exact ⟨rfl, ((Only.refl (TurnB B A) w).setCell (p := ⟨B, 13, none⟩) (.inr (.inl rfl)) _).setCell (p := ⟨B, 13, none⟩) (.inr (.inl rfl)) _, nv, (HP.out.setRet 1).setRet 2⟩
end
end Go.Proofs.YtkkldcggbekleaaGreat
set_option linter.unusedVariables false
set_option linter.unusedSimpArgs false
namespace Go.Proofs.YtkkldcggbekleaaGreat
open Go.RowKit
section
variable (B : Nat) (p A : Option Addr) (cp : Nat) (nv : Value) (r : LS) (c x y : Int) (w : World)
theorem add_run (h : RunP w B p A cp nv r) : Calls Tryz.prog 75 #[.pointer (some ⟨B, 0, none⟩), .int .i64 c, .int .u32 x] w (Done B p A cp w (.int .u32 (wordAt r.xs c)) (r.doA 3 c x 0)) := by
  go_enter Tryz.func75, Tryz.ntmps75
  go_wp2_with fail
  refine (access_run B p A cp nv r 3 c x 0 0 _ h rfl).mono ?_
  rintro e w1 ⟨rfl, hO, hP⟩
  have HO := Lib.hid hO
  have HP := Lib.hid hP
  clear hO hP h
  go_wp2
  go_ret
  exact ⟨rfl, HO.out, nv, HP.out⟩
end
end Go.Proofs.YtkkldcggbekleaaGreat
