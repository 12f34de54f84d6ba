import Derived.Test.YtaeninikaalkjaaGreatH19
import Derived.Test.YtaeninikaalkjaaGreatH20
import Derived.Test.YtaeninikaalkjaaGreatH5
import Derived.Test.YtaeninikaalkjaaGreatH16
import Derived.Test.YtaeninikaalkjaaGreatH7
import Derived.Test.YtaeninikaalkjaaGreatH12
import Derived.Test.YtaeninikaalkjaaGreatH6
set_option linter.unusedVariables false
set_option linter.unusedSimpArgs false
set_option linter.unusedSectionVars false
namespace Go.Proofs.YtaeninikaalkjaaGreat
open Go.RowKit
def wv (b : Int) (o i c : Nat) : Int := ((c : Int) + 256 * ((b + o) % 256) + 65536 * (b + i)) % 4294967296
section
variable {b : Int} {o i c : Nat}
theorem wv_r (hc : c < 256) : rF (wv b o i c) = c := by unfold rF wv; omega
theorem wv_o (hc : c < 256) : oF (wv b o i c) = (b + o) % 256 := by unfold oF wv; omega
theorem wv_i (hc : c < 256) : iF (wv b o i c) = (b + i) % 256 := by unfold iF wv; omega
end
section
variable {k t : Nat} {mode op line ret v x : Int} {K : WkV} {xs : List Int} {r R : LS}
variable (hk : 1 ≤ k ∧ k ≤ 64)
include hk
end
section
variable {chk : LS → Bool} {k t m : Nat} {mode op line ret op' line' v v' : Int} {r : LS}
def EndF (chk : LS → Bool) (k m : Nat) (r : LS) (ret v : Int) : Prop := ∃ xs, aloneG chk LS.wf m r = (ret, xs) ∧ SW k v xs
theorem nextf_off (h : RS k t mode op line ret wk0 v r) : r.next LS.wf = r.fresh.wf := by
  unfold LS.next
  rw [h.kk, if_neg (by show ¬ false = true; decide)]
theorem EndF.on (hk0 : Chk chk) (h : RS k t mode op line 0 wk0 v r) (g : RS k t mode op' line' 0 wk0 v' r.fresh.wf) {re V : Int} (e : EndF chk k m r.fresh.wf re V) : EndF chk k (m + 1) r re V := by
  obtain ⟨xs, e1, e2⟩ := e
  refine ⟨xs, ?_, e2⟩
  rw [alone_on hk0 h.s (by rw [nextf_off h]; unfold LS.over; rw [g.ret]; rfl), nextf_off h]
  exact e1
theorem EndF.done (hk0 : Chk chk) (hk : 1 ≤ k ∧ k ≤ 64) (h : RS k t mode op line 0 wk0 v r) (g : RS k t mode op' line' ret (beginI mode 0) v' r.fresh.wf) (hr : ret ≠ 0) (hm : k < m) : EndF chk k m r ret v' :=
  ⟨_, by
    rw [alone_doneQ hk0 hk (c := 0) (by decide) (nextf_off h) g.n (g.w.nw hk.2) g.kk (by rw [g.ret]; exact hr) h.s g.s hm, g.ret], g.w⟩
variable (hk0 : Chk chk) (hk : 1 ≤ k ∧ k ≤ 64)
include hk0 hk
end
def StF (k : Nat) (b : Int) (s : Nat) (xs : List Int) : Prop := ∃ o : Nat, SW k (match s with | 1 => wv b o o 1 | 2 => wv b o (o + 1) 0 | 3 => wv b o o 2 | _ => wv b o o 0) xs
section
variable {chk : LS → Bool} {k m : Nat} {mode op b : Int} {xs : List Int}
theorem EndF.st {r : LS} {ret : Int} {s' : Nat} {v : Int} (e : EndF chk k m r ret v) (o : Nat) (hv : v = (match s' with | 1 => wv b o o 1 | 2 => wv b o (o + 1) 0 | 3 => wv b o o 2 | _ => wv b o o 0)) : ∃ ys, aloneG chk LS.wf m r = (ret, ys) ∧ StF k b s' ys := by
  obtain ⟨ys, e1, e2⟩ := e
  exact ⟨ys, e1, ⟨o, by rw [← hv]; exact e2⟩⟩
end
theorem StF.free {k : Nat} {b : Int} {xs : List Int} (h : StF k b 0 xs) : ∃ v : Int, wordAt xs 0 = v ∧ 0 ≤ v ∧ v < 4294967296 ∧ v % 256 = 0 ∧ v / 256 % 256 = v / 65536 % 256 := by
  obtain ⟨o, h⟩ := h
  have hx : wordAt xs 0 = wv b o o 0 := h.x
  refine ⟨_, hx, by unfold wv; omega, by unfold wv; omega, wv_r (b := b) (o := o) (i := o) (c := 0) (by decide), ?_⟩
  exact (wv_o (b := b) (o := o) (i := o) (c := 0) (by decide)).trans (wv_i (b := b) (o := o) (i := o) (c := 0) (by decide)).symm
def wfXs (k : Nat) (b : Int) : List Int := (b % 256 * 256 + b % 256 * 65536) :: List.replicate (7 + 4 * k) 0
theorem wf_len (k : Nat) (b : Int) : (wfXs k b).length = 8 + 4 * k := by simp [wfXs]; omega
theorem wf_words {k : Nat} {b : Int} (hb : 0 ≤ b) : Words (wfXs k b) := fun n hn => by
  rcases List.mem_cons.1 hn with rfl | hn
  · exact wf_mk (by omega) (by omega)
  · obtain ⟨_, rfl⟩ := List.mem_replicate.1 hn
    rfl
end Go.Proofs.YtaeninikaalkjaaGreat
set_option linter.unusedVariables false
set_option linter.unusedSimpArgs false
namespace Go.Proofs.YtaeninikaalkjaaGreat
open Go.RowKit
def FirstW (xs : List Int) (S : Nat) (w : World) (e : Ending) (w' : World) : Prop :=
  ∃ g, e = .returned (.tuple #[.slice (some ⟨g, 0, none⟩) S S, .int .i64 0]) ∧ w.heap.size ≤ g ∧ Held w' (some ⟨g, 0, none⟩) S S xs ∧ Only Nil w w'
end Go.Proofs.YtaeninikaalkjaaGreat
set_option linter.unusedVariables false
set_option linter.unusedSimpArgs false
namespace Go.Proofs.YtaeninikaalkjaaGreat
open Go.RowKit
theorem words_wf (k : Nat) (b : Int) : words 6 (8 + 4 * k) 1 b = wfXs k b := by
  apply List.ext_getElem
  · simp [words, wfXs]
    omega
  · intro i h1 h2
    match i, h1, h2 with
    | 0, _, _ => simp [words, wordI, wfXs]
    | i + 1, _, _ => simp [words, wordI, wfXs]
theorem first_wf (k : Nat) (b : Int) (w : World) (hk : 1 ≤ k ∧ k ≤ 64) (hb : 0 ≤ b ∧ b < 4294967296) :
    Calls Tryz.prog 15 #[.int .i64 6, .int .i64 k, .int .u32 b] w (FirstW (wfXs k b) (8 + 4 * k) w) := by
  have hS : sizeI (k : Int) = ((8 + 4 * k : Nat) : Int) := by unfold sizeI; rw [if_pos (by omega)]; push_cast; rfl
  refine (first_yes 6 k b (8 + 4 * k) w (by omega) (by omega) hS hb).mono ?_
  rintro e w' ⟨g, rfl, hg, hR, hO⟩
  rw [show (ownV 6).size = 1 from rfl, words_wf] at hR
  have hI := Row.ints (k := .u32) (xs := wfXs k b) hR
  exact ⟨g, rfl, hg, ⟨by rw [wf_len], (by intro h; cases h), hI⟩, hO⟩
end Go.Proofs.YtaeninikaalkjaaGreat
set_option linter.unusedVariables false
set_option linter.unusedSimpArgs false
namespace Go.Proofs.YtaeninikaalkjaaGreat
open Go.RowKit
section
variable (B : Nat) (p A : Option Addr) (cp : Nat) (nv : Value) (r : LS) (c x y : Int) (w : World)
theorem RunP.setRet {w : World} {B : Nat} {p A : Option Addr} {cp : Nat} {nv : Value} {r : LS} (h : RunP w B p A cp nv r) (v : Int) : RunP (w.setCell ⟨B, 13, none⟩ (.int .i64 v)) B p A cp nv { r with ret := v } :=
  h.turn ((Only.refl (· = B) w).setCell (p := ⟨B, 13, none⟩) (.inr rfl) _) (h.row.set 13 (.int .i64 v)) rfl rfl
theorem end_run (ok : Bool) (h : RunP w B p A cp nv r) : Calls Tryz.prog 57 #[.pointer (some ⟨B, 0, none⟩), .bool ok] w (Done B p A cp w (.tuple #[]) (r.fin ok)) := by
  have c13 : w.cell? ⟨B, 13, none⟩ = some (.int .i64 r.ret) := h.row.cell_ (i := 13) rfl
  have f13 : w.frozen? ⟨B, 13, none⟩ = false := h.row.frozen 13
  have HP := Lib.hid h
  clear h
  cases ok
  · go_enter Tryz.func57, Tryz.ntmps57
    go_wp2
    go_returns
    exact ⟨rfl, (Only.refl (TurnB B A) w).setCell (p := ⟨B, 13, none⟩) (.inr (.inl rfl)) _, nv, HP.out.setRet 1⟩
  · go_enter Tryz.func57, Tryz.ntmps57
    go_wp2
    go_returns
    exact ⟨rfl, ((Only.refl (TurnB B A) w).setCell (p := ⟨B, 13, none⟩) (.inr (.inl rfl)) _).setCell (p := ⟨B, 13, none⟩) (.inr (.inl rfl)) _, nv, (HP.out.setRet 1).setRet 2⟩
end
end Go.Proofs.YtaeninikaalkjaaGreat
set_option linter.unusedVariables false
set_option linter.unusedSimpArgs false
namespace Go.Proofs.YtaeninikaalkjaaGreat
open Go.RowKit
section
variable (B : Nat) (p A : Option Addr) (cp : Nat) (nv : Value) (r : LS) (c x y : Int) (w : World)
theorem add_run (h : RunP w B p A cp nv r) : Calls Tryz.prog 60 #[.pointer (some ⟨B, 0, none⟩), .int .i64 c, .int .u32 x] w (Done B p A cp w (.int .u32 (wordAt r.xs c)) (r.doA 3 c x 0)) := by
  go_enter Tryz.func60, Tryz.ntmps60
  go_wp2_with fail
  refine (access_run B p A cp nv r 3 c x 0 0 _ h rfl).mono ?_
  rintro e w1 ⟨rfl, hO, hP⟩
  have HO := Lib.hid hO
  have HP := Lib.hid hP
  clear hO hP h
  go_wp2
  go_ret
  exact ⟨rfl, HO.out, nv, HP.out⟩
end
end Go.Proofs.YtaeninikaalkjaaGreat
set_option linter.unusedVariables false
set_option linter.unusedSimpArgs false
namespace Go.Proofs.YtaeninikaalkjaaGreat
open Go.RowKit
def kpt (b : Bool) (c1 c0 : Array Value) : Array Value := if b then c1 else c0
def HoldsK (A : Option Addr) (R : Nat) (w0 : World) (fv : Value) (q : Int → Bool) (cs : Array Value) (cs1 : Int → Array Value) : Prop := ∀ (v : Int) (w : World), Only (At A) w0 w → Row w R 42 cs → 0 ≤ v → v < 4294967296 →
  Calls Tryz.prog 108 #[fv, .int .u32 v] w fun e w' => e = .returned (.bool (q v)) ∧ Only (· = R) w w' ∧ Row w' R 42 (kpt (q v) (cs1 v) cs)
theorem HoldsK.move {A : Option Addr} {R : Nat} {w0 w1 : World} {fv : Value} {q : Int → Bool} {cs : Array Value} {cs1 : Int → Array Value} (h : HoldsK A R w0 fv q cs cs1) (ho : Only (At A) w0 w1) : HoldsK A R w1 fv q cs cs1 := by
  intro v w hw
  exact h v w (Only.trans ho hw)
theorem HoldsK.move0 {A : Option Addr} {R : Nat} {w0 w1 : World} {fv : Value} {q : Int → Bool} {cs : Array Value} {cs1 : Int → Array Value} (h : HoldsK A R w0 fv q cs cs1) (ho : Only Nil w0 w1) : HoldsK A R w1 fv q cs cs1 := h.move (ho.mono (fun _ _ h => h.elim))
theorem lookK_any (p A : Option Addr) (cp R : Nat) (cs : Array Value) (cs1 : Int → Array Value) (xs : List Int) (c : Int) (fv : Value) (q : Int → Bool) (w : World) (h : Memo w p A cp xs) (hr : Row w R 42 cs) (hRA : ∀ j, At p j ∨ At A j → j ≠ R) (hf : HoldsK A R w fv q cs cs1) (hx : Words xs) :
    Calls Tryz.prog 99 #[.pointer p, .int .i64 c, fv] w fun e w' =>
      e = .returned (.tuple #[doVal xs 1 c 0 0, .bool (q (wordAt xs c))]) ∧ Only (TurnB R A) w w' ∧ Memo w' p A cp xs ∧ Row w' R 42 (kpt (q (wordAt xs c)) (cs1 (wordAt xs c)) cs) := by
  have hb := word_wf hx c
  have HB := Lib.hid hb
  have hst : doNew xs 1 c 0 0 = xs := doNew_load xs _ _ _
  have HH := Lib.hid h
  have HF := Lib.hid hf
  have ha : ∀ j, At p j ∨ At A j → j < w.heap.size := HH.out.lt
  have HRR := Lib.hid hr
  have HRA := Lib.hid hRA
  have HRL := Lib.hid hr.lt
  clear hr hRA
  have HA := Lib.hid ha
  clear h ha hf hb hx
  go_enter Tryz.func99, Tryz.ntmps99
  go_wp2_with fail
  have e0 := (Only.refl Nil w).alloc (Obj.cells #[Value.int IntKind.i64 0, Value.int IntKind.i64 0, Value.int IntKind.u32 0, Value.int IntKind.u32 0, Value.int IntKind.u32 0] 39)
  refine (do_memo p A cp xs 1 c 0 0 0 _ (HH.out.keep e0)).mono ?_
  obtain ⟨k', c', x', y', hv⟩ := doVal_form xs 1 c 0 0
  rw [oldAt xs 1 c rfl] at hv
  rw [hv, hst]
  rintro e w2 ⟨rfl, hO, hM⟩
  have hS : Only (At A) w w2 := (e0.mono (fun _ _ h => h.elim)).trans hO
  have HR2 := Lib.hid (((HRR.out.alloc (Obj.cells #[Value.int IntKind.i64 0, Value.int IntKind.i64 0, Value.int IntKind.u32 0, Value.int IntKind.u32 0, Value.int IntKind.u32 0] 39)).only hO (fun e => HRA.out _ (.inr e) rfl)).alloc (Obj.cells #[Value.int IntKind.i64 k', Value.int IntKind.i64 c', Value.int IntKind.u32 x', Value.int IntKind.u32 y', Value.int IntKind.u32 (wordAt xs c)] 39))
  have R8 : Row w2 w.heap.size 39 #[.int .i64 0, .int .i64 0, .int .u32 0, .int .u32 0, .int .u32 0] := (Row.new w _ _).only hO (fun h => by have := HA.out _ (.inr h); omega)
  have HR := Lib.hid (R8.alloc (Obj.cells #[Value.int IntKind.i64 k', Value.int IntKind.i64 c', Value.int IntKind.u32 x', Value.int IntKind.u32 y', Value.int IntKind.u32 (wordAt xs c)] 39))
  have HN := Lib.hid (Row.new w2 39 #[Value.int IntKind.i64 k', Value.int IntKind.i64 c', Value.int IntKind.u32 x', Value.int IntKind.u32 y', Value.int IntKind.u32 (wordAt xs c)])
  have HS := Lib.hid (hS.alloc (Obj.cells #[Value.int IntKind.i64 k', Value.int IntKind.i64 c', Value.int IntKind.u32 x', Value.int IntKind.u32 y', Value.int IntKind.u32 (wordAt xs c)] 39))
  have HM := Lib.hid (hM.keep ((Only.refl Nil w2).alloc (Obj.cells #[Value.int IntKind.i64 k', Value.int IntKind.i64 c', Value.int IntKind.u32 x', Value.int IntKind.u32 y', Value.int IntKind.u32 (wordAt xs c)] 39)))
  have HZ := Lib.hid R8.lt
  clear hO R8 hS hM e0 hst
  have HV := Lib.hid hv
  clear hv
  go_wp2_with fail
  generalize w2.alloc (.cells #[.int .i64 k', .int .i64 c', .int .u32 x', .int .u32 y', .int .u32 (wordAt xs c)] 39) = w3 at *
  generalize hg : w2.heap.size = g at *
  have HG := Lib.hid hg
  clear hg
  generalize hwd : wordAt xs c = v at *
  have HWD := Lib.hid hwd
  clear hwd
  have c0 : w3.cell? ⟨g, 0, none⟩ = some (.int .i64 k') := HN.out.cell_ (i := 0) rfl
  have c1 : w3.cell? ⟨g, 1, none⟩ = some (.int .i64 c') := HN.out.cell_ (i := 1) rfl
  have c2 : w3.cell? ⟨g, 2, none⟩ = some (.int .u32 x') := HN.out.cell_ (i := 2) rfl
  have c3 : w3.cell? ⟨g, 3, none⟩ = some (.int .u32 y') := HN.out.cell_ (i := 3) rfl
  have c4 : w3.cell? ⟨g, 4, none⟩ = some (.int .u32 v) := HN.out.cell_ (i := 4) rfl
  have hgg : ¬ g = w.heap.size := by have := HZ.out; omega
  have HGG := Lib.hid hgg
  clear hgg
  refine wp_region_held_drew (S := fun w' => w'.cell? ⟨g, 0, none⟩ = some (.int .i64 k') ∧ w'.cell? ⟨g, 1, none⟩ = some (.int .i64 c') ∧ w'.cell? ⟨g, 2, none⟩ = some (.int .u32 x') ∧ w'.cell? ⟨g, 3, none⟩ = some (.int .u32 y') ∧ w'.cell? ⟨g, 4, none⟩ = some (.int .u32 v)) (by kernel_rfl) ⟨c0, c1, c2, c3, c4⟩ (fun hHeld => ?_)
  refine zk 0 rfl ?_
  refine zk 1 rfl ?_
  refine zk 2 rfl ?_
  refine zk 3 rfl ?_
  refine mcl 4 rfl (by kernel_rfl) (by rfl) (fun K hK => ?_)
  go_simp
  have hgR : ¬ g = R := by have := HRL.out; have := HZ.out; omega
  refine (HF.out v _ HS.out.drew HR2.out.drew HB.out.1 HB.out.2).mono ?_
  rintro e w4 ⟨rfl, hO, hrow⟩
  have hO4 : Only (· = R) w3 w4 := (Only.refl (· = R) w3).drew.trans hO
  have HRW := Lib.hid (hrow.only (five_only (Only.refl (· = w.heap.size) w4) (.inr rfl) (.int .i64 k') (.int .i64 c') (.int .u32 x') (.int .u32 y') (.int .u32 v)) (by have := HRL.out; omega))
  have HMM := Lib.hid ((HM.out.far hO4 (fun j hj => HRA.out j hj)))
  clear hrow
  have HN4 := Lib.hid (HN.out.only hO4 hgR)
  have HR4 := Lib.hid (HR.out.only hO4 (by have := HRL.out; omega))
  have HO4 := Lib.hid hO4
  refine hK.out _ _ ⟨HN4.out.cell_ (i := 0) rfl, HN4.out.cell_ (i := 1) rfl, HN4.out.cell_ (i := 2) rfl, HN4.out.cell_ (i := 3) rfl, HN4.out.cell_ (i := 4) rfl⟩ (fun hHeld2 => ?_)
  clear hK K hHeld hO hO4 hgR c0 c1 c2 c3 c4
  have d0 : w4.cell? ⟨w.heap.size, 0, none⟩ = some (.int .i64 0) := HR4.out.cell_ (i := 0) rfl
  have d1 : w4.cell? ⟨w.heap.size, 1, none⟩ = some (.int .i64 0) := HR4.out.cell_ (i := 1) rfl
  have d2 : w4.cell? ⟨w.heap.size, 2, none⟩ = some (.int .u32 0) := HR4.out.cell_ (i := 2) rfl
  have d3 : w4.cell? ⟨w.heap.size, 3, none⟩ = some (.int .u32 0) := HR4.out.cell_ (i := 3) rfl
  have d4 : w4.cell? ⟨w.heap.size, 4, none⟩ = some (.int .u32 0) := HR4.out.cell_ (i := 4) rfl
  have f0 : w4.frozen? ⟨w.heap.size, 0, none⟩ = false := HR4.out.frozen 0
  have f1 : w4.frozen? ⟨w.heap.size, 1, none⟩ = false := HR4.out.frozen 1
  have f2 : w4.frozen? ⟨w.heap.size, 2, none⟩ = false := HR4.out.frozen 2
  have f3 : w4.frozen? ⟨w.heap.size, 3, none⟩ = false := HR4.out.frozen 3
  have f4 : w4.frozen? ⟨w.heap.size, 4, none⟩ = false := HR4.out.frozen 4
  refine mcl 5 rfl (by kernel_rfl) (by rfl) (fun K hK => ?_)
  go_simp
  have HN5 := Lib.hid (HN4.out.only (five_only (Only.refl (· = w.heap.size) w4) (.inr rfl) (.int .i64 k') (.int .i64 c') (.int .u32 x') (.int .u32 y') (.int .u32 v)) HGG.out)
  refine hK.out _ _ ⟨HN5.out.cell_ (i := 0) rfl, HN5.out.cell_ (i := 1) rfl, HN5.out.cell_ (i := 2) rfl, HN5.out.cell_ (i := 3) rfl, HN5.out.cell_ (i := 4) rfl⟩ (fun hHeld3 => ?_)
  clear hK K hHeld2 d0 d1 d2 d3 d4 f0 f1 f2 f3 f4
  refine zk 6 rfl ?_
  refine wpAnyH_done (by kernel_rfl) ?_ _
  go_wp2
  have ho9 := five_only ((HS.out.mono (T := TurnB R A) (fun _ _ e => .inr e)).trans (HO4.out.mono (T := TurnB R A) (fun _ _ e => .inl e))) (.inl (Nat.le_refl _)) (.int .i64 k') (.int .i64 c') (.int .u32 x') (.int .u32 y') (.int .u32 v)
  have hm9 := HMM.out.far (five_only (Only.refl (· = w.heap.size) w4) (.inr rfl) (.int .i64 k') (.int .i64 c') (.int .u32 x') (.int .u32 y') (.int .u32 v)) (fun j hj h => by have := HA.out j hj; omega)
  exact post_row_tmp (P := Tryz.prog) Tryz.results99 (t := 39) (g := w.heap.size) (cs := #[.int .i64 k', .int .i64 c', .int .u32 x', .int .u32 y', .int .u32 v]) rfl (five HR4.out _ _ _ _ _) Tryz.underlying39 rfl (by kernel_rfl) rfl ⟨by rw [HV.out, HWD.out]; rfl, ho9, hm9, by rw [HWD.out]; exact HRW.out⟩
end Go.Proofs.YtaeninikaalkjaaGreat
