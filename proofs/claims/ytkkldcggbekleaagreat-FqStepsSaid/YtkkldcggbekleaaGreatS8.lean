import Derived.Laws.AppendOwnNone
import Derived.Test.YtkkldcggbekleaaGreatS7
import Derived.Test.YtkkldcggbekleaaGreatS6
set_option linter.unusedVariables false
set_option linter.unusedSimpArgs false
namespace Go.Proofs.YtkkldcggbekleaaGreat
open Go.RowKit
def Done (B : Nat) (p A : Option Addr) (cp : Nat) (w : World) (v : Value) (r : LS) (e : Ending) (w' : World) : Prop :=
  e = .returned v ∧ Only (TurnB B A) w w' ∧ ∃ nv, RunP w' B p A cp nv r
section
variable (B : Nat) (p A : Option Addr) (cp : Nat) (nv : Value) (r : LS) (c x y : Int) (w : World)
theorem load_run (h : RunP w B p A cp nv r) : Calls Tryz.prog 86 #[.pointer (some ⟨B, 0, none⟩), .int .i64 c] w (Done B p A cp w (.int .u32 (wordAt r.xs c)) (r.doA 1 c 0 0)) := by
  go_enter Tryz.func86, Tryz.ntmps86
  go_wp2_with fail
  refine (access_run B p A cp nv r 1 c 0 0 0 _ h rfl).mono ?_
  rintro e w1 ⟨rfl, hO, hP⟩
  have HO := Lib.hid hO
  have HP := Lib.hid hP
  clear hO hP h
  go_wp2
  go_ret
  exact ⟨rfl, HO.out, nv, HP.out⟩
theorem cas_run (h : RunP w B p A cp nv r) : Calls Tryz.prog 115 #[.pointer (some ⟨B, 0, none⟩), .int .i64 c, .int .u32 x, .int .u32 y] w (Done B p A cp w (.bool (there r.xs c && (wordAt r.xs c == x))) (r.doA 5 c x y)) := by
  have hok : doOk r.xs 5 c = there r.xs c := by simp [doOk, isKind]
  have HK := Lib.hid hok
  clear hok
  cases ht : there r.xs c
  · have HT := Lib.hid ht
    clear ht
    go_enter Tryz.func115, Tryz.ntmps115
    go_wp2_with fail
    refine (access_run B p A cp nv r 5 c x y 0 _ h rfl).mono ?_
    rw [HK.out, HT.out]
    rintro e w1 ⟨rfl, hO, hP⟩
    have HO := Lib.hid hO
    have HP := Lib.hid hP
    clear hO hP h
    go_wp2
    go_ret
    exact ⟨rfl, HO.out, nv, HP.out⟩
  · have HT := Lib.hid ht
    clear ht
    go_enter Tryz.func115, Tryz.ntmps115
    go_wp2_with fail
    refine (access_run B p A cp nv r 5 c x y 0 _ h rfl).mono ?_
    rw [HK.out, HT.out]
    rintro e w1 ⟨rfl, hO, hP⟩
    have HO := Lib.hid hO
    have HP := Lib.hid hP
    clear hO hP h
    go_wp2
    go_ret
    exact ⟨rfl, HO.out, nv, HP.out⟩
theorem RunP.setLine {w : World} {B : Nat} {p A : Option Addr} {cp : Nat} {nv : Value} {r : LS} (h : RunP w B p A cp nv r) (l : Int) : RunP (w.setCell ⟨B, 5, none⟩ (.int .i64 l)) B p A cp nv (r.go l) :=
  h.turn ((Only.refl (· = B) w).setCell (p := ⟨B, 5, none⟩) (.inr rfl) _) (h.row.set 5 (.int .i64 l)) rfl rfl
theorem go_run (h : RunP w B p A cp nv r) : Calls Tryz.prog 51 #[.pointer (some ⟨B, 0, none⟩), .int .i64 c] w (Done B p A cp w (.tuple #[]) (r.go c)) := by
  have c5 : w.cell? ⟨B, 5, none⟩ = some (.int .i64 r.line) := h.row.cell_ (i := 5) rfl
  have f5 : w.frozen? ⟨B, 5, none⟩ = false := h.row.frozen 5
  have HP := Lib.hid h
  clear h
  go_enter Tryz.func51, Tryz.ntmps51
  go_wp2
  go_returns
  exact ⟨rfl, (Only.refl (TurnB B A) w).setCell (p := ⟨B, 5, none⟩) (.inr (.inl rfl)) _, nv, HP.out.setLine c⟩
end
theorem set_wake_only {S : Nat → Prop} {w w' : World} {B : Nat} (h : Only S w w') (hg : S B) (v0 v1 v2 v3 : Value) :
    Only S w ((((w'.setCell ⟨B, 9, none⟩ v0).setCell ⟨B, 10, none⟩ v1).setCell ⟨B, 11, none⟩ v2).setCell ⟨B, 12, none⟩ v3) :=
  (((h.setCell (p := ⟨B, 9, none⟩) (.inr hg) v0).setCell (p := ⟨B, 10, none⟩) (.inr hg) v1).setCell (p := ⟨B, 11, none⟩) (.inr hg) v2).setCell (p := ⟨B, 12, none⟩) (.inr hg) v3
theorem set_wake_row {w : World} {B : Nat} {t : TypeId} {hv nv : Value} {r : LS} (h : Row w B t (r.cells hv nv)) (k : WkV) :
    Row ((((w.setCell ⟨B, 9, none⟩ (.bool k.on)).setCell ⟨B, 10, none⟩ (.int .i64 k.c)).setCell ⟨B, 11, none⟩ (.int .i64 k.i)).setCell ⟨B, 12, none⟩ (.bool k.hit)) B t (({ r with k := k } : LS).cells hv nv) := by
  have e := (((h.set 9 (.bool k.on)).set 10 (.int .i64 k.c)).set 11 (.int .i64 k.i)).set 12 (.bool k.hit)
  exact e
theorem RunP.setWake {w : World} {B : Nat} {p A : Option Addr} {cp : Nat} {nv : Value} {r : LS} (h : RunP w B p A cp nv r) (k : WkV) :
    RunP ((((w.setCell ⟨B, 9, none⟩ (.bool k.on)).setCell ⟨B, 10, none⟩ (.int .i64 k.c)).setCell ⟨B, 11, none⟩ (.int .i64 k.i)).setCell ⟨B, 12, none⟩ (.bool k.hit)) B p A cp nv { r with k := k } :=
  h.turn (set_wake_only (Only.refl (· = B) w) rfl _ _ _ _) (set_wake_row h.row k) rfl rfl
theorem wake_run (B : Nat) (p A : Option Addr) (cp : Nat) (nv : Value) (r : LS) (c : Int) (w : World) (h : RunP w B p A cp nv r) :
    Calls Tryz.prog 79 #[.pointer (some ⟨B, 0, none⟩), .int .i64 c] w (Done B p A cp w (.tuple #[]) (r.wake c)) := by
  have c2 : w.cell? ⟨B, 2, none⟩ = some (.int .i64 r.mode) := h.row.cell_ (i := 2) rfl
  have HP := Lib.hid h
  clear h
  go_enter Tryz.func79, Tryz.ntmps79
  go_wp2_with fail
  clear c2
  refine (begin_any r.mode c _).mono ?_
  rintro e w1 ⟨rfl, hO⟩
  have HP1 := Lib.hid (HP.out.keep hO)
  have HO := Lib.hid (hO.mono (T := TurnB B A) (fun _ _ h => h.elim))
  clear hO HP
  have HD := Lib.hid (show r.wake c = { r with k := beginI r.mode c } from rfl)
  generalize beginI r.mode c = k at *
  dsimp only [WkV.v]
  have a9 : w1.cell? ⟨B, 9, none⟩ = some (.bool r.k.on) := HP1.out.row.cell_ (i := 9) rfl
  have a10 : w1.cell? ⟨B, 10, none⟩ = some (.int .i64 r.k.c) := HP1.out.row.cell_ (i := 10) rfl
  have a11 : w1.cell? ⟨B, 11, none⟩ = some (.int .i64 r.k.i) := HP1.out.row.cell_ (i := 11) rfl
  have a12 : w1.cell? ⟨B, 12, none⟩ = some (.bool r.k.hit) := HP1.out.row.cell_ (i := 12) rfl
  have f9 : w1.frozen? ⟨B, 9, none⟩ = false := HP1.out.row.frozen 9
  have f10 : w1.frozen? ⟨B, 10, none⟩ = false := HP1.out.row.frozen 10
  have f11 : w1.frozen? ⟨B, 11, none⟩ = false := HP1.out.row.frozen 11
  have f12 : w1.frozen? ⟨B, 12, none⟩ = false := HP1.out.row.frozen 12
  go_wp2
  clear a9 a10 a11 a12 f9 f10 f11 f12
  go_returns
  exact ⟨rfl, set_wake_only HO.out (.inl rfl) _ _ _ _, nv, by rw [HD.out]; exact HP1.out.setWake k⟩
def cutV : Value → Value
  | .slice A n c => .slice A n n
  | v => v
theorem clip_any (v : Value) (zs : List Nt) (w : World) (h : OwnN 0 w v zs) : Calls Tryz.prog 87 #[v] w fun e w' => e = .returned (cutV v) ∧ w = w' := by
  rcases h.2 with ⟨rfl, hn⟩ | ⟨g, cap, cur, rfl, _, hg, hc, _⟩
  · clear h
    go_enter Tryz.func87, Tryz.ntmps87
    go_wp2
    go_ret
    exact ⟨rfl, rfl⟩
  · generalize zs.length = n at *
    clear h hg
    go_enter Tryz.func87, Tryz.ntmps87
    go_wp2
    go_ret
    exact ⟨rfl, rfl⟩
theorem run_append_cut (ty : TypeId) (v : Value) (zs : List Nt) (w : World) (g : Nat) (n : Nt) (hown : OwnN 0 w v zs) (hrow : Row w g 81 #[.int .i64 n.t, .int .i64 n.w, .int .i64 n.o, .int .i64 n.a]) (h1 : zs.length ≤ 1000) :
    ∃ v' w', (Builtin.append_ #[40, 40] ty #[cutV v, .slice (some ⟨g, 0, none⟩) 1 1]).run Tryz.prog w = .ok v' w' ∧ OwnN 0 w' v' (zs ++ [n]) ∧ Only Nil w w' := by
  obtain ⟨i0, hi, hz0, hz1, hz2⟩ := info_parts infoN
  have hnews : ∀ j u, (flat1 n)[j]? = some u → w.cell? ((⟨g, 0, none⟩ : Addr).add j) = some u := fun j u hj => by
    rw [add_at, Nat.zero_add]
    exact hrow.cell_ (by rw [← hj]; simp [flat1])
  have hlen : (flat (zs ++ [n])).length = (zs.length + 1) * 4 := by rw [flat_len, List.length_append]; rfl
  have hfl : flat (zs ++ [n]) = flat zs ++ flat1 n := by rw [flat_app]; exact congrArg _ (List.append_nil _)
  have grown : ∀ old, OwnN 0 (w.drew.alloc (.cells ((flat zs).toArray ++ (flat1 n).toArray ++ Builtin.zeroCells (Value.agg #[.int .i64 0, .int .i64 0, .int .i64 0, .int .i64 0]).cells (grownCap w (zs.length + 1) old 81 - (zs.length + 1))) 81)) (.slice (some ⟨w.heap.size, 0, none⟩) (zs.length + 1) (grownCap w (zs.length + 1) old 81)) (zs ++ [n]) := by
    intro old
    have hge := grownCap_ge w (zs.length + 1) old 81
    have hcm := grownCap_le_maxLen w (zs.length + 1) old 81 (by unfold maxLen; omega)
    unfold OwnN
    rw [show (zs ++ [n]).length = zs.length + 1 by rw [List.length_append]; rfl]
    refine ⟨hlen, .inr ⟨w.heap.size, _, _, rfl, Nat.zero_le _, heap_alloc_new w.drew _, hge, hcm, ?_, ?_⟩⟩
    · simp only [Array.size_append, List.size_toArray, size_zeroCells, flat_len]
      show zs.length * 4 + 4 + _ * 4 = _
      omega
    · simp only [Array.toList_append]
      rw [← hfl, ← hlen]
      exact List.take_left
  rcases hown.2 with ⟨rfl, hn⟩ | ⟨q, cap, cur, rfl, _, hq, _⟩
  · obtain rfl := List.eq_nil_of_length_eq_zero hn
    have hr := run_append_nil (P := Tryz.prog) w 40 ty 81 i0 _ Tryz.underlying40 hi hz0 ⟨g, 0, none⟩ 1 1 (flat1 n) (by rw [hz1]; rfl) hnews (by decide) (by decide) (by rw [hz2]; decide)
    have hg := grown 0
    simp only [flat, List.length_nil, Nat.zero_add, Array.empty_append] at hg
    exact ⟨_, _, hr, hg, (Only.refl Nil w).drew.alloc _⟩
  · have holds : ∀ j u, (flat zs)[j]? = some u → w.cell? ((⟨q, 0, none⟩ : Addr).add j) = some u := World.ownsRow.cells hown (g := q) rfl
    have hr := run_append_grow (P := Tryz.prog) w 40 ty 81 i0 _ Tryz.underlying40 hi hz0 ⟨q, 0, none⟩ zs.length zs.length (flat zs) (by rw [hz1]; exact flat_len zs) holds ⟨g, 0, none⟩ 1 1 (flat1 n) (by rw [hz1]; rfl) hnews (by omega) (by omega) (growslice_fits (by omega) (by rw [hz2]; omega))
    exact ⟨_, _, hr, grown _, (Only.refl Nil w).drew.alloc _⟩
end Go.Proofs.YtkkldcggbekleaaGreat
set_option linter.unusedVariables false
set_option linter.unusedSimpArgs false
namespace Go.Proofs.YtkkldcggbekleaaGreat
open Go.RowKit
structure TF (w0 : World) (p A : Option Addr) (cp : Nat) (B : Nat) (tv nv acs : Array Value) (W : World) (xs : List Int) : Prop where
  only : Only (At A) w0 W
  memo : Memo W p A cp xs
  rt : Row W B 115 tv
  rn : Row W (B + 1) 27 nv
  ra : Row W (B + 1 + 1) 39 acs
  lt : ∀ j, At p j ∨ At A j → j < B
  hw : w0.heap.size ≤ B
section
variable {w0 W W' : World} {p A : Option Addr} {cp B : Nat} {tv nv acs : Array Value} {xs ys : List Int}
theorem TF.call (h : TF w0 p A cp B tv nv acs W xs) (ho : Only (At A) W W') (hm : Memo W' p A cp ys) : TF w0 p A cp B tv nv acs W' ys :=
  ⟨h.only.trans ho, hm, h.rt.only ho (fun e => by have := h.lt _ (.inr e); omega), h.rn.only ho (fun e => by have := h.lt _ (.inr e); omega), h.ra.only ho (fun e => by have := h.lt _ (.inr e); omega), h.lt, h.hw⟩
theorem TF.keep (h : TF w0 p A cp B tv nv acs W xs) (ho : Only Nil W W') : TF w0 p A cp B tv nv acs W' xs := h.call (ho.mono (fun _ _ h => h.elim)) (h.memo.keep ho)
theorem TF.setN {a0 a1 a2 a3 : Value} (h : TF w0 p A cp B tv #[a0, a1, a2, a3] acs W xs) (v0 v1 v2 v3 : Value) :
    TF w0 p A cp B tv #[v0, v1, v2, v3] acs ((((W.setCell ⟨B + 1, 0, none⟩ v0).setCell ⟨B + 1, 1, none⟩ v1).setCell ⟨B + 1, 2, none⟩ v2).setCell ⟨B + 1, 3, none⟩ v3) xs := by
  have ho := four_only (Only.refl (· = B + 1) W) (g := B + 1) (.inr rfl) v0 v1 v2 v3
  exact ⟨four_only h.only (.inl (by have := h.hw; omega)) _ _ _ _, h.memo.far ho (fun j hj e => by have := h.lt j hj; omega), h.rt.only ho (fun e => by omega), four h.rn _ _ _ _, h.ra.only ho (fun e => by omega), h.lt, h.hw⟩
theorem TF.setA {a0 a1 a2 a3 a4 : Value} (h : TF w0 p A cp B tv nv #[a0, a1, a2, a3, a4] W xs) (v0 v1 v2 v3 v4 : Value) :
    TF w0 p A cp B tv nv #[v0, v1, v2, v3, v4] (((((W.setCell ⟨B + 1 + 1, 0, none⟩ v0).setCell ⟨B + 1 + 1, 1, none⟩ v1).setCell ⟨B + 1 + 1, 2, none⟩ v2).setCell ⟨B + 1 + 1, 3, none⟩ v3).setCell ⟨B + 1 + 1, 4, none⟩ v4) xs := by
  have ho := five_only (Only.refl (· = B + 1 + 1) W) (g := B + 1 + 1) (.inr rfl) v0 v1 v2 v3 v4
  exact ⟨five_only h.only (.inl (by have := h.hw; omega)) _ _ _ _ _, h.memo.far ho (fun j hj e => by have := h.lt j hj; omega), h.rt.only ho (fun e => by omega), h.rn.only ho (fun e => by omega), five h.ra _ _ _ _ _, h.lt, h.hw⟩
theorem TF.far {g : Nat} (h : TF w0 p A cp B tv nv acs W xs) (ho : Only (· = g) W W') (hg : B + 1 + 1 < g) : TF w0 p A cp B tv nv acs W' xs :=
  ⟨h.only.step ho (fun i hi e => by have := h.hw; omega), h.memo.far ho (fun j hj e => by have := h.lt j hj; omega), h.rt.only ho (fun e => by omega), h.rn.only ho (fun e => by omega), h.ra.only ho (fun e => by omega), h.lt, h.hw⟩
theorem TF.start {w : World} {p A : Option Addr} {cp : Nat} {xs : List Int} (tv : Array Value) (h : Memo w p A cp xs) :
    TF w p A cp w.heap.size tv #[.bool false, .int .i64 0, .int .i64 0, .bool false] #[.int .i64 0, .int .i64 0, .int .u32 0, .int .u32 0, .int .u32 0] (((w.alloc (.cells tv 115)).alloc (.cells #[.bool false, .int .i64 0, .int .i64 0, .bool false] 27)).alloc (.cells #[.int .i64 0, .int .i64 0, .int .u32 0, .int .u32 0, .int .u32 0] 39)) xs := by
  have e0 := (((Only.refl Nil w).alloc (.cells tv 115)).alloc (.cells #[.bool false, .int .i64 0, .int .i64 0, .bool false] 27)).alloc (.cells #[.int .i64 0, .int .i64 0, .int .u32 0, .int .u32 0, .int .u32 0] 39)
  refine ⟨e0.mono (fun _ _ h => h.elim), h.keep e0, ((Row.new w _ _).alloc _).alloc _, (Row.new2 w _ _ _).alloc _, ?_, h.lt, Nat.le_refl _⟩
  have e := Row.new2 (w.alloc (.cells tv 115)) (.cells #[.bool false, .int .i64 0, .int .i64 0, .bool false] 27) 39 #[.int .i64 0, .int .i64 0, .int .u32 0, .int .u32 0, .int .u32 0]
  rwa [show (w.alloc (.cells tv 115)).heap.size = w.heap.size + 1 by simp] at e
end
def Turned (p A : Option Addr) (cp : Nat) (nx : WkV) (acc : Value) (ok : Bool) (ys : List Int) (w : World) (e : Ending) (w' : World) : Prop :=
  e = .returned (.tuple #[nx.v, acc, .bool ok]) ∧ Only (At A) w w' ∧ Memo w' p A cp ys
end Go.Proofs.YtkkldcggbekleaaGreat
set_option linter.unusedVariables false
set_option linter.unusedSimpArgs false
namespace Go.Proofs.YtkkldcggbekleaaGreat
open Go.RowKit
theorem at_any (p : Option Addr) (n : Int) (on : Bool) (c i : Int) (hit : Bool) (j : Int) (b : Bool) (w : World) :
    Calls Tryz.prog 96 #[.agg #[.pointer p, .int .i64 n, .bool on, .int .i64 c, .int .i64 i, .bool hit], .int .i64 j, .bool b] w fun e w' =>
      e = .returned (.agg #[.bool true, .int .i64 c, .int .i64 j, .bool b]) ∧ Only Nil w w' := by
  go_enter Tryz.func96, Tryz.ntmps96
  go_wp2
  refine post_row (P := Tryz.prog) Tryz.results96 (t := 27) (by rfl) (Row.new2 _ _ _ _) Tryz.underlying27 rfl (by kernel_rfl) rfl ⟨rfl, ((Only.refl Nil w).alloc _).alloc _⟩
theorem end_any (p : Option Addr) (n : Int) (on : Bool) (c i : Int) (hit : Bool) (w : World) :
    Calls Tryz.prog 94 #[.agg #[.pointer p, .int .i64 n, .bool on, .int .i64 c, .int .i64 i, .bool hit]] w fun e w' =>
      e = .returned (.agg #[.bool true, .int .i64 c, .int .i64 n, .bool false]) ∧ Only Nil w w' := by
  go_enter Tryz.func94, Tryz.ntmps94
  go_wp2_with fail
  refine (at_any p n on c i hit n false _).mono ?_
  rintro e w1 ⟨rfl, hO⟩
  have HR := Lib.hid ((Row.new2 w (.cells #[.pointer p, .int .i64 n, .bool on, .int .i64 c, .int .i64 i, .bool hit] 115) 27 #[.bool false, .int .i64 0, .int .i64 0, .bool false]).only hO id)
  have HO := Lib.hid ((((Only.refl Nil w).alloc (.cells #[.pointer p, .int .i64 n, .bool on, .int .i64 c, .int .i64 i, .bool hit] 115)).alloc (.cells #[.bool false, .int .i64 0, .int .i64 0, .bool false] 27)).trans hO)
  clear hO
  have c0 : w1.cell? ⟨w.heap.size + 1, 0, none⟩ = some (.bool false) := HR.out.cell_ (i := 0) rfl
  have c1 : w1.cell? ⟨w.heap.size + 1, 1, none⟩ = some (.int .i64 0) := HR.out.cell_ (i := 1) rfl
  have c2 : w1.cell? ⟨w.heap.size + 1, 2, none⟩ = some (.int .i64 0) := HR.out.cell_ (i := 2) rfl
  have c3 : w1.cell? ⟨w.heap.size + 1, 3, none⟩ = some (.bool false) := HR.out.cell_ (i := 3) rfl
  have g0 : w1.frozen? ⟨w.heap.size + 1, 0, none⟩ = false := HR.out.frozen 0
  have g1 : w1.frozen? ⟨w.heap.size + 1, 1, none⟩ = false := HR.out.frozen 1
  have g2 : w1.frozen? ⟨w.heap.size + 1, 2, none⟩ = false := HR.out.frozen 2
  have g3 : w1.frozen? ⟨w.heap.size + 1, 3, none⟩ = false := HR.out.frozen 3
  go_wp2
  refine post_row (P := Tryz.prog) Tryz.results94 (t := 27) (g := w.heap.size + 1) (by rfl) (four HR.out _ _ _ _) Tryz.underlying27 rfl (by kernel_rfl) rfl ⟨rfl, four_only HO.out (.inl (by omega)) _ _ _ _⟩
end Go.Proofs.YtkkldcggbekleaaGreat
namespace Go.Proofs.YtkkldcggbekleaaGreat
open Go.RowKit
theorem permit_any (n i : Int) (w : World) :
    Calls Tryz.prog 125 #[.agg #[.int .i64 n], .int .i64 i] w fun e w' => e = .returned (.int .i64 (cellI n 3 i)) ∧ Only Nil w w' := by
  go_enter Tryz.func125, Tryz.ntmps125
  go_wp2_with fail
  refine (cell_row n 3 i _ (by omega)).mono ?_
  rintro e w1 ⟨rfl, hO⟩
  have HO := Lib.hid hO
  clear hO
  go_wp2
  go_ret
  exact ⟨rfl, (Only.alloc (Only.refl _ _) _).trans HO.out⟩
end Go.Proofs.YtkkldcggbekleaaGreat
set_option linter.unusedVariables false
set_option linter.unusedSimpArgs false
namespace Go.Proofs.YtkkldcggbekleaaGreat
open Go.RowKit
theorem on_any (p A : Option Addr) (cp : Nat) (xs : List Int) (n i k c x y o : Int) (w : World) (h : Memo w p A cp xs) :
    Calls Tryz.prog 117 #[.func (.func 37) #[.pointer p] #[], .agg #[.int .i64 n], .int .i64 i, .agg #[.int .i64 k, .int .i64 c, .int .u32 x, .int .u32 y, .int .u32 o]] w fun e w' =>
      e = .returned (.tuple #[doVal xs k (pc n i) x y, .bool (doOk xs k (pc n i))]) ∧ Only (At A) w w' ∧ Memo w' p A cp (doNew xs k (pc n i) x y) := by
  have HH := Lib.hid h
  clear h
  go_enter Tryz.func117, Tryz.ntmps117
  go_wp2_with fail
  refine (permit_any n i _).mono ?_
  rintro e w1 ⟨rfl, hO⟩
  have R7 : Row w1 (w.heap.size + 1) 39 #[.int .i64 k, .int .i64 c, .int .u32 x, .int .u32 y, .int .u32 o] := ((Row.new2 w _ _ _).alloc _).only hO id
  have R8 : Row w1 (w.heap.size + 1 + 1) 39 #[.int .i64 0, .int .i64 0, .int .u32 0, .int .u32 0, .int .u32 0] := by
    refine Row.only ?_ hO id
    have e := Row.new2 (w.alloc (Obj.cells #[Value.int IntKind.i64 n] 37)) (Obj.cells #[Value.int IntKind.i64 k, Value.int IntKind.i64 c, Value.int IntKind.u32 x, Value.int IntKind.u32 y, Value.int IntKind.u32 o] 39) 39 #[.int .i64 0, .int .i64 0, .int .u32 0, .int .u32 0, .int .u32 0]
    simpa using e
  have HO1 : Hid (Only Nil w w1) := Lib.hid (((((Only.refl Nil w).alloc _).alloc _).alloc _).trans hO)
  have hM : Memo w1 p A cp xs := HH.out.keep HO1.out
  have c70 : w1.cell? ⟨w.heap.size + 1, 0, none⟩ = some (.int .i64 k) := R7.cell_ (i := 0) rfl
  have c71 : w1.cell? ⟨w.heap.size + 1, 1, none⟩ = some (.int .i64 c) := R7.cell_ (i := 1) rfl
  have c72 : w1.cell? ⟨w.heap.size + 1, 2, none⟩ = some (.int .u32 x) := R7.cell_ (i := 2) rfl
  have c73 : w1.cell? ⟨w.heap.size + 1, 3, none⟩ = some (.int .u32 y) := R7.cell_ (i := 3) rfl
  have c74 : w1.cell? ⟨w.heap.size + 1, 4, none⟩ = some (.int .u32 o) := R7.cell_ (i := 4) rfl
  have f70 : w1.frozen? ⟨w.heap.size + 1, 0, none⟩ = false := R7.frozen 0
  have f71 : w1.frozen? ⟨w.heap.size + 1, 1, none⟩ = false := R7.frozen 1
  have f72 : w1.frozen? ⟨w.heap.size + 1, 2, none⟩ = false := R7.frozen 2
  have f73 : w1.frozen? ⟨w.heap.size + 1, 3, none⟩ = false := R7.frozen 3
  have f74 : w1.frozen? ⟨w.heap.size + 1, 4, none⟩ = false := R7.frozen 4
  have HR7 := Lib.hid R7
  have HR8 := Lib.hid R8
  have HM := Lib.hid hM
  clear hO R7 R8 hM
  show _
  have hpc : cellI n 3 i = pc n i := rfl
  rw [hpc]
  clear hpc
  go_wp2_with fail
  have ha : ∀ j, At p j ∨ At A j → j < w.heap.size := HH.out.lt
  have e1 : Only (· = w.heap.size + 1) w1 (w1.setCell ⟨w.heap.size + 1, 1, none⟩ (.int .i64 (pc n i))) := (Only.refl (· = w.heap.size + 1) w1).setCell (p := ⟨w.heap.size + 1, 1, none⟩) (.inr rfl) _
  refine (do_memo p A cp xs k (pc n i) x y o _ (HM.out.far e1 (fun j hj h => by have := ha j hj; omega))).mono ?_
  obtain ⟨k', c', x', y', hv⟩ := doVal_form xs k (pc n i) x y
  rw [hv]
  rintro e w2 ⟨rfl, hO, hM⟩
  have hS : Only (At A) w w2 := ((HO1.out.mono (fun _ _ h => h.elim)).setCell (p := ⟨w.heap.size + 1, 1, none⟩) (.inl (by simp)) (.int .i64 (pc n i))).trans hO
  have R8 := (HR8.out.far (p := ⟨w.heap.size + 1, 1, none⟩) (by simp) (.int .i64 (pc n i))).only hO (fun h => by have := ha _ (.inr h); omega)
  have c80 : w2.cell? ⟨w.heap.size + 1 + 1, 0, none⟩ = some (.int .i64 0) := R8.cell_ (i := 0) rfl
  have c81 : w2.cell? ⟨w.heap.size + 1 + 1, 1, none⟩ = some (.int .i64 0) := R8.cell_ (i := 1) rfl
  have c82 : w2.cell? ⟨w.heap.size + 1 + 1, 2, none⟩ = some (.int .u32 0) := R8.cell_ (i := 2) rfl
  have c83 : w2.cell? ⟨w.heap.size + 1 + 1, 3, none⟩ = some (.int .u32 0) := R8.cell_ (i := 3) rfl
  have c84 : w2.cell? ⟨w.heap.size + 1 + 1, 4, none⟩ = some (.int .u32 0) := R8.cell_ (i := 4) rfl
  have f80 : w2.frozen? ⟨w.heap.size + 1 + 1, 0, none⟩ = false := R8.frozen 0
  have f81 : w2.frozen? ⟨w.heap.size + 1 + 1, 1, none⟩ = false := R8.frozen 1
  have f82 : w2.frozen? ⟨w.heap.size + 1 + 1, 2, none⟩ = false := R8.frozen 2
  have f83 : w2.frozen? ⟨w.heap.size + 1 + 1, 3, none⟩ = false := R8.frozen 3
  have f84 : w2.frozen? ⟨w.heap.size + 1 + 1, 4, none⟩ = false := R8.frozen 4
  have HR9 := Lib.hid R8
  have HS := Lib.hid hS
  have HM2 := Lib.hid hM
  have HA := Lib.hid ha
  generalize (if doOk xs k (pc n i) then wordAt xs (pc n i) else 0) = o' at hv
  generalize hok : doOk xs k (pc n i) = ok at hv
  have HV := Lib.hid hv
  have HOK := Lib.hid hok
  clear hO R8 hS hM c70 c71 c72 c73 c74 f70 f71 f72 f73 f74 e1 hv ha hok
  go_wp2
  refine post_row_tmp (P := Tryz.prog) Tryz.results117 (t := 39) (g := w.heap.size + 1 + 1) (cs := #[.int .i64 k', .int .i64 c', .int .u32 x', .int .u32 y', .int .u32 o']) rfl (five HR9.out _ _ _ _ _) Tryz.underlying39 rfl (by kernel_rfl) rfl ⟨?_, five_only HS.out (.inl (by omega)) _ _ _ _ _, ?_⟩
  · rw [HV.out, HOK.out]; rfl
  · exact HM2.out.far (five_only (Only.refl (· = w.heap.size + 1 + 1) w2) (.inr rfl) _ _ _ _ _) (fun j hj h => by have := HA.out j hj; omega)
end Go.Proofs.YtkkldcggbekleaaGreat
set_option linter.unusedVariables false
set_option linter.unusedSimpArgs false
namespace Go.Proofs.YtkkldcggbekleaaGreat
open Go.RowKit
theorem give_any (p A : Option Addr) (cp : Nat) (xs : List Int) (n i : Int) (w : World) (h : Memo w p A cp xs) :
    Calls Tryz.prog 95 #[.pointer p, .agg #[.int .i64 n], .int .i64 i] w fun e w' =>
      e = .returned (.tuple #[doVal xs 2 (pc n i) 1 0, .bool (there xs (pc n i))]) ∧ Only (At A) w w' ∧ Memo w' p A cp (st xs (pc n i) 1) := by
  have hok0 : doOk xs 2 (pc n i) = there xs (pc n i) := by simp [doOk, isKind]
  have hst : doNew xs 2 (pc n i) 1 0 = st xs (pc n i) 1 := by rw [doNew_st xs 2 _ 1 0 rfl]; rfl
  have HH := Lib.hid h
  have ha : ∀ j, At p j ∨ At A j → j < w.heap.size := HH.out.lt
  have HA := Lib.hid ha
  clear h ha
  go_enter Tryz.func95, Tryz.ntmps95
  go_wp2_with fail
  have e0 := ((Only.refl Nil w).alloc (Obj.cells #[Value.int IntKind.i64 n] 37)).alloc (Obj.cells #[Value.int IntKind.i64 0, Value.int IntKind.i64 0, Value.int IntKind.u32 0, Value.int IntKind.u32 0, Value.int IntKind.u32 0] 39)
  refine (on_any p A cp xs n i 2 0 1 0 0 _ (HH.out.keep e0)).mono ?_
  obtain ⟨k', c', x', y', hv⟩ := doVal_form xs 2 (pc n i) 1 0
  rw [hv, hok0, hst]
  rw [hok0] at hv
  rintro e w2 ⟨rfl, hO, hM⟩
  have hS : Only (At A) w w2 := (e0.mono (fun _ _ h => h.elim)).trans hO
  have R8 : Row w2 (w.heap.size + 1) 39 #[.int .i64 0, .int .i64 0, .int .u32 0, .int .u32 0, .int .u32 0] := (Row.new2 w _ _ _).only hO (fun h => by have := HA.out _ (.inr h); omega)
  have c80 : w2.cell? ⟨w.heap.size + 1, 0, none⟩ = some (.int .i64 0) := R8.cell_ (i := 0) rfl
  have c81 : w2.cell? ⟨w.heap.size + 1, 1, none⟩ = some (.int .i64 0) := R8.cell_ (i := 1) rfl
  have c82 : w2.cell? ⟨w.heap.size + 1, 2, none⟩ = some (.int .u32 0) := R8.cell_ (i := 2) rfl
  have c83 : w2.cell? ⟨w.heap.size + 1, 3, none⟩ = some (.int .u32 0) := R8.cell_ (i := 3) rfl
  have c84 : w2.cell? ⟨w.heap.size + 1, 4, none⟩ = some (.int .u32 0) := R8.cell_ (i := 4) rfl
  have f80 : w2.frozen? ⟨w.heap.size + 1, 0, none⟩ = false := R8.frozen 0
  have f81 : w2.frozen? ⟨w.heap.size + 1, 1, none⟩ = false := R8.frozen 1
  have f82 : w2.frozen? ⟨w.heap.size + 1, 2, none⟩ = false := R8.frozen 2
  have f83 : w2.frozen? ⟨w.heap.size + 1, 3, none⟩ = false := R8.frozen 3
  have f84 : w2.frozen? ⟨w.heap.size + 1, 4, none⟩ = false := R8.frozen 4
  have HR9 := Lib.hid R8
  have HS := Lib.hid hS
  have HM2 := Lib.hid hM
  generalize (if there xs (pc n i) then wordAt xs (pc n i) else 0) = o' at hv
  generalize hok : there xs (pc n i) = ok at hv
  have HV := Lib.hid hv
  have HOK := Lib.hid hok
  clear hO R8 hS hM e0 hv hok hok0 hst
  go_wp2
  refine post_row_tmp (P := Tryz.prog) Tryz.results95 (t := 39) (g := w.heap.size + 1) (cs := #[.int .i64 k', .int .i64 c', .int .u32 x', .int .u32 y', .int .u32 o']) rfl (five HR9.out _ _ _ _ _) Tryz.underlying39 rfl (by kernel_rfl) rfl ⟨?_, five_only HS.out (.inl (by omega)) _ _ _ _ _, ?_⟩
  · rw [HV.out, HOK.out]; rfl
  · exact HM2.out.far (five_only (Only.refl (· = w.heap.size + 1) w2) (.inr rfl) _ _ _ _ _) (fun j hj h => by have := HA.out j hj; omega)
end Go.Proofs.YtkkldcggbekleaaGreat
namespace Go.Proofs.YtkkldcggbekleaaGreat
open Go.RowKit
theorem watch_any (n i : Int) (w : World) :
    Calls Tryz.prog 97 #[.agg #[.int .i64 n], .int .i64 i] w fun e w' => e = .returned (.int .i64 (cellI n 2 i)) ∧ Only Nil w w' := by
  go_enter Tryz.func97, Tryz.ntmps97
  go_wp2_with fail
  refine (cell_row n 2 i _ (by omega)).mono ?_
  rintro e w1 ⟨rfl, hO⟩
  have HO := Lib.hid hO
  clear hO
  go_wp2
  go_ret
  exact ⟨rfl, (Only.alloc (Only.refl _ _) _).trans HO.out⟩
end Go.Proofs.YtkkldcggbekleaaGreat
