import Derived.Test.YtkkldcggbekleaaGreatS15
import Derived.Test.YtkkldcggbekleaaGreatS8
import Derived.Test.YtkkldcggbekleaaGreatS16
import Derived.Test.YtkkldcggbekleaaGreatS19
import Derived.Test.YtkkldcggbekleaaGreatS12
import Derived.Test.YtkkldcggbekleaaGreatS6
import Derived.Test.YtkkldcggbekleaaGreatS5
set_option linter.unusedVariables false
set_option linter.unusedSimpArgs false
namespace Go.Proofs.YtkkldcggbekleaaGreat
open Go.RowKit
theorem Row.at {w : World} {t : TypeId} {cs : Array Value} {k : Nat} (h : w.heap.size = k) : Row (w.alloc (.cells cs t)) k t cs := by subst h; exact Row.new w t cs
set_option maxRecDepth 100000 in
set_option maxHeartbeats 1000000 in
theorem wait_run (B : Nat) (p A : Option Addr) (cp : Nat) (nv : Value) (r : LS) (c : Int) (F : Fn) (f1 f2 : Array Value) (q : Int → Bool) (w : World) (h : RunP w B p A cp nv r) (hf : Holds A w (.func F f1 f2) q) (hx : Words r.xs) :
    Calls Tryz.prog 81 #[.pointer (some ⟨B, 0, none⟩), .int .i64 c, .func F f1 f2] w (Done B p A cp w (.tuple #[.bool (r.stepR c q).seen, .bool (r.stepR c q).done]) (r.wait c q)) := by
  have e0 := (((((Only.refl Nil w).alloc (.cells #[.pointer (some ⟨B, 0, none⟩)] 35)).alloc (.cells #[.int .i64 c] 3)).alloc (.cells #[.func F f1 f2] 121)).alloc (.cells #[.bool false] 4)).alloc (.cells #[.bool false] 4)
  have HP : Hid (WB _ B p A cp nv w.heap.size c (.func F f1 f2) r false false) := Lib.hid ⟨h.keep e0, ((((Row.new w 35 #[.pointer (some ⟨B, 0, none⟩)]).alloc _).alloc _).alloc _).alloc _,
    (((Row.at (t := 3) (cs := #[.int .i64 c]) (by simp)).alloc _).alloc _).alloc _, ((Row.at (t := 121) (cs := #[.func F f1 f2]) (by simp)).alloc _).alloc _, (Row.at (t := 4) (cs := #[.bool false]) (by simp)).alloc _, Row.at (by simp)⟩
  have HO := Lib.hid (e0.mono (T := TurnB B A) (fun _ _ h => h.elim))
  have HF := Lib.hid (hf.move0 e0)
  have HX := Lib.hid hx
  clear h hf hx e0
  rw [show r.wait c q = { r with s := (r.stepR c q).next, acc := ofV (r.stepR c q).acc, xs := (r.stepR c q).xs } from rfl]
  generalize hst : r.stepR c q = t at *
  have HST := Lib.hid hst
  clear hst
  obtain ⟨nx, ac, sn, dn, zs⟩ := t
  dsimp only
  generalize hr2 : ({ r with s := nx, acc := ofV ac, xs := zs } : LS) = r2 at *
  have HR2 := Lib.hid hr2
  clear hr2
  go_enter Tryz.func81, Tryz.ntmps81
  go_upto_region 1 with (fail)
  generalize ((((w.alloc (.cells #[.pointer (some ⟨B, 0, none⟩)] 35)).alloc (.cells #[.int .i64 c] 3)).alloc (.cells #[.func F f1 f2] 121)).alloc (.cells #[.bool false] 4)).alloc (.cells #[.bool false] 4) = w1 at *
  generalize hgg : w.heap.size = g at *
  have HG := Lib.hid hgg
  clear hgg
  have a0 : w1.cell? ⟨g, 0, none⟩ = some (.pointer (some ⟨B, 0, none⟩)) := HP.out.r0.cell_ (i := 0) rfl
  go_wp2_with fail
  clear a0
  refine (wait_do B p A cp nv g c (.func F f1 f2) q r false false _ HP.out HF.out HX.out).mono ?_
  rw [HST.out]
  intro e w2 hF
  obtain ⟨rfl, hO, hP⟩ := hF
  dsimp only at hP
  rw [HR2.out] at hP
  have HP2 := Lib.hid hP
  have HO2 := Lib.hid (HO.out.step hO (fun i hi hd => by
    rcases hd with hd | hd | hd
    · exact hd
    · have := HG.out; omega
    · have := HG.out; omega))
  clear hO hP HP HO
  go_upto_region 4 with (fail)
  refine wp_region_phase (n := 4) 3 (fun w => w.cell? ⟨g + 3, 0, none⟩ = some (.bool sn) ∧ w.cell? ⟨g + 4, 0, none⟩ = some (.bool dn)) rfl (by kernel_rfl) ⟨HP2.out.r3.cell_ (i := 0) rfl, HP2.out.r4.cell_ (i := 0) rfl⟩ (fun hHeld => ?_)
  have HP3 := Lib.hid (HP2.out.keep (Only.refl Nil w2).drew)
  have HO3 := Lib.hid HO2.out.drew
  clear HP2 HO2
  generalize w2.drew = w3 at *
  refine mpt 0 rfl (.bool sn) (fun w hSw => ?_) ?_
  · (try dsimp only at hSw)
    go_split_ands
    go_simp
  (try simp only [Act.put, k1, k2, k3])
  refine mpt 1 rfl (.bool dn) (fun w hSw => ?_) ?_
  · (try dsimp only at hSw)
    go_split_ands
    go_simp
  (try simp only [Act.put, k1, k2, k3])
  have b3 : w3.cell? ⟨g + 1 + 1 + 1, 0, none⟩ = some (.bool sn) := HP3.out.r3.cell_ (i := 0) rfl
  have f3 : w3.frozen? ⟨g + 1 + 1 + 1, 0, none⟩ = false := HP3.out.r3.frozen 0
  refine mpc 2 rfl (by kernel_rfl) (by rfl) (fun K hK => ?_)
  go_simp
  have HP4 : Hid (WB (w3.setCell ⟨g + 1 + 1 + 1, 0, none⟩ (.bool sn)) B p A cp nv g c (.func F f1 f2) r2 sn dn) := Lib.hid (HP3.out.set3 sn)
  have HO4 := Lib.hid (HO3.out.setCell (p := ⟨g + 1 + 1 + 1, 0, none⟩) (.inl (by have := HG.out; show w.heap.size ≤ g + 1 + 1 + 1; omega)) (.bool sn))
  refine hK.out _ _ (.inr ⟨HP4.out.r3.cell_ (i := 0) rfl, HP4.out.r4.cell_ (i := 0) rfl⟩) ?_
  clear hK K hHeld b3 f3 HP3 HO3
  generalize w3.setCell ⟨g + 1 + 1 + 1, 0, none⟩ (.bool sn) = w4 at *
  (try simp only [Act.put, k1, k2, k3])
  have b3 : w4.cell? ⟨g + 1 + 1 + 1 + 1, 0, none⟩ = some (.bool dn) := HP4.out.r4.cell_ (i := 0) rfl
  have f3 : w4.frozen? ⟨g + 1 + 1 + 1 + 1, 0, none⟩ = false := HP4.out.r4.frozen 0
  refine mpc 3 rfl (by kernel_rfl) (by rfl) (fun K hK => ?_)
  go_simp
  have HP5 : Hid (WB (w4.setCell ⟨g + 1 + 1 + 1 + 1, 0, none⟩ (.bool dn)) B p A cp nv g c (.func F f1 f2) r2 sn dn) := Lib.hid (HP4.out.set4 dn)
  have HO5 := Lib.hid (HO4.out.setCell (p := ⟨g + 1 + 1 + 1 + 1, 0, none⟩) (.inl (by have := HG.out; show w.heap.size ≤ g + 1 + 1 + 1 + 1; omega)) (.bool dn))
  refine hK.out _ _ (.inl (by kernel_rfl)) ?_
  clear hK K b3 f3 HP4 HO4
  generalize w4.setCell ⟨g + 1 + 1 + 1 + 1, 0, none⟩ (.bool dn) = w5 at *
  (try simp only [Act.put, k1, k2, k3])
  refine wpAnyP_done (by kernel_rfl) ?_ _
  have b3 : w5.cell? ⟨g + 1 + 1 + 1, 0, none⟩ = some (.bool sn) := HP5.out.r3.cell_ (i := 0) rfl
  have b4 : w5.cell? ⟨g + 1 + 1 + 1 + 1, 0, none⟩ = some (.bool dn) := HP5.out.r4.cell_ (i := 0) rfl
  go_wp2
  exact bodyPost_ret (v := .tuple #[.bool sn, .bool dn]) (by simp [results, Tryz.results81, go_sem, b3, b4]) rfl ⟨rfl, HO5.out, nv, HP5.out.run⟩
end Go.Proofs.YtkkldcggbekleaaGreat
set_option linter.unusedVariables false
set_option linter.unusedSimpArgs false
namespace Go.Proofs.YtkkldcggbekleaaGreat
open Go.RowKit
theorem wp_append_cut {o : Oper} {a : Act} {K : Act → World → Prop} {Q : Exit → Act → World → Prop} (s x : Operand) (ho : o.op = .call { callee := .builtin .append, args := #[s, x], argTypes := #[40, 40] })
    (v : Value) (zs : List Nt) (w : World) (g : Nat) (n : Nt) (hs : a.eval s = cutV v) (hx : a.eval x = .slice (some ⟨g, 0, none⟩) 1 1) (hown : OwnN 0 w v zs) (hrow : Row w g 81 #[.int .i64 n.t, .int .i64 n.w, .int .i64 n.o, .int .i64 n.a]) (h1 : zs.length ≤ 1000)
    (h : ∀ A' n' c' w', OwnN 0 w' (.slice A' n' c') (zs ++ [n]) → Only Nil w w' → K (a.put o.dst (.slice A' n' c')) w') : o.wp Tryz.prog a w K Q := by
  obtain ⟨v', w', hr, h2, h3⟩ := run_append_cut o.type v zs w g n hown hrow h1
  unfold Oper.wp execOp
  simp only [ho, resolve, invoke, builtin, Sem.run_bind, Sem.run_pure, Result.andThen_ok, List.map_toArray, List.map_cons, List.map_nil, hs, hx, hr]
  obtain ⟨A', c', rfl, _⟩ := own_form h2
  exact h _ _ _ w' h2 h3
theorem RunP.setNotes {w : World} {B : Nat} {p A : Option Addr} {cp : Nat} {nv v : Value} {r : LS} {zs : List Nt} (h : RunP w B p A cp nv r) (hn : OwnN 0 w v zs) : RunP (w.setCell ⟨B, 19, none⟩ v) B p A cp v { r with ns := zs } := by
  have ho := (Only.refl (· = B) w).setCell (p := ⟨B, 19, none⟩) (.inr rfl) v
  refine ⟨h.row.set 19 v, own_only hn ho (fun i hi => ?_), h.memo.far ho (fun j hj => h.far hj)⟩
  rintro rfl
  obtain ⟨cur, hc⟩ := ownN_tag hn hi
  exact absurd (h.row.same hc).1 (by decide)
set_option maxRecDepth 100000 in
set_option maxHeartbeats 1000000 in
theorem note_run (B : Nat) (p A : Option Addr) (cp : Nat) (nv : Value) (r : LS) (what arg : Int) (w : World) (h : RunP w B p A cp nv r) (hl : r.ns.length ≤ 1000) :
    Calls Tryz.prog 48 #[.pointer (some ⟨B, 0, none⟩), .int .i64 what, .int .i64 arg] w (Done B p A cp w (.tuple #[]) (r.note what arg)) := by
  have m19 : w.cell? ⟨B, 19, none⟩ = some nv := h.row.cell_ (i := 19) rfl
  have m3 : w.cell? ⟨B, 3, none⟩ = some (.int .i64 r.task) := h.row.cell_ (i := 3) rfl
  have HP := Lib.hid h
  have HL := Lib.hid hl
  clear h hl
  go_enter Tryz.func48, Tryz.ntmps48
  go_upto_region 1 with (fail)
  refine wp_region_phase (n := 18) 14 (fun w => w.cell? ⟨B, 19, none⟩ = some nv ∧ w.cell? ⟨B, 3, none⟩ = some (.int .i64 r.task)) rfl (by kernel_rfl) ⟨m19, m3⟩ (fun hHeld => ?_)
  have HP1 := Lib.hid (HP.out.keep (Only.refl Nil w).drew)
  have HO1 := Lib.hid ((Only.refl (TurnB B A) w).drew)
  clear m19 m3 HP
  generalize w.drew = w2 at *
  refine mpa 0 rfl (.pointer (some ⟨B, 0, none⟩)) (fun w => ?_) ?_
  · go_simp
  (try simp only [Act.put, k1, k2, k3])
  refine mpa 1 rfl (.pointer (some ⟨B, 0, none⟩)) (fun w => ?_) ?_
  · go_simp
  (try simp only [Act.put, k1, k2, k3])
  refine mpa 2 rfl (.pointer (some ⟨B, 0, none⟩)) (fun w => ?_) ?_
  · go_simp
  (try simp only [Act.put, k1, k2, k3])
  refine mpa 3 rfl (.pointer (some ⟨B, 19, none⟩)) (fun w => ?_) ?_
  · go_simp
  (try simp only [Act.put, k1, k2, k3])
  refine mpt 4 rfl (nv) (fun w hSw => ?_) ?_
  · (try dsimp only at hSw)
    go_split_ands
    go_simp
  (try simp only [Act.put, k1, k2, k3])
  refine mpa 6 rfl (.pointer (some ⟨B, 0, none⟩)) (fun w => ?_) ?_
  · go_simp
  (try simp only [Act.put, k1, k2, k3])
  refine mpa 7 rfl (.pointer (some ⟨B, 0, none⟩)) (fun w => ?_) ?_
  · go_simp
  (try simp only [Act.put, k1, k2, k3])
  refine mpa 8 rfl (.pointer (some ⟨B, 3, none⟩)) (fun w => ?_) ?_
  · go_simp
  (try simp only [Act.put, k1, k2, k3])
  refine mpt 9 rfl (.int .i64 r.task) (fun w hSw => ?_) ?_
  · (try dsimp only at hSw)
    go_split_ands
    go_simp
  (try simp only [Act.put, k1, k2, k3])
  refine mpa 10 rfl (.int .i64 what) (fun w => ?_) ?_
  · go_simp
  (try simp only [Act.put, k1, k2, k3])
  refine mpa 11 rfl (.int .i64 arg) (fun w => ?_) ?_
  · go_simp
  (try simp only [Act.put, k1, k2, k3])
  refine mpa 12 rfl (.agg #[.int .i64 r.task, .int .i64 what, .int .i64 0, .int .i64 arg]) (fun w => ?_) ?_
  · go_simp
  (try simp only [Act.put, k1, k2, k3])
  refine pd_5_13 rfl rfl (by kernel_rfl) (by rfl) (fun K hK => ?_) (by rfl) (fun K hK => ?_)
  · go_simp
    refine (clip_any nv r.ns _ HP1.out.notes).mono ?_
    rintro e w4 ⟨rfl, rfl⟩
    refine hK.out _ _ (.inr hHeld) ?_
    clear hK K
    (try simp only [Act.put, k1, k2, k3])
    refine mpc 13 rfl (by kernel_rfl) (by rfl) (fun K hK => ?_)
    go_simp
    have HP2 := Lib.hid (HP1.out.keep ((Only.refl Nil w2).alloc (.cells #[.int .i64 r.task, .int .i64 what, .int .i64 0, .int .i64 arg] 81)))
    have HO2 := Lib.hid (HO1.out.alloc (.cells #[.int .i64 r.task, .int .i64 what, .int .i64 0, .int .i64 arg] 81))
    have HN := Lib.hid (Row.new w2 81 #[.int .i64 r.task, .int .i64 what, .int .i64 0, .int .i64 arg])
    have hHeld2 : (w2.alloc (.cells #[.int .i64 r.task, .int .i64 what, .int .i64 0, .int .i64 arg] 81)).cell? ⟨B, 19, none⟩ = some nv ∧ (w2.alloc (.cells #[.int .i64 r.task, .int .i64 what, .int .i64 0, .int .i64 arg] 81)).cell? ⟨B, 3, none⟩ = some (.int .i64 r.task) := ⟨HP2.out.row.cell_ (i := 19) rfl, HP2.out.row.cell_ (i := 3) rfl⟩
    refine hK.out _ _ (.inr hHeld2) ?_
    clear hK K hHeld HP1 HO1
    generalize w2.alloc (.cells #[.int .i64 r.task, .int .i64 what, .int .i64 0, .int .i64 arg] 81) = w3 at *
    generalize w2.heap.size = g at *
    (try simp only [Act.put, k1, k2, k3])
    refine mpc 14 rfl (by kernel_rfl) (by rfl) (fun K hK => ?_)
    refine wp_append_cut (.tmp 13) (.tmp 21) rfl nv r.ns _ g ⟨r.task, what, 0, arg⟩ (by rfl) (by rfl) HP2.out.notes HN.out HL.out (fun A9 n9 c9 w5 hown hO => ?_)
    have HP3 := Lib.hid (HP2.out.keep hO)
    have HO3 := Lib.hid (HO2.out.trans (hO.mono (T := TurnB B A) (fun _ _ h => h.elim)))
    have HV := Lib.hid hown
    refine hK.out _ _ (.inl (by kernel_rfl)) ?_
    clear hK K hHeld2 hO hown HP2 HO2 HN
    (try simp only [Act.put, k1, k2, k3])
    refine mpa 15 rfl (.pointer (some ⟨B, 0, none⟩)) (fun w => ?_) ?_
    · go_simp
    (try simp only [Act.put, k1, k2, k3])
    refine mpa 16 rfl (.pointer (some ⟨B, 19, none⟩)) (fun w => ?_) ?_
    · go_simp
    (try simp only [Act.put, k1, k2, k3])
    have c19 : w5.cell? ⟨B, 19, none⟩ = some nv := HP3.out.row.cell_ (i := 19) rfl
    have f19 : w5.frozen? ⟨B, 19, none⟩ = false := HP3.out.row.frozen 19
    refine mpc 17 rfl (by kernel_rfl) (by rfl) (fun K hK => ?_)
    go_simp
    refine hK.out _ _ (.inl (by kernel_rfl)) ?_
    clear hK K c19 f19
    (try simp only [Act.put, k1, k2, k3])
    refine wpAnyP_done (by kernel_rfl) ?_ _
    go_wp2
    go_returns
    exact ⟨rfl, HO3.out.setCell (p := ⟨B, 19, none⟩) (.inr (.inl rfl)) _, _, HP3.out.setNotes HV.out⟩
  · go_simp
    have HP2 := Lib.hid (HP1.out.keep ((Only.refl Nil w2).alloc (.cells #[.int .i64 r.task, .int .i64 what, .int .i64 0, .int .i64 arg] 81)))
    have HO2 := Lib.hid (HO1.out.alloc (.cells #[.int .i64 r.task, .int .i64 what, .int .i64 0, .int .i64 arg] 81))
    have HN := Lib.hid (Row.new w2 81 #[.int .i64 r.task, .int .i64 what, .int .i64 0, .int .i64 arg])
    have hHeld2 : (w2.alloc (.cells #[.int .i64 r.task, .int .i64 what, .int .i64 0, .int .i64 arg] 81)).cell? ⟨B, 19, none⟩ = some nv ∧ (w2.alloc (.cells #[.int .i64 r.task, .int .i64 what, .int .i64 0, .int .i64 arg] 81)).cell? ⟨B, 3, none⟩ = some (.int .i64 r.task) := ⟨HP2.out.row.cell_ (i := 19) rfl, HP2.out.row.cell_ (i := 3) rfl⟩
    refine hK.out _ _ (.inr hHeld2) ?_
    clear hK K hHeld HP1 HO1
    generalize w2.alloc (.cells #[.int .i64 r.task, .int .i64 what, .int .i64 0, .int .i64 arg] 81) = w3 at *
    generalize w2.heap.size = g at *
    (try simp only [Act.put, k1, k2, k3])
    refine mpc 5 rfl (by kernel_rfl) (by rfl) (fun K hK => ?_)
    go_simp
    refine (clip_any nv r.ns _ HP2.out.notes).mono ?_
    rintro e w4 ⟨rfl, rfl⟩
    refine hK.out _ _ (.inr hHeld2) ?_
    clear hK K
    (try simp only [Act.put, k1, k2, k3])
    refine mpc 14 rfl (by kernel_rfl) (by rfl) (fun K hK => ?_)
    refine wp_append_cut (.tmp 13) (.tmp 21) rfl nv r.ns _ g ⟨r.task, what, 0, arg⟩ (by rfl) (by rfl) HP2.out.notes HN.out HL.out (fun A9 n9 c9 w5 hown hO => ?_)
    have HP3 := Lib.hid (HP2.out.keep hO)
    have HO3 := Lib.hid (HO2.out.trans (hO.mono (T := TurnB B A) (fun _ _ h => h.elim)))
    have HV := Lib.hid hown
    refine hK.out _ _ (.inl (by kernel_rfl)) ?_
    clear hK K hHeld2 hO hown HP2 HO2 HN
    (try simp only [Act.put, k1, k2, k3])
    refine mpa 15 rfl (.pointer (some ⟨B, 0, none⟩)) (fun w => ?_) ?_
    · go_simp
    (try simp only [Act.put, k1, k2, k3])
    refine mpa 16 rfl (.pointer (some ⟨B, 19, none⟩)) (fun w => ?_) ?_
    · go_simp
    (try simp only [Act.put, k1, k2, k3])
    have c19 : w5.cell? ⟨B, 19, none⟩ = some nv := HP3.out.row.cell_ (i := 19) rfl
    have f19 : w5.frozen? ⟨B, 19, none⟩ = false := HP3.out.row.frozen 19
    refine mpc 17 rfl (by kernel_rfl) (by rfl) (fun K hK => ?_)
    go_simp
    refine hK.out _ _ (.inl (by kernel_rfl)) ?_
    clear hK K c19 f19
    (try simp only [Act.put, k1, k2, k3])
    refine wpAnyP_done (by kernel_rfl) ?_ _
    go_wp2
    go_returns
    exact ⟨rfl, HO3.out.setCell (p := ⟨B, 19, none⟩) (.inr (.inl rfl)) _, _, HP3.out.setNotes HV.out⟩
end Go.Proofs.YtkkldcggbekleaaGreat
set_option linter.unusedVariables false
set_option linter.unusedSimpArgs false
namespace Go.Proofs.YtkkldcggbekleaaGreat
open Go.RowKit
def Aside (t : TypeId) : Prop := t ≠ 42 ∧ t ≠ 60 ∧ t ≠ 23
theorem RunP.aside {w w' : World} {B : Nat} {p A : Option Addr} {cp : Nat} {nv : Value} {r : LS} {g : Nat} {t : TypeId} {cs : Array Value} (h : RunP w B p A cp nv r) (hg : Row w g t cs) (ho : Only (TurnB B A) w w') (ht : Aside t) : Row w' g t cs :=
  hg.only ho (fun e => by
    rcases e with e | e
    · exact row_ne hg h.row ht.1 e
    · exact memo_not h.memo hg ht.2.1 ht.2.2 (.inr e))
theorem RowsL.turn {w w' : World} {B : Nat} {p A : Option Addr} {cp : Nat} {nv : Value} {r : LS} {L : List (Nat × TypeId × Array Value)} (h : RowsL w L) (hp : RunP w B p A cp nv r) (ho : Only (TurnB B A) w w') (ht : ∀ x ∈ L, Aside x.2.1) : RowsL w' L := fun x hx => hp.aside (h x hx) ho (ht x hx)
end Go.Proofs.YtkkldcggbekleaaGreat
set_option linter.unusedVariables false
set_option linter.unusedSimpArgs false
namespace Go.Proofs.YtkkldcggbekleaaGreat
open Go.RowKit
section
variable {w : World} {B : Nat} {p A : Option Addr} {cp : Nat} {nv : Value} {r : LS}
theorem RunP.setA (h : RunP w B p A cp nv r) (v : Int) : RunP (w.setCell ⟨B, 6, none⟩ (.int .u32 v)) B p A cp nv (r.keepA v) :=
  h.turn ((Only.refl (· = B) w).setCell (p := ⟨B, 6, none⟩) (.inr rfl) _) (h.row.set 6 (.int .u32 v)) rfl rfl
end
theorem aside_p : Aside 35 := ⟨by decide, by decide, by decide⟩
theorem aside_i : Aside 3 := ⟨by decide, by decide, by decide⟩
end Go.Proofs.YtkkldcggbekleaaGreat
set_option linter.unusedVariables false
set_option linter.unusedSimpArgs false
namespace Go.Proofs.YtkkldcggbekleaaGreat
open Go.RowKit
def kpt (b : Bool) (c1 c0 : Array Value) : Array Value := if b then c1 else c0
def HoldsK (A : Option Addr) (R : Nat) (w0 : World) (fv : Value) (q : Int → Bool) (cs : Array Value) (cs1 : Int → Array Value) : Prop := ∀ (v : Int) (w : World), Only (At A) w0 w → Row w R 42 cs → 0 ≤ v → v < 4294967296 →
  Calls Tryz.prog 127 #[fv, .int .u32 v] w fun e w' => e = .returned (.bool (q v)) ∧ Only (· = R) w w' ∧ Row w' R 42 (kpt (q v) (cs1 v) cs)
theorem HoldsK.move {A : Option Addr} {R : Nat} {w0 w1 : World} {fv : Value} {q : Int → Bool} {cs : Array Value} {cs1 : Int → Array Value} (h : HoldsK A R w0 fv q cs cs1) (ho : Only (At A) w0 w1) : HoldsK A R w1 fv q cs cs1 := by
  intro v w hw
  exact h v w (Only.trans ho hw)
theorem HoldsK.move0 {A : Option Addr} {R : Nat} {w0 w1 : World} {fv : Value} {q : Int → Bool} {cs : Array Value} {cs1 : Int → Array Value} (h : HoldsK A R w0 fv q cs cs1) (ho : Only Nil w0 w1) : HoldsK A R w1 fv q cs cs1 := h.move (ho.mono (fun _ _ h => h.elim))
theorem lookK_any (p A : Option Addr) (cp R : Nat) (cs : Array Value) (cs1 : Int → Array Value) (xs : List Int) (c : Int) (fv : Value) (q : Int → Bool) (w : World) (h : Memo w p A cp xs) (hr : Row w R 42 cs) (hRA : ∀ j, At p j ∨ At A j → j ≠ R) (hf : HoldsK A R w fv q cs cs1) (hx : Words xs) :
    Calls Tryz.prog 121 #[.pointer p, .int .i64 c, fv] w fun e w' =>
      e = .returned (.tuple #[doVal xs 1 c 0 0, .bool (q (wordAt xs c))]) ∧ Only (TurnB R A) w w' ∧ Memo w' p A cp xs ∧ Row w' R 42 (kpt (q (wordAt xs c)) (cs1 (wordAt xs c)) cs) := by
  have hb := word_wf hx c
  have HB := Lib.hid hb
  have hst : doNew xs 1 c 0 0 = xs := doNew_load xs _ _ _
  have HH := Lib.hid h
  have HF := Lib.hid hf
  have ha : ∀ j, At p j ∨ At A j → j < w.heap.size := HH.out.lt
  have HRR := Lib.hid hr
  have HRA := Lib.hid hRA
  have HRL := Lib.hid hr.lt
  clear hr hRA
  have HA := Lib.hid ha
  clear h ha hf hb hx
  go_enter Tryz.func121, Tryz.ntmps121
  go_wp2_with fail
  have e0 := (Only.refl Nil w).alloc (Obj.cells #[Value.int IntKind.i64 0, Value.int IntKind.i64 0, Value.int IntKind.u32 0, Value.int IntKind.u32 0, Value.int IntKind.u32 0] 39)
  refine (do_memo p A cp xs 1 c 0 0 0 _ (HH.out.keep e0)).mono ?_
  obtain ⟨k', c', x', y', hv⟩ := doVal_form xs 1 c 0 0
  rw [oldAt xs 1 c rfl] at hv
  rw [hv, hst]
  rintro e w2 ⟨rfl, hO, hM⟩
  have hS : Only (At A) w w2 := (e0.mono (fun _ _ h => h.elim)).trans hO
  have HR2 := Lib.hid (((HRR.out.alloc (Obj.cells #[Value.int IntKind.i64 0, Value.int IntKind.i64 0, Value.int IntKind.u32 0, Value.int IntKind.u32 0, Value.int IntKind.u32 0] 39)).only hO (fun e => HRA.out _ (.inr e) rfl)).alloc (Obj.cells #[Value.int IntKind.i64 k', Value.int IntKind.i64 c', Value.int IntKind.u32 x', Value.int IntKind.u32 y', Value.int IntKind.u32 (wordAt xs c)] 39))
  have R8 : Row w2 w.heap.size 39 #[.int .i64 0, .int .i64 0, .int .u32 0, .int .u32 0, .int .u32 0] := (Row.new w _ _).only hO (fun h => by have := HA.out _ (.inr h); omega)
  have HR := Lib.hid (R8.alloc (Obj.cells #[Value.int IntKind.i64 k', Value.int IntKind.i64 c', Value.int IntKind.u32 x', Value.int IntKind.u32 y', Value.int IntKind.u32 (wordAt xs c)] 39))
  have HN := Lib.hid (Row.new w2 39 #[Value.int IntKind.i64 k', Value.int IntKind.i64 c', Value.int IntKind.u32 x', Value.int IntKind.u32 y', Value.int IntKind.u32 (wordAt xs c)])
  have HS := Lib.hid (hS.alloc (Obj.cells #[Value.int IntKind.i64 k', Value.int IntKind.i64 c', Value.int IntKind.u32 x', Value.int IntKind.u32 y', Value.int IntKind.u32 (wordAt xs c)] 39))
  have HM := Lib.hid (hM.keep ((Only.refl Nil w2).alloc (Obj.cells #[Value.int IntKind.i64 k', Value.int IntKind.i64 c', Value.int IntKind.u32 x', Value.int IntKind.u32 y', Value.int IntKind.u32 (wordAt xs c)] 39)))
  have HZ := Lib.hid R8.lt
  clear hO R8 hS hM e0 hst
  have HV := Lib.hid hv
  clear hv
  go_wp2_with fail
  generalize w2.alloc (.cells #[.int .i64 k', .int .i64 c', .int .u32 x', .int .u32 y', .int .u32 (wordAt xs c)] 39) = w3 at *
  generalize hg : w2.heap.size = g at *
  have HG := Lib.hid hg
  clear hg
  generalize hwd : wordAt xs c = v at *
  have HWD := Lib.hid hwd
  clear hwd
  have c0 : w3.cell? ⟨g, 0, none⟩ = some (.int .i64 k') := HN.out.cell_ (i := 0) rfl
  have c1 : w3.cell? ⟨g, 1, none⟩ = some (.int .i64 c') := HN.out.cell_ (i := 1) rfl
  have c2 : w3.cell? ⟨g, 2, none⟩ = some (.int .u32 x') := HN.out.cell_ (i := 2) rfl
  have c3 : w3.cell? ⟨g, 3, none⟩ = some (.int .u32 y') := HN.out.cell_ (i := 3) rfl
  have c4 : w3.cell? ⟨g, 4, none⟩ = some (.int .u32 v) := HN.out.cell_ (i := 4) rfl
  have hgg : ¬ g = w.heap.size := by have := HZ.out; omega
  have HGG := Lib.hid hgg
  clear hgg
  refine wp_region_held_drew (S := fun w' => w'.cell? ⟨g, 0, none⟩ = some (.int .i64 k') ∧ w'.cell? ⟨g, 1, none⟩ = some (.int .i64 c') ∧ w'.cell? ⟨g, 2, none⟩ = some (.int .u32 x') ∧ w'.cell? ⟨g, 3, none⟩ = some (.int .u32 y') ∧ w'.cell? ⟨g, 4, none⟩ = some (.int .u32 v)) (by kernel_rfl) ⟨c0, c1, c2, c3, c4⟩ (fun hHeld => ?_)
  refine mtk 0 rfl (.agg #[.int .i64 k', .int .i64 c', .int .u32 x', .int .u32 y', .int .u32 v]) (fun w hSw => ?_) ?_
  · (try dsimp only at hSw)
    go_split_ands
    go_simp
  (try simp only [Act.put, k1, k2, k3])
  refine mtk 1 rfl (fv) (fun w hSw => ?_) ?_
  · (try dsimp only at hSw)
    go_split_ands
    go_simp
  (try simp only [Act.put, k1, k2, k3])
  refine mtk 2 rfl (.pointer (some ⟨g, 4, none⟩)) (fun w hSw => ?_) ?_
  · (try dsimp only at hSw)
    go_split_ands
    go_simp
  (try simp only [Act.put, k1, k2, k3])
  refine mtk 3 rfl (.int .u32 v) (fun w hSw => ?_) ?_
  · (try dsimp only at hSw)
    go_split_ands
    go_simp
  (try simp only [Act.put, k1, k2, k3])
  refine mcl 4 rfl (by kernel_rfl) (by rfl) (fun K hK => ?_)
  go_simp
  have hgR : ¬ g = R := by have := HRL.out; have := HZ.out; omega
  refine (HF.out v _ HS.out.drew HR2.out.drew HB.out.1 HB.out.2).mono ?_
  rintro e w4 ⟨rfl, hO, hrow⟩
  have hO4 : Only (· = R) w3 w4 := (Only.refl (· = R) w3).drew.trans hO
  have HRW := Lib.hid (hrow.only (five_only (Only.refl (· = w.heap.size) w4) (.inr rfl) (.int .i64 k') (.int .i64 c') (.int .u32 x') (.int .u32 y') (.int .u32 v)) (by have := HRL.out; omega))
  have HMM := Lib.hid ((HM.out.far hO4 (fun j hj => HRA.out j hj)))
  clear hrow
  have HN4 := Lib.hid (HN.out.only hO4 hgR)
  have HR4 := Lib.hid (HR.out.only hO4 (by have := HRL.out; omega))
  have HO4 := Lib.hid hO4
  refine hK.out _ _ ⟨HN4.out.cell_ (i := 0) rfl, HN4.out.cell_ (i := 1) rfl, HN4.out.cell_ (i := 2) rfl, HN4.out.cell_ (i := 3) rfl, HN4.out.cell_ (i := 4) rfl⟩ (fun hHeld2 => ?_)
  clear hK K hHeld hO hO4 hgR c0 c1 c2 c3 c4
  (try simp only [Act.put, k1, k2, k3])
  have d0 : w4.cell? ⟨w.heap.size, 0, none⟩ = some (.int .i64 0) := HR4.out.cell_ (i := 0) rfl
  have d1 : w4.cell? ⟨w.heap.size, 1, none⟩ = some (.int .i64 0) := HR4.out.cell_ (i := 1) rfl
  have d2 : w4.cell? ⟨w.heap.size, 2, none⟩ = some (.int .u32 0) := HR4.out.cell_ (i := 2) rfl
  have d3 : w4.cell? ⟨w.heap.size, 3, none⟩ = some (.int .u32 0) := HR4.out.cell_ (i := 3) rfl
  have d4 : w4.cell? ⟨w.heap.size, 4, none⟩ = some (.int .u32 0) := HR4.out.cell_ (i := 4) rfl
  have f0 : w4.frozen? ⟨w.heap.size, 0, none⟩ = false := HR4.out.frozen 0
  have f1 : w4.frozen? ⟨w.heap.size, 1, none⟩ = false := HR4.out.frozen 1
  have f2 : w4.frozen? ⟨w.heap.size, 2, none⟩ = false := HR4.out.frozen 2
  have f3 : w4.frozen? ⟨w.heap.size, 3, none⟩ = false := HR4.out.frozen 3
  have f4 : w4.frozen? ⟨w.heap.size, 4, none⟩ = false := HR4.out.frozen 4
  refine mcl 5 rfl (by kernel_rfl) (by rfl) (fun K hK => ?_)
  go_simp
  have HN5 := Lib.hid (HN4.out.only (five_only (Only.refl (· = w.heap.size) w4) (.inr rfl) (.int .i64 k') (.int .i64 c') (.int .u32 x') (.int .u32 y') (.int .u32 v)) HGG.out)
  refine hK.out _ _ ⟨HN5.out.cell_ (i := 0) rfl, HN5.out.cell_ (i := 1) rfl, HN5.out.cell_ (i := 2) rfl, HN5.out.cell_ (i := 3) rfl, HN5.out.cell_ (i := 4) rfl⟩ (fun hHeld3 => ?_)
  clear hK K hHeld2 d0 d1 d2 d3 d4 f0 f1 f2 f3 f4
  (try simp only [Act.put, k1, k2, k3])
  refine mtk 6 rfl (.bool (q v)) (fun w hSw => ?_) ?_
  · (try dsimp only at hSw)
    go_split_ands
    go_simp
  (try simp only [Act.put, k1, k2, k3])
  refine wpAnyH_done (by kernel_rfl) ?_ _
  go_wp2
  have ho9 := five_only ((HS.out.mono (T := TurnB R A) (fun _ _ e => .inr e)).trans (HO4.out.mono (T := TurnB R A) (fun _ _ e => .inl e))) (.inl (Nat.le_refl _)) (.int .i64 k') (.int .i64 c') (.int .u32 x') (.int .u32 y') (.int .u32 v)
  have hm9 := HMM.out.far (five_only (Only.refl (· = w.heap.size) w4) (.inr rfl) (.int .i64 k') (.int .i64 c') (.int .u32 x') (.int .u32 y') (.int .u32 v)) (fun j hj h => by have := HA.out j hj; omega)
  exact post_row_tmp (P := Tryz.prog) Tryz.results121 (t := 39) (g := w.heap.size) (cs := #[.int .i64 k', .int .i64 c', .int .u32 x', .int .u32 y', .int .u32 v]) rfl (five HR4.out _ _ _ _ _) Tryz.underlying39 rfl (by kernel_rfl) rfl ⟨by rw [HV.out, HWD.out]; rfl, ho9, hm9, by rw [HWD.out]; exact HRW.out⟩
end Go.Proofs.YtkkldcggbekleaaGreat
