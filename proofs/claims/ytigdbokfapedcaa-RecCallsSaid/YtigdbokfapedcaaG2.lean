import Derived.Test.YtigdbokfapedcaaChecked
import Derived.Laws.AppendOwn
import Derived.Maps.AppendAt
import Derived.OwnWalk
import Derived.Deep.Cut
import Derived.Maps.Own
import Derived.Maps.OwnSet
import Derived.Maps.Ext
import Derived.Test.YtigdbokfapedcaaG1
set_option linter.unusedVariables false
set_option linter.unusedSimpArgs false
namespace Go.Proofs.Ytigdbokfapedcaa
open Go.RowKit
def OwnI (base : Nat) (w : World) (v : Value) (xs : List Int) : Prop := w.ownsRow base 3 1 v xs.length (xs.map (Value.int .i64))
theorem ownI_nil (base : Nat) (w : World) : OwnI base w (.slice none 0 0) [] := World.ownsRow_nil _ _ _ _
theorem infoI : (Try.prog.info? 3).map (fun i => (i.zero, i.size, i.bytes)) = some (some (.int .i64 0), 1, 8) := by kernel_rfl
def Near (w : World) (v v' : Value) : Prop := v'.ownBlock = v.ownBlock ∨ ∃ g, v'.ownBlock = some g ∧ w.heap.size ≤ g
theorem wp_appI {w : World} {ops : Array Oper} {rest : List Oper} {o : Oper} {a : Act} {Q : Exit → Act → World → Prop} (hgd : o.guard = none) (s x : Operand)
    (ho : o.op = .call { callee := .builtin .append, args := #[s, x], argTypes := #[28, 28] })
    (base : Nat) (v : Value) (zs : List Int) (hs : a.eval s = v) (hown : OwnI base w v zs)
    (g : Nat) (n : Int) (hx : a.eval x = .slice (some ⟨g, 0, none⟩) 1 1) (hrow : Row w g 3 #[.int .i64 n])
    (h1 : zs.length ≤ 1000000) (hbase : base ≤ w.heap.size)
    (h : ∀ v' w', OwnI base w' v' (zs ++ [n]) → w.grownBy w' v.ownBlock → Near w v v' → wpList Try.prog ops Q rest (a.put o.dst v') w') : wpList Try.prog ops Q (o :: rest) a w := by
  obtain ⟨i0, hi, hz0, hz1, hz2⟩ := info_parts infoI
  refine wpList_append_own_at w hgd s x 28 ho base 3 i0 (.int .i64 0) 1 8 Try.underlying28 hi hz0 hz1 hz2 rfl (by decide) v zs.length (zs.map (Value.int .i64)) hs hown ⟨g, 0, none⟩ 1 1 [.int .i64 n] hx rfl (fun j u hj => ?_) (fun u hu => ?_) (by unfold maxLen; omega) (by omega) hbase (fun v' w' hO hG _ hat => h v' w' ?_ hG ?_)
  · rw [add_at, Nat.zero_add]
    exact hrow.cell_ (by rw [← hj]; simp)
  · obtain rfl := List.mem_singleton.1 hu; rfl
  · unfold OwnI
    rw [List.map_append, List.length_append]
    exact hO
  · exact hat.imp id (fun e => ⟨_, e, Nat.le_refl _⟩)
def flat1C (z : Cal × Value) : List Value := [.int .i64 z.1.t, .int .i64 z.1.o, .int .i64 z.1.f, .int .i64 z.1.g, .int .i64 z.1.r, z.2]
def flatC : List (Cal × Value) → List Value
  | [] => []
  | z :: r => flat1C z ++ flatC r
theorem flatC_len : ∀ zs, (flatC zs).length = zs.length * 6
  | [] => rfl
  | n :: r => by rw [flatC, List.length_append, flatC_len r, List.length_cons]; show 6 + _ = _; omega
theorem flatC_app : ∀ zs ys, flatC (zs ++ ys) = flatC zs ++ flatC ys
  | [], ys => rfl
  | n :: r, ys => by rw [List.cons_append, flatC, flatC, flatC_app r ys, List.append_assoc]
theorem flatC_get : ∀ (zs : List (Cal × Value)) (i : Nat) (n : Cal × Value) (j : Nat), zs[i]? = some n → j < 6 → (flatC zs)[i * 6 + j]? = (flat1C n)[j]?
  | [], i, n, j, h, _ => by simp at h
  | m :: r, 0, n, j, h, hj => by
    simp only [List.getElem?_cons_zero, Option.some.injEq] at h
    subst h
    rw [flatC, List.getElem?_append_left (by show _ < 6; omega), Nat.zero_mul, Nat.zero_add]
  | m :: r, i + 1, n, j, h, hj => by
    rw [flatC, List.getElem?_append_right (by show 6 ≤ _; omega), show (i + 1) * 6 + j - (flat1C m).length = i * 6 + j by show (i + 1) * 6 + j - 6 = _; omega]
    exact flatC_get r i n j (by simpa using h) hj
theorem flatC_set : ∀ (zs : List (Cal × Value)) (i : Nat) (z n : Cal × Value) (j : Nat) (u : Value), zs[i]? = some z → j < 6 → flat1C n = (flat1C z).set j u → (flatC zs).set (i * 6 + j) u = flatC (zs.set i n)
  | [], i, z, n, j, u, h, _, _ => by simp at h
  | m :: r, 0, z, n, j, u, h, hj, e => by
    simp only [List.getElem?_cons_zero, Option.some.injEq] at h
    subst h
    rw [List.set_cons_zero, flatC, flatC, Nat.zero_mul, Nat.zero_add, List.set_append_left _ _ (by show j < 6; omega), e]
  | m :: r, i + 1, z, n, j, u, h, hj, e => by
    rw [List.set_cons_succ, flatC, flatC, List.set_append_right _ _ (by show 6 ≤ _; omega), show (i + 1) * 6 + j - (flat1C m).length = i * 6 + j by show (i + 1) * 6 + j - 6 = _; omega,
      flatC_set r i z n j u (by simpa using h) hj e]
def OwnC (base : Nat) (w : World) (v : Value) (zs : List (Cal × Value)) : Prop := w.ownsRow base 38 6 v zs.length (flatC zs)
theorem ownC_nil (base : Nat) (w : World) : OwnC base w (.slice none 0 0) [] := World.ownsRow_nil _ _ _ _
theorem infoC : (Try.prog.info? 38).map (fun i => (i.zero, i.size, i.bytes)) = some (some (.agg #[.int .i64 0, .int .i64 0, .int .i64 0, .int .i64 0, .int .i64 0, .slice none 0 0]), 6, 64) := by kernel_rfl
theorem wp_appC {w : World} {ops : Array Oper} {rest : List Oper} {o : Oper} {a : Act} {Q : Exit → Act → World → Prop} (hgd : o.guard = none) (s x : Operand)
    (ho : o.op = .call { callee := .builtin .append, args := #[s, x], argTypes := #[25, 25] })
    (base : Nat) (v : Value) (zs : List (Cal × Value)) (hs : a.eval s = v) (hown : OwnC base w v zs)
    (g : Nat) (n : Cal × Value) (hx : a.eval x = .slice (some ⟨g, 0, none⟩) 1 1) (hrow : Row w g 38 (flat1C n).toArray) (hone : n.2.oneCell' = true)
    (h1 : zs.length ≤ 1000000) (hbase : base ≤ w.heap.size)
    (h : ∀ v' w', OwnC base w' v' (zs ++ [n]) → w.grownBy w' v.ownBlock → Near w v v' → wpList Try.prog ops Q rest (a.put o.dst v') w') : wpList Try.prog ops Q (o :: rest) a w := by
  obtain ⟨i0, hi, hz0, hz1, hz2⟩ := info_parts infoC
  refine wpList_append_own_at w hgd s x 25 ho base 38 i0 (.agg #[.int .i64 0, .int .i64 0, .int .i64 0, .int .i64 0, .int .i64 0, .slice none 0 0]) 6 64 Try.underlying25 hi hz0 hz1 hz2 rfl (by decide) v zs.length (flatC zs) hs hown ⟨g, 0, none⟩ 1 1 (flat1C n) hx rfl (fun j u hj => ?_) (fun u hu => ?_) (by unfold maxLen; omega) (by omega) hbase (fun v' w' hO hG _ hat => h v' w' ?_ hG ?_)
  · rw [add_at, Nat.zero_add]
    exact hrow.cell_ (by rw [← hj]; simp)
  · unfold flat1C at hu
    simp only [List.mem_cons, List.not_mem_nil, or_false] at hu
    rcases hu with rfl | rfl | rfl | rfl | rfl | rfl <;> first | rfl | exact hone
  · unfold OwnC
    rw [flatC_app, List.length_append, show flatC [n] = flat1C n from List.append_nil _]
    exact hO
  · exact hat.imp id (fun e => ⟨_, e, Nat.le_refl _⟩)
def Grown (w : World) (v v' : Value) (w' : World) : Prop := Only (fun i => v.ownBlock = some i) w w' ∧ Near w v v'
theorem grown_of {w w1 w' : World} {v v' : Value} (h0 : Only Nil w w1) (hg : w1.grownBy w' v.ownBlock) (hn : Near w1 v v') : Grown w v v' w' :=
  ⟨(h0.mono (fun _ _ h => h.elim)).grown hg (fun k hk => .inr hk), hn.imp id (fun ⟨g, e, h⟩ => ⟨g, e, Nat.le_trans h0.size h⟩)⟩
theorem growI_any (v : Value) (xs : List Int) (x : Int) (base : Nat) (w : World) (h : OwnI base w v xs) (hb : base ≤ w.heap.size) (hl : xs.length ≤ 1000000) :
    Calls Try.prog 17 #[v, .int .i64 x] w fun e w' => ∃ v', e = .returned v' ∧ OwnI base w' v' (xs ++ [x]) ∧ Grown w v v' w' := by
  have HB := Lib.hid hb
  have HL := Lib.hid hl
  have H := Lib.hid h
  clear h hb hl
  go_enter Try.func17, Try.ntmps17
  go_wp2_with (at_builtin; refine wp_appI rfl (.tmp 5) (.tmp 7) rfl base v xs rfl (H.out.alloc _) _ x rfl (Row.new _ _ _) HL.out (by have := HB.out; simp; omega) ?_)
  intro v4 w4 hown hg hn
  have HG := Lib.hid (And.intro hown (grown_of ((Only.refl Nil w).alloc _) hg hn))
  clear hown hg hn
  go_wp2
  go_ret
  exact ⟨_, rfl, HG.out.1, HG.out.2⟩
theorem growC_any (v : Value) (zs : List (Cal × Value)) (c : Cal) (p : Value) (hone : p.oneCell' = true) (base : Nat) (w : World) (h : OwnC base w v zs) (hb : base ≤ w.heap.size) (hl : zs.length ≤ 1000000) :
    Calls Try.prog 18 #[v, .agg (flat1C (c, p)).toArray] w fun e w' => ∃ v', e = .returned v' ∧ OwnC base w' v' (zs ++ [(c, p)]) ∧ Grown w v v' w' := by
  have HB := Lib.hid hb
  have HL := Lib.hid hl
  have H := Lib.hid h
  have HP := Lib.hid hone
  clear h hb hl hone
  unfold flat1C
  dsimp only
  go_enter Try.func18, Try.ntmps18
  go_upto_region 1 with (fail)
  have hop := (Only.refl Nil w).alloc (.cells #[.int .i64 c.t, .int .i64 c.o, .int .i64 c.f, .int .i64 c.g, .int .i64 c.r, p] 38)
  have hrw := Row.new w 38 #[.int .i64 c.t, .int .i64 c.o, .int .i64 c.f, .int .i64 c.g, .int .i64 c.r, p]
  have HW := Lib.hid (And.intro (H.out.alloc (.cells #[.int .i64 c.t, .int .i64 c.o, .int .i64 c.f, .int .i64 c.g, .int .i64 c.r, p] 38)) (And.intro hop (Nat.le_trans HB.out hop.size)))
  clear hop
  generalize w.alloc _ = w1 at *
  generalize w.heap.size = g at *
  have c0 : w1.cell? ⟨g, 0, none⟩ = some (.int .i64 c.t) := hrw.cell_ (i := 0) rfl
  have c1 : w1.cell? ⟨g, 1, none⟩ = some (.int .i64 c.o) := hrw.cell_ (i := 1) rfl
  have c2 : w1.cell? ⟨g, 2, none⟩ = some (.int .i64 c.f) := hrw.cell_ (i := 2) rfl
  have c3 : w1.cell? ⟨g, 3, none⟩ = some (.int .i64 c.g) := hrw.cell_ (i := 3) rfl
  have c4 : w1.cell? ⟨g, 4, none⟩ = some (.int .i64 c.r) := hrw.cell_ (i := 4) rfl
  have c5 : w1.cell? ⟨g, 5, none⟩ = some (p) := hrw.cell_ (i := 5) rfl
  clear hrw
  go_wp2_with (at_builtin; refine wp_appC rfl (.tmp 5) (.tmp 7) rfl base v zs rfl (HW.out.1.alloc _) _ (c, p) rfl (Row.new _ _ _) HP.out HL.out (by have := HW.out.2.2; simp; omega) ?_)
  intro v4 w4 hown hg hn
  have HG := Lib.hid (And.intro hown (grown_of (HW.out.2.1.alloc _) hg hn))
  clear hown hg hn
  go_wp2
  go_ret
  exact ⟨_, rfl, HG.out.1, HG.out.2⟩
end Go.Proofs.Ytigdbokfapedcaa
set_option linter.unusedVariables false
set_option linter.unusedSimpArgs false
namespace Go.Proofs.Ytigdbokfapedcaa
open Go.RowKit
def asIt (v : Value) : Option (DataW Value × List MemPlace) := some (.held v, [])
abbrev ky (t : Int) : Lit := .int .i64 t
def at_ (o : Option Value) (z : DataW Value) : DataW Value := match o with | some v => .held v | none => z
def updM {α : Type} (f : Int → α) (t : Int) (v : α) : Int → α := fun u => if u = t then v else f u
theorem updM_same {α : Type} (f : Int → α) (t : Int) (v : α) : updM f t v t = v := if_pos rfl
theorem updM_other {α : Type} (f : Int → α) {t u : Int} (v : α) (h : u ≠ t) : updM f t v u = f u := if_neg h
def Mp (w : World) (M n : Nat) (f : Int → Option Value) : Prop := ∃ D : DataW Value, w.ownsMap Try.prog 3 asIt M n D ∧ ∀ t, Maps.has D (ky t) = (f t).isSome ∧ ∀ z, D.atKey (ky t) z = at_ (f t) z
theorem kyOf (n : Int) (h : (Lit.int .i64 n).wf = true) : keyOf Try.prog 3 (.int .i64 n) = some (ky n) := Maps.keyOf_int_mk Try.underlying3 h
theorem ky_ne {t u : Int} (h : u ≠ t) : ky u ≠ ky t := fun e => h (by injection e)
theorem mp_made (w : World) : Mp (w.alloc (.map #[] 0)) w.heap.size 0 (fun _ => none) := ⟨.map [], World.ownsMap_made w _ _ _, fun t => ⟨rfl, fun z => rfl⟩⟩
section
variable {w w' : World} {M n : Nat} {f : Int → Option Value} {S : Nat → Prop}
theorem Mp.lt (h : Mp w M n f) : M < w.heap.size := by obtain ⟨D, hD, _⟩ := h; exact hD.lt
theorem Mp.mono (h : Mp w M n f) {n' : Nat} (hn : n ≤ n') : Mp w M n' f := by
  obtain ⟨D, hD, h2⟩ := h
  exact ⟨D, hD.mono hn, h2⟩
theorem Mp.only (h : Mp w M n f) (ho : Only S w w') (hS : ¬ S M) : Mp w' M n f := by
  obtain ⟨D, hD, h2⟩ := h
  have hl := hD.lt
  obtain ⟨es, clock, hb, r⟩ := hD
  exact ⟨D, ⟨es, clock, (ho.block M hl hS).trans hb, r⟩, h2⟩
theorem Mp.isMap (h : Mp w M n f) : ∃ es clock, w.heap[M]? = some (.map es clock) := by
  obtain ⟨D, ⟨es, clock, hb, _⟩, _⟩ := h
  exact ⟨es, clock, hb⟩
theorem Mp.ne (h : Mp w M n f) {g : Nat} {t : TypeId} {cs : Array Value} (hr : Row w g t cs) : M ≠ g := fun e => by
  subst e
  obtain ⟨es, clock, hb⟩ := h.isMap
  have hr' : w.heap[M]? = _ := hr
  rw [hb] at hr'
  cases hr'
theorem Mp.get (h : Mp w M n f) {T E : TypeId} (ht : Try.prog.underlying T = some (.map 3 E)) {z : Value} (hz : (zeroValue E).run Try.prog w = .ok z w) {t : Int} (hw : (Lit.int .i64 t).wf = true) :
    (Instr.lookup T (.map (some M)) (.int .i64 t) false).run Try.prog w = .ok ((f t).getD z) w := by
  obtain ⟨D, hD, h2⟩ := h
  obtain ⟨v, ps, hrun, hv⟩ := hD.lookup (Maps.int_keyed Try.underlying3) ht hz (zd := .held z) (zp := []) rfl (kyOf t hw)
  rw [(h2 t).2] at hv
  have hv' : DataW.held v = at_ (f t) (.held z) := by
    simp only [asIt, Option.some.injEq, Prod.mk.injEq] at hv
    exact hv.1
  rw [hrun]
  cases hf : f t with
  | none => rw [hf] at hv'; injection hv' with e; rw [e]; rfl
  | some u => rw [hf] at hv'; injection hv' with e; rw [e]; rfl
theorem Mp.get_ok (h : Mp w M n f) {T E : TypeId} (ht : Try.prog.underlying T = some (.map 3 E)) {z : Value} (hz : (zeroValue E).run Try.prog w = .ok z w) {t : Int} (hw : (Lit.int .i64 t).wf = true) :
    (Instr.lookup T (.map (some M)) (.int .i64 t) true).run Try.prog w = .ok (.tuple #[(f t).getD z, .bool (f t).isSome]) w := by
  obtain ⟨D, hD, h2⟩ := h
  obtain ⟨v, ps, hrun, hv⟩ := hD.look_ok (Maps.int_keyed Try.underlying3) ht hz (zd := .held z) (zp := []) rfl (kyOf t hw)
  rw [(h2 t).2] at hv
  have hv' : DataW.held v = at_ (f t) (.held z) := by
    simp only [asIt, Option.some.injEq, Prod.mk.injEq] at hv
    exact hv.1
  rw [hrun, (h2 t).1]
  cases hf : f t with
  | none => rw [hf] at hv'; injection hv' with e; rw [e]; rfl
  | some u => rw [hf] at hv'; injection hv' with e; rw [e]; rfl
theorem turned_only (h : w.mapTurned w' M) : Only (· = M) w w' := by
  have hg := h.grown
  exact ⟨hg.os, hg.tape, hg.output, hg.size, fun k hk hS => hg.block k hk (fun e => hS (by injection e))⟩
theorem Mp.put (h : Mp w M n f) {T E : TypeId} (ht : Try.prog.underlying T = some (.map 3 E)) (hn : n < 1000000) {t : Int} (hw : (Lit.int .i64 t).wf = true) (v : Value) :
    ∃ w', (Instr.mapUpdate T (.map (some M)) (.int .i64 t) v).run Try.prog w = .ok () w' ∧ Mp w' M (n + 1) (updM f t (some v)) ∧ Only (· = M) w w' := by
  obtain ⟨D, hD, h2⟩ := h
  have hm := hD.isMap
  obtain ⟨w', hrun, ho, hg⟩ := hD.store (Maps.int_keyed Try.underlying3) ht (by unfold maxLen; omega) (kyOf t hw) (val := v) (d := .held v) (ps := []) rfl
  refine ⟨w', hrun, ⟨_, ho, fun u => ?_⟩, turned_only hg⟩
  by_cases e : u = t
  · subst e
    rw [updM_same]
    exact ⟨Maps.has_put_same hm (show WideAt.IsKeyLit (ky u) from trivial) _, fun z => Maps.atKey_put_same hm (show WideAt.IsKeyLit (ky u) from trivial) _ z⟩
  · rw [updM_other f _ e]
    exact ⟨(Maps.has_put_other (ky_ne e) _).trans (h2 u).1, fun z => (Maps.atKey_put_other (ky_ne e) _ z).trans ((h2 u).2 z)⟩
theorem Mp.del (h : Mp w M n f) {T E : TypeId} (ht : Try.prog.underlying T = some (.map 3 E)) {t : Int} (hw : (Lit.int .i64 t).wf = true) (ty : TypeId) :
    ∃ w', (Builtin.delete_ #[T, 3] ty #[.map (some M), .int .i64 t]).run Try.prog w = .ok (.tuple #[]) w' ∧ Mp w' M n (updM f t none) ∧ Only (· = M) w w' := by
  obtain ⟨D, hD, h2⟩ := h
  obtain ⟨w', hrun, ho, hg⟩ := hD.drop (Maps.int_keyed Try.underlying3) ht (kyOf t hw) ty
  refine ⟨w', hrun, ⟨_, ho, fun u => ?_⟩, turned_only hg⟩
  by_cases e : u = t
  · subst e
    rw [updM_same]
    exact ⟨Maps.has_del_same, fun z => Maps.atKey_del_same z⟩
  · rw [updM_other f _ e]
    exact ⟨(Maps.has_del_other (ky_ne e)).trans (h2 u).1, fun z => (Maps.atKey_del_other (ky_ne e) z).trans ((h2 u).2 z)⟩
end
theorem wp_putM {w : World} {ops : Array Oper} {rest : List Oper} {o : Oper} {a : Act} {Q : Exit → Act → World → Prop} (hg : o.guard = none) (m x v : Operand) (T : TypeId) (hop : o.op = Op.mapUpdate T m x v) {E : TypeId} (ht : Try.prog.underlying T = some (.map 3 E))
    {M n : Nat} {f : Int → Option Value} (hm : a.eval m = .map (some M)) (h : Mp w M n f) (hn : n < 1000000) {t : Int} (hx : a.eval x = .int .i64 t) (hw : (Lit.int .i64 t).wf = true) {u : Value} (hv : a.eval v = u)
    (hK : ∀ w', Mp w' M (n + 1) (updM f t (some u)) → Only (· = M) w w' → wpList Try.prog ops Q rest (a.put o.dst undef) w') : wpList Try.prog ops Q (o :: rest) a w := by
  refine wpList_plain hg fun K' hK' => ?_
  obtain ⟨w', hrun, r1, r2⟩ := h.put ht hn hw u
  unfold Oper.wp
  simp [execOp, hop, hm, hx, hv, hrun, Result.andThen]
  exact hK' _ _ (hK w' r1 r2)
theorem wp_delM {w : World} {ops : Array Oper} {rest : List Oper} {o : Oper} {a : Act} {Q : Exit → Act → World → Prop} (hg : o.guard = none) (m x : Operand) (T : TypeId) (hop : o.op = Op.call { callee := Callee.builtin Builtin.delete, args := #[m, x], argTypes := #[T, 3] }) {E : TypeId} (ht : Try.prog.underlying T = some (.map 3 E))
    {M n : Nat} {f : Int → Option Value} (hm : a.eval m = .map (some M)) (h : Mp w M n f) {t : Int} (hx : a.eval x = .int .i64 t) (hw : (Lit.int .i64 t).wf = true)
    (hK : ∀ w', Mp w' M n (updM f t none) → Only (· = M) w w' → wpList Try.prog ops Q rest (a.put o.dst (.tuple #[])) w') : wpList Try.prog ops Q (o :: rest) a w := by
  refine wpList_plain hg fun K' hK' => ?_
  obtain ⟨w', hrun, r1, r2⟩ := h.del ht hw o.type
  unfold Oper.wp
  simp [execOp, hop, resolve, invoke, builtin, hm, hx, hrun, Result.andThen]
  exact hK' _ _ (hK w' r1 r2)
theorem wfI {x : Int} (h : -9223372036854775808 ≤ x ∧ x < 9223372036854775808) : (Lit.int .i64 x).wf = true := by
  have h1 : IntKind.i64.min = -9223372036854775808 := rfl
  have h2 : IntKind.i64.max = 9223372036854775807 := rfl
  simp only [Lit.wf, Bool.and_eq_true, decide_eq_true_eq]
  omega
end Go.Proofs.Ytigdbokfapedcaa
set_option linter.unusedVariables false
set_option linter.unusedSimpArgs false
namespace Go.Proofs.Ytigdbokfapedcaa
open Go
def lastN (t : Int) (b : Bool) (x : Nt) : Bool := if x.t = t then (if x.w = 1 then true else if x.w = 11 then false else b) else b
def lastB (l : List Nt) (t : Int) : Bool := l.foldl (lastN t) false
def Rise (l : List Int) : Prop := l.Pairwise (· < ·)
theorem rise_ext : ∀ {a b : List Int}, Rise a → Rise b → (∀ x, x ∈ a ↔ x ∈ b) → a = b
  | [], [], _, _, _ => rfl
  | [], y :: b, _, _, h => absurd ((h y).2 List.mem_cons_self) (by simp)
  | x :: a, [], _, _, h => absurd ((h x).1 List.mem_cons_self) (by simp)
  | x :: a, y :: b, ha, hb, h => by
    obtain ⟨a1, a2⟩ := List.pairwise_cons.1 ha
    obtain ⟨b1, b2⟩ := List.pairwise_cons.1 hb
    have e : x = y := by
      rcases List.mem_cons.1 ((h x).1 List.mem_cons_self) with e | e
      · exact e
      · rcases List.mem_cons.1 ((h y).2 List.mem_cons_self) with e' | e'
        · exact e'.symm
        · have h1 := b1 x e
          have h2 := a1 y e'
          omega
    subst e
    rw [rise_ext a2 b2 (fun z => ⟨fun hz => ?_, fun hz => ?_⟩)]
    · rcases List.mem_cons.1 ((h z).1 (List.mem_cons_of_mem _ hz)) with rfl | hz'
      · exact absurd (a1 z hz) (by omega)
      · exact hz'
    · rcases List.mem_cons.1 ((h z).2 (List.mem_cons_of_mem _ hz)) with rfl | hz'
      · exact absurd (b1 z hz) (by omega)
      · exact hz'
def putR (t : Int) : List Int → List Int
  | [] => [t]
  | x :: l => if t < x then t :: x :: l else if t = x then x :: l else x :: putR t l
theorem mem_putR {t z : Int} : ∀ {l : List Int}, z ∈ putR t l ↔ z = t ∨ z ∈ l
  | [] => by simp [putR]
  | x :: l => by
    have ih := mem_putR (t := t) (z := z) (l := l)
    unfold putR
    split
    · simp
    · split
      · rename_i h; subst h; simp
      · simp only [List.mem_cons, ih]
        constructor
        · rintro (h | h | h)
          · exact .inr (.inl h)
          · exact .inl h
          · exact .inr (.inr h)
        · rintro (h | h | h)
          · exact .inr (.inl h)
          · exact .inl h
          · exact .inr (.inr h)
theorem putR_rise {t : Int} : ∀ {l : List Int}, Rise l → Rise (putR t l)
  | [], _ => List.pairwise_singleton _ _
  | x :: l, h => by
    obtain ⟨h1, h2⟩ := List.pairwise_cons.1 h
    unfold putR
    split
    · rename_i ht
      refine List.pairwise_cons.2 ⟨fun z hz => ?_, h⟩
      rcases List.mem_cons.1 hz with rfl | hz
      · exact ht
      · have := h1 z hz; omega
    · split
      · exact h
      · refine List.pairwise_cons.2 ⟨fun z hz => ?_, putR_rise h2⟩
        rcases mem_putR.1 hz with rfl | hz
        · omega
        · exact h1 z hz
def pendF (l : List Nt) (ts : List Nt) : List Int := ts.foldl (fun out x => if lastB l x.t then putR x.t out else out) []
theorem pendF_fold (l : List Nt) : ∀ (ts : List Nt) (out : List Int), Rise out → Rise (ts.foldl (fun out x => if lastB l x.t then putR x.t out else out) out) ∧ ∀ z, z ∈ ts.foldl (fun out x => if lastB l x.t then putR x.t out else out) out ↔ z ∈ out ∨ (lastB l z = true ∧ ∃ x ∈ ts, x.t = z)
  | [], out, h => ⟨h, fun z => by simp⟩
  | x :: ts, out, h => by
    rw [List.foldl_cons]
    by_cases hl : lastB l x.t = true
    · rw [if_pos hl]
      obtain ⟨h1, h2⟩ := pendF_fold l ts _ (putR_rise (t := x.t) h)
      refine ⟨h1, fun z => ?_⟩
      rw [h2, mem_putR]
      constructor
      · rintro ((rfl | h) | ⟨h, y, hy, e⟩)
        · exact .inr ⟨hl, x, List.mem_cons_self, rfl⟩
        · exact .inl h
        · exact .inr ⟨h, y, List.mem_cons_of_mem _ hy, e⟩
      · rintro (h | ⟨h, y, hy, e⟩)
        · exact .inl (.inr h)
        · rcases List.mem_cons.1 hy with rfl | hy
          · exact .inl (.inl e.symm)
          · exact .inr ⟨h, y, hy, e⟩
    · rw [if_neg hl]
      obtain ⟨h1, h2⟩ := pendF_fold l ts _ h
      refine ⟨h1, fun z => ?_⟩
      rw [h2]
      constructor
      · rintro (h | ⟨h, y, hy, e⟩)
        · exact .inl h
        · exact .inr ⟨h, y, List.mem_cons_of_mem _ hy, e⟩
      · rintro (h | ⟨h, y, hy, e⟩)
        · exact .inl h
        · rcases List.mem_cons.1 hy with rfl | hy
          · rw [e] at hl; exact absurd h hl
          · exact .inr ⟨h, y, hy, e⟩
def pendL (l : List Nt) : List Int := pendF l l
theorem last_there {t : Int} : ∀ (l : List Nt) (b : Bool), l.foldl (lastN t) b = true → b = true ∨ ∃ x ∈ l, x.t = t
  | [], b, h => .inl h
  | x :: l, b, h => by
    rw [List.foldl_cons] at h
    rcases last_there l _ h with h | ⟨y, hy, e⟩
    · unfold lastN at h
      split at h
      · rename_i e; exact .inr ⟨x, List.mem_cons_self, e⟩
      · exact .inl h
    · exact .inr ⟨y, List.mem_cons_of_mem _ hy, e⟩
theorem pend_rise (l : List Nt) : Rise (pendL l) := (pendF_fold l l [] List.Pairwise.nil).1
theorem mem_pend {l : List Nt} {z : Int} : z ∈ pendL l ↔ lastB l z = true := by
  rw [show (z ∈ pendL l) = _ from rfl, pendL, pendF, (pendF_fold l l [] List.Pairwise.nil).2]
  constructor
  · rintro (h | h)
    · simp at h
    · exact h.1
  · intro h
    rcases last_there l false h with h' | h'
    · exact absurd h' (by decide)
    · exact .inr ⟨h, h'⟩
end Go.Proofs.Ytigdbokfapedcaa
set_option linter.unusedVariables false
set_option linter.unusedSimpArgs false
namespace Go.Proofs.Ytigdbokfapedcaa
open Go
def openF (t : Int) : Nat → List Cal → List Nat
  | _, [] => []
  | n, c :: cs => if c.g < 0 ∧ c.t = t then n :: openF t (n + 1) cs else openF t (n + 1) cs
theorem openF_lt {t : Int} : ∀ (cs : List Cal) (n i : Nat), i ∈ openF t n cs → n ≤ i ∧ i < n + cs.length
  | [], _, _, h => by simp [openF] at h
  | c :: cs, n, i, h => by
    have ih := openF_lt (t := t) cs (n + 1) i
    rw [List.length_cons]
    rw [openF] at h
    split at h
    · rcases List.mem_cons.1 h with rfl | h
      · omega
      · have := ih h; omega
    · have := ih h; omega
theorem openF_len {t : Int} : ∀ (cs : List Cal) (n : Nat), (openF t n cs).length ≤ cs.length
  | [], _ => Nat.le_refl _
  | c :: cs, n => by
    have ih := openF_len (t := t) cs (n + 1)
    rw [openF]
    split
    · rw [List.length_cons, List.length_cons]; omega
    · rw [List.length_cons]; omega
theorem openF_snoc {t : Int} (c : Cal) : ∀ (cs : List Cal) (n : Nat), openF t n (cs ++ [c]) = openF t n cs ++ (if c.g < 0 ∧ c.t = t then [n + cs.length] else [])
  | [], n => by
    rw [List.nil_append, openF, openF, openF]
    split <;> simp
  | d :: cs, n => by
    have ih := openF_snoc (t := t) c cs (n + 1)
    rw [List.cons_append, openF, openF, ih, List.length_cons, show n + 1 + cs.length = n + (cs.length + 1) by omega]
    split <;> simp
theorem openF_same {t : Int} (f : Cal → Cal) : ∀ (cs : List Cal) (n : Nat), (∀ c ∈ cs, ((f c).g < 0 ∧ (f c).t = t ↔ c.g < 0 ∧ c.t = t)) → openF t n (cs.map f) = openF t n cs
  | [], _, _ => rfl
  | c :: cs, n, h => by
    have ih := openF_same (t := t) f cs (n + 1) (fun d hd => h d (List.mem_cons_of_mem _ hd))
    rw [List.map_cons, openF, openF, ih]
    by_cases hc : c.g < 0 ∧ c.t = t
    · rw [if_pos hc, if_pos ((h c List.mem_cons_self).2 hc)]
    · rw [if_neg hc, if_neg (fun e => hc ((h c List.mem_cons_self).1 e))]
theorem openF_none {t : Int} (f : Cal → Cal) : ∀ (cs : List Cal) (n : Nat), (∀ c ∈ cs, ¬ ((f c).g < 0 ∧ (f c).t = t)) → openF t n (cs.map f) = []
  | [], _, _ => rfl
  | c :: cs, n, h => by
    rw [List.map_cons, openF, if_neg (h c List.mem_cons_self)]
    exact openF_none (t := t) f cs (n + 1) (fun d hd => h d (List.mem_cons_of_mem _ hd))
def modN (u : Cal → Cal) : Nat → List Cal → List Cal
  | _, [] => []
  | 0, c :: cs => u c :: cs
  | n + 1, c :: cs => c :: modN u n cs
theorem modN_set (u : Cal → Cal) : ∀ (cs : List Cal) (i : Nat) (c : Cal), cs[i]? = some c → modN u i cs = cs.set i (u c)
  | [], _, _, h => by simp at h
  | d :: cs, 0, c, h => by
    obtain rfl : d = c := by simpa using h
    rfl
  | d :: cs, i + 1, c, h => by
    rw [modN, List.set_cons_succ, modN_set u cs i c (by simpa using h)]
theorem modN_nil (u : Cal → Cal) : ∀ i : Nat, modN u i [] = []
  | 0 => rfl
  | _ + 1 => rfl
theorem modN_len (u : Cal → Cal) : ∀ (cs : List Cal) (i : Nat), (modN u i cs).length = cs.length
  | [], i => by rw [modN_nil]
  | d :: cs, 0 => rfl
  | d :: cs, i + 1 => by rw [modN, List.length_cons, List.length_cons, modN_len u cs i]
theorem modN_app (u : Cal → Cal) (c : Cal) (cs : List Cal) : ∀ pre : List Cal, modN u pre.length (pre ++ c :: cs) = pre ++ u c :: cs
  | [] => rfl
  | d :: pre => by rw [List.length_cons, List.cons_append, modN, modN_app u c cs pre, List.cons_append]
def bump (u : Cal → Cal) (is : List Nat) (cs : List Cal) : List Cal := is.foldl (fun cs i => modN u i cs) cs
theorem bump_snoc (u : Cal → Cal) (is : List Nat) (i : Nat) (cs : List Cal) : bump u (is ++ [i]) cs = modN u i (bump u is cs) := by unfold bump; rw [List.foldl_append]; rfl
theorem bump_len (u : Cal → Cal) : ∀ (is : List Nat) (cs : List Cal), (bump u is cs).length = cs.length
  | [], _ => rfl
  | i :: is, cs => by
    have := bump_len u is (modN u i cs)
    rw [modN_len] at this
    exact this
theorem bump_open (t : Int) (u : Cal → Cal) : ∀ (cs pre : List Cal), bump u (openF t pre.length cs) (pre ++ cs) = pre ++ cs.map fun c => if c.g < 0 ∧ c.t = t then u c else c
  | [], pre => rfl
  | c :: cs, pre => by
    rw [openF, List.map_cons]
    by_cases h : c.g < 0 ∧ c.t = t
    · have ih := bump_open t u cs (pre ++ [u c])
      rw [List.length_append, List.length_singleton, List.append_assoc, List.append_assoc] at ih
      rw [if_pos h, if_pos h]
      show bump u (openF t (pre.length + 1) cs) (modN u pre.length (pre ++ c :: cs)) = _
      rw [modN_app]
      exact ih
    · have ih := bump_open t u cs (pre ++ [c])
      rw [List.length_append, List.length_singleton, List.append_assoc, List.append_assoc] at ih
      rw [if_neg h, if_neg h]
      exact ih
def retU (i a : Int) (c : Cal) : Cal := { c with g := i, r := a }
def pntU (i : Int) (c : Cal) : Cal := { c with ps := c.ps ++ [i] }
theorem touch_ret {i : Int} {x : Nt} (h : x.w = 11) (cs : List Cal) : cs.map (fun c => c.touch i x) = bump (retU i x.a) (openF x.t 0 cs) cs := by
  have e := bump_open x.t (retU i x.a) cs []
  rw [List.nil_append, List.nil_append] at e
  refine Eq.trans ?_ e.symm
  refine List.map_congr_left fun c _ => ?_
  unfold Cal.touch
  by_cases hc : c.g < 0 ∧ c.t = x.t
  · rw [if_pos ⟨hc.1, hc.2.symm⟩, if_pos hc, if_pos h]; rfl
  · rw [if_neg (fun e => hc ⟨e.1, e.2.symm⟩), if_neg hc]
theorem touch_pnt {i : Int} {x : Nt} (h : ¬ x.w = 11) (h1 : ¬ x.w = 1) (cs : List Cal) : cs.map (fun c => c.touch i x) = bump (pntU i) (openF x.t 0 cs) cs := by
  have e := bump_open x.t (pntU i) cs []
  rw [List.nil_append, List.nil_append] at e
  refine Eq.trans ?_ e.symm
  refine List.map_congr_left fun c _ => ?_
  unfold Cal.touch
  by_cases hc : c.g < 0 ∧ c.t = x.t
  · rw [if_pos ⟨hc.1, hc.2.symm⟩, if_pos hc, if_neg h, if_neg h1]; rfl
  · rw [if_neg (fun e => hc ⟨e.1, e.2.symm⟩), if_neg hc]
theorem touch_call {i : Int} {x : Nt} (h1 : x.w = 1) (cs : List Cal) : cs.map (fun c => c.touch i x) = cs := by
  refine (List.map_congr_left fun c _ => ?_).trans (List.map_id cs)
  unfold Cal.touch
  by_cases hc : c.g < 0 ∧ x.t = c.t
  · rw [if_pos hc, if_neg (by omega), if_pos h1]; rfl
  · rw [if_neg hc]; rfl
theorem modN_mem {u : Cal → Cal} {c : Cal} : ∀ (cs : List Cal) (i : Nat), c ∈ modN u i cs → c ∈ cs ∨ ∃ d ∈ cs, c = u d
  | [], i, h => by rw [modN_nil] at h; exact .inl h
  | d :: cs, 0, h => by
    rcases List.mem_cons.1 h with rfl | h
    · exact .inr ⟨d, List.mem_cons_self, rfl⟩
    · exact .inl (List.mem_cons_of_mem _ h)
  | d :: cs, i + 1, h => by
    rcases List.mem_cons.1 h with rfl | h
    · exact .inl List.mem_cons_self
    · rcases modN_mem cs i h with h | ⟨e, h, e'⟩
      · exact .inl (List.mem_cons_of_mem _ h)
      · exact .inr ⟨e, List.mem_cons_of_mem _ h, e'⟩
theorem bump_pts {n : Nat} (y : Int) : ∀ (cs : List Cal) (_ : ∀ c ∈ cs, c.ps.length ≤ n) (is : List Nat), ∀ c ∈ bump (pntU y) is cs, c.ps.length ≤ n + is.length
  | cs, h, [], c, hc => h c hc
  | cs, h, i :: is, c, hc => by
    have ih := bump_pts (n := n + 1) y (modN (pntU y) i cs) (fun d hd => by
      rcases modN_mem cs i hd with hd | ⟨e, he, rfl⟩
      · have := h d hd; omega
      · have := h e he
        show (e.ps ++ [y]).length ≤ n + 1
        rw [List.length_append, List.length_singleton]; omega) is c hc
    rw [List.length_cons]; omega
  termination_by _ _ is => is.length
theorem open_call {i : Int} {x : Nt} (h1 : x.w = 1) (cs : List Cal) (t : Int) : openF t 0 (cs.map (fun c => c.touch i x) ++ [⟨x.t, x.o, i, -1, 0, []⟩]) = openF t 0 cs ++ (if x.t = t then [cs.length] else []) := by
  rw [touch_call h1, openF_snoc]
  congr 1
  by_cases h : x.t = t
  · rw [if_pos h, if_pos ⟨by show (-1 : Int) < 0; decide, h⟩, Nat.zero_add]
  · rw [if_neg h, if_neg (fun e => h e.2)]
theorem open_ret {i : Int} {x : Nt} (hi : 0 ≤ i) (h : x.w = 11) (cs : List Cal) (t : Int) : openF t 0 (cs.map fun c => c.touch i x) = if t = x.t then [] else openF t 0 cs := by
  by_cases ht : t = x.t
  · rw [if_pos ht]
    refine openF_none _ cs 0 fun c _ => ?_
    unfold Cal.touch
    by_cases hc : c.g < 0 ∧ x.t = c.t
    · rw [if_pos hc, if_pos h]; rintro ⟨h1, _⟩; have h1 : i < 0 := h1; omega
    · rw [if_neg hc]; rintro ⟨h1, h2⟩; exact hc ⟨h1, by omega⟩
  · rw [if_neg ht]
    refine openF_same _ cs 0 fun c _ => ?_
    unfold Cal.touch
    by_cases hc : c.g < 0 ∧ x.t = c.t
    · rw [if_pos hc, if_pos h]
      constructor
      · rintro ⟨h1, _⟩; have h1 : i < 0 := h1; omega
      · rintro ⟨_, h2⟩; omega
    · rw [if_neg hc]
theorem open_pnt {i : Int} {x : Nt} (h : ¬ x.w = 11) (cs : List Cal) (t : Int) : openF t 0 (cs.map fun c => c.touch i x) = openF t 0 cs := by
  refine openF_same _ cs 0 fun c _ => ?_
  unfold Cal.touch
  by_cases hc : c.g < 0 ∧ x.t = c.t
  · rw [if_pos hc, if_neg h]
    by_cases h1 : x.w = 1
    · rw [if_pos h1]
    · rw [if_neg h1]
  · rw [if_neg hc]
theorem callsF_len : ∀ (l : List Nt) (i : Int), (callsF i l).length ≤ l.length
  | [], _ => Nat.le_refl _
  | x :: l, i => by
    have ih := callsF_len l (i + 1)
    rw [callsF]
    split
    · rw [List.length_cons, List.length_cons]; omega
    · rw [List.length_cons]; omega
theorem retF_len (t : Int) : ∀ (l : List Nt) (i : Int), (retF t i l).2.2.length ≤ l.length
  | [], _ => Nat.le_refl _
  | x :: l, i => by
    have ih := retF_len t l (i + 1)
    rw [retF]
    split
    · exact Nat.zero_le _
    · split
      · show (i :: (retF t (i + 1) l).2.2).length ≤ _
        rw [List.length_cons, List.length_cons]; omega
      · rw [List.length_cons]; omega
theorem calls_pts {c : Cal} : ∀ (l : List Nt) (i : Int), c ∈ callsF i l → c.ps.length ≤ l.length
  | [], _, h => by simp [callsF] at h
  | x :: l, i, h => by
    rw [callsF] at h
    have hr : c ∈ callsF (i + 1) l → c.ps.length ≤ (x :: l).length := fun h => Nat.le_trans (calls_pts l _ h) (by simp)
    split at h
    · rcases List.mem_cons.1 h with rfl | h
      · exact Nat.le_trans (retF_len x.t l (i + 1)) (by simp)
      · exact hr h
    · exact hr h
theorem retF_done (t : Int) (i : Int) (hi : 0 ≤ i) : ∀ (r l : List Nt), 0 ≤ (retF t i l).1 → retF t i (l ++ r) = retF t i l
  | [], l, _ => by rw [List.append_nil]
  | x :: r, l, h => by
    have e : retF t i (l ++ [x]) = retF t i l := by rw [retF_snoc t x l i hi, if_neg (by omega)]
    have ih := retF_done t i hi r (l ++ [x]) (by rw [e]; exact h)
    rw [show l ++ x :: r = (l ++ [x]) ++ r by simp, ih, e]
def mpN (t : Int) (o : Option Int) (x : Nt) : Option Int := if x.t = t then (if x.w = 1 then some x.o else if x.w = 11 then none else o) else o
def mpF (l : List Nt) (t : Int) : Option Int := l.foldl (mpN t) none
theorem mpF_snoc (l : List Nt) (x : Nt) (t : Int) : mpF (l ++ [x]) t = mpN t (mpF l t) x := by unfold mpF; rw [List.foldl_append]; rfl
theorem mpF_last (t : Int) : ∀ (l : List Nt) (o : Option Int) (b : Bool), o.isSome = b → (l.foldl (mpN t) o).isSome = l.foldl (lastN t) b
  | [], _, _, h => h
  | x :: l, o, b, h => by
    rw [List.foldl_cons, List.foldl_cons]
    refine mpF_last t l _ _ ?_
    unfold mpN lastN
    split
    · split
      · rfl
      · split
        · rfl
        · exact h
    · exact h
theorem mpF_some {l : List Nt} {t : Int} : (mpF l t).isSome = lastB l t := mpF_last t l none false rfl
theorem mpF_in (t : Int) : ∀ (l : List Nt) (o : Option Int), (l.foldl (mpN t) o).getD 0 = l.foldl (inN t) (o.getD 0)
  | [], _ => rfl
  | x :: l, o => by
    rw [List.foldl_cons, List.foldl_cons, mpF_in t l]
    congr 1
    unfold mpN inN
    split
    · split
      · rfl
      · split <;> rfl
    · rfl
theorem mpF_op {l : List Nt} {t : Int} : (mpF l t).getD 0 = inOp l t := mpF_in t l none
def faultM (n : Int) (o : Option Int) (x : Nt) : Int := if rightN x.t x.w x.o x.a = false then 4 else if n ≤ x.t then 2 else if o.isSome = decide (x.w = 1) then 8 else if x.w = 11 ∧ x.o ≠ o.getD 0 then 8 else 0
theorem fault_wrong {n : Int} {o : Option Int} {x : Nt} (h : o.isSome = true ↔ o.getD 0 ≠ 0) : faultM n o x = wrongN n (o.getD 0) x := by
  unfold faultM wrongN
  split
  · rfl
  · split
    · rfl
    · by_cases h1 : x.w = 1
      · rw [decide_eq_true h1]
        by_cases ho : o.isSome = true
        · rw [if_pos ho, if_pos (.inl ⟨h1, h.1 ho⟩)]
        · have h0 : o.getD 0 = 0 := by
            by_cases h0 : o.getD 0 = 0
            · exact h0
            · exact absurd (h.2 h0) ho
          rw [if_neg ho, if_neg (by omega), h0, if_neg (by rintro (h | h | h) <;> omega)]
      · rw [decide_eq_false h1]
        by_cases ho : o.isSome = true
        · have h0 := h.1 ho
          rw [if_neg (by rw [ho]; decide)]
          by_cases h11 : x.w = 11 ∧ x.o ≠ o.getD 0
          · rw [if_pos h11, if_pos (.inr (.inr h11))]
          · rw [if_neg h11, if_neg]
            rintro (h | h | h)
            · exact h1 h.1
            · exact h0 h.2
            · exact h11 h
        · have h0 : o.getD 0 = 0 := by
            by_cases h0 : o.getD 0 = 0
            · exact h0
            · exact absurd (h.2 h0) ho
          rw [if_pos (by simpa using ho), if_pos (.inr (.inl ⟨h1, h0⟩))]
theorem mpF_right (t : Int) : ∀ (l : List Nt) (o : Option Int), (∀ x ∈ l, rightN x.t x.w x.o x.a = true) → (o.isSome = true ↔ o.getD 0 ≠ 0) → ((l.foldl (mpN t) o).isSome = true ↔ (l.foldl (mpN t) o).getD 0 ≠ 0)
  | [], _, _, h => h
  | x :: l, o, hr, h => by
    rw [List.foldl_cons]
    refine mpF_right t l _ (fun y hy => hr y (List.mem_cons_of_mem _ hy)) ?_
    have hx := hr x List.mem_cons_self
    unfold mpN
    split
    · split
      · rename_i hw
        refine ⟨fun _ h0 => ?_, fun _ => rfl⟩
        rw [show x.o = 0 from h0, hw] at hx
        simp [rightN, tripB, fitB, opOf, opWs, wordI] at hx
      · split
        · simp
        · exact h
    · exact h
theorem wrong_right {n o : Int} {x : Nt} (h : wrongN n o x = 0) : rightN x.t x.w x.o x.a = true := (wrong_call h).2.2.2.2
end Go.Proofs.Ytigdbokfapedcaa
