import Derived.Laws.BitsAllLaws
import Derived.Laws.BitsLemmas
import Derived.Test.YtaeninikaalkjaaGreatProg
import Derived.Laws.Shifts
import Derived.IntWalk
import Derived.Test.YtaeninikaalkjaaGreatH21
import Derived.Test.YtaeninikaalkjaaGreatH23
import Derived.Test.YtaeninikaalkjaaGreatH7
import Derived.Test.YtaeninikaalkjaaGreatH17
import Derived.Test.YtaeninikaalkjaaGreatH16
import Derived.Test.YtaeninikaalkjaaGreatH20
import Derived.Test.YtaeninikaalkjaaGreatH1
set_option linter.unusedVariables false
set_option linter.unusedSimpArgs false
namespace Go.Proofs.YtaeninikaalkjaaGreat
open Go.RowKit
theorem ite_t {α : Sort _} {b : Bool} {x y : α} (h : b = true) : (if b = true then x else y) = x := if_pos h
theorem ite_f {α : Sort _} {b : Bool} {x y : α} (h : b = false) : (if b = true then x else y) = y := if_neg (by rw [h]; decide)
def Enters1 (f : FuncId) : Prop := ∀ (args : Array Value) (w : World), (callFunc f args).run Tryz.prog w = .ok (.enter f args) w
structure St (w0 : World) (B : Nat) (p A : Option Addr) (cp : Nat) (L : List (Nat × TypeId × Array Value)) (m : Nat) (r : LS) (w : World) : Prop where
  only : Only (TurnB B A) w0 w
  rows : RowsL w L
  aside : ∀ x ∈ L, Aside x.2.1
  run : ∃ nv, RunP w B p A cp nv r
  len : r.ns.length ≤ m
section
variable {w0 w w' : World} {B : Nat} {p A : Option Addr} {cp : Nat} {L : List (Nat × TypeId × Array Value)} {m m' : Nat} {r r' : LS} {F : FuncId} {args : Array Value} {v v0 : Value} {g : Nat} {t : TypeId} {nv : Value} {Q : Ending → World → Prop}
theorem St.done (S : St w0 B p A cp L m r w) : Done B p A cp w0 v r (.returned v) w := ⟨rfl, S.only, S.run⟩
theorem St.fit (S : St w0 B p A cp L m r w) (h : r' = r) : Done B p A cp w0 v r' (.returned v) w := h ▸ S.done
theorem St.keep (S : St w0 B p A cp L m r w) (ho : Only Nil w w') : St w0 B p A cp L m r w' :=
  ⟨S.only.trans (ho.mono (fun _ _ h => h.elim)), S.rows.keep ho, S.aside, S.run.imp fun _ h => h.keep ho, S.len⟩
theorem St.drew (S : St w0 B p A cp L m r w) : St w0 B p A cp L m r w.drew := S.keep (Only.refl Nil w).drew
theorem St.drewd (S : St w0 B p A cp L m r w) (h : Drew w w') : St w0 B p A cp L m r w' := S.keep h.only
theorem St.c0 (S : St w0 B p A cp ((g, t, #[v]) :: L) m r w) : w.cell? ⟨g, 0, none⟩ = some v := S.rows.c0
theorem St.at (S : St w0 B p A cp L m r w) (i : Nat) (h : ∀ nv, (r.cells (.pointer p) nv)[i]? = some v) : w.cell? ⟨B, i, none⟩ = some v := by
  obtain ⟨nv, hp⟩ := S.run
  exact hp.row.cell_ (h nv)
theorem St.c6 (S : St w0 B p A cp L m r w) : w.cell? ⟨B, 6, none⟩ = some (.int .u32 r.a) := S.at 6 fun _ => rfl
theorem St.froz (S : St w0 B p A cp L m r w) (i : Nat) : w.frozen? ⟨B, i, none⟩ = false := by
  obtain ⟨nv, hp⟩ := S.run
  exact hp.row.frozen i
theorem St.turned (S : St w0 B p A cp L m r w) (ho : Only (TurnB B A) w w') (hr : ∃ nv, RunP w' B p A cp nv r') (hm : r'.ns.length ≤ m') : St w0 B p A cp L m' r' w' := by
  obtain ⟨nv, hp⟩ := S.run
  exact ⟨S.only.trans ho, S.rows.turn hp ho S.aside, S.aside, hr, hm⟩
theorem St.setA (S : St w0 B p A cp L m r w) (x : Int) : St w0 B p A cp L m (r.keepA x) (w.setCell ⟨B, 6, none⟩ (.int .u32 x)) :=
  S.turned ((Only.refl (TurnB B A) w).setCell (p := ⟨B, 6, none⟩) (.inr (.inl rfl)) _) (S.run.imp fun _ h => h.setA x) S.len
theorem run1 {r' rt : LS} (h : Calls Tryz.prog F args w (Done B p A cp w0 v rt)) (he : r' = rt) (k : ∀ w', Hid (Done B p A cp w0 v r' (.returned v) w') → Q (.returned v) w') : Calls Tryz.prog F args w Q := by
  refine h.mono ?_
  rintro e w' ⟨rfl, hO, hr⟩
  exact k w' (Lib.hid ⟨rfl, hO, he ▸ hr⟩)
theorem St.call (S : St w0 B p A cp L m r w) (h : ∀ nv, RunP w B p A cp nv r → Calls Tryz.prog F args w (Done B p A cp w v r')) (hm : r'.ns.length ≤ m') (k : ∀ w', St w0 B p A cp L m' r' w' → Q (.returned v) w') : Calls Tryz.prog F args w Q := by
  obtain ⟨nv, hp⟩ := S.run
  refine (h nv hp).mono ?_
  rintro e w' ⟨rfl, hO, hr⟩
  exact k w' (S.turned hO hr hm)
theorem St.call0 (S : St w0 B p A cp ((g, t, #[v0]) :: L) m r w) (h : ∀ nv, RunP w B p A cp nv r → Calls Tryz.prog F args w (Done B p A cp w v r')) (hm : r'.ns.length ≤ m') (k : ∀ w', St w0 B p A cp ((g, t, #[v0]) :: L) m' r' w' → w'.cell? ⟨g, 0, none⟩ = some v0 → Q (.returned v) w') : Calls Tryz.prog F args w Q :=
  S.call h hm fun w' S' => k w' S' S'.c0
variable {c x y l what arg : Int} {ok : Bool}
theorem xLoad (S : St w0 B p A cp L m r w) (k : ∀ w', St w0 B p A cp L (m) (r.doA 1 c 0 0) w' → Q (.returned (.int .u32 (wordAt r.xs c))) w')  : Calls Tryz.prog 52 #[.pointer (some ⟨B, 0, none⟩), .int .i64 c] w Q :=
  S.call (fun _ h => load_run B p A cp _ r c _ h) S.len k
theorem xAdd (S : St w0 B p A cp L m r w) (k : ∀ w', St w0 B p A cp L (m) (r.doA 3 c x 0) w' → Q (.returned (.int .u32 (wordAt r.xs c))) w')  : Calls Tryz.prog 60 #[.pointer (some ⟨B, 0, none⟩), .int .i64 c, .int .u32 x] w Q :=
  S.call (fun _ h => add_run B p A cp _ r c x _ h) S.len k
theorem xCas (S : St w0 B p A cp L m r w) (k : ∀ w', St w0 B p A cp L (m) (r.doA 5 c x y) w' → Q (.returned (.bool (there r.xs c && (wordAt r.xs c == x)))) w')  : Calls Tryz.prog 56 #[.pointer (some ⟨B, 0, none⟩), .int .i64 c, .int .u32 x, .int .u32 y] w Q :=
  S.call (fun _ h => cas_run B p A cp _ r c x y _ h) S.len k
theorem sNote (S : St w0 B p A cp ((g, t, #[v0]) :: L) m r w) (k : ∀ w', St w0 B p A cp ((g, t, #[v0]) :: L) (m + 1) (r.note what arg) w' → w'.cell? ⟨g, 0, none⟩ = some v0 → Q (.returned (.tuple #[])) w') (hm : m ≤ 1000 := by decide) : Calls Tryz.prog 23 #[.pointer (some ⟨B, 0, none⟩), .int .i64 what, .int .i64 arg] w Q :=
  S.call0 (fun _ h => note_run B p A cp _ r what arg _ h (Nat.le_trans S.len hm)) (by have := S.len; simp only [LS.note, List.length_append, List.length_cons, List.length_nil]; omega) k
theorem xNote (S : St w0 B p A cp L m r w) (k : ∀ w', St w0 B p A cp L (m + 1) (r.note what arg) w' → Q (.returned (.tuple #[])) w') (hm : m ≤ 1000 := by decide) : Calls Tryz.prog 23 #[.pointer (some ⟨B, 0, none⟩), .int .i64 what, .int .i64 arg] w Q :=
  S.call (fun _ h => note_run B p A cp _ r what arg _ h (Nat.le_trans S.len hm)) (by have := S.len; simp only [LS.note, List.length_append, List.length_cons, List.length_nil]; omega) k
theorem sGo (S : St w0 B p A cp ((g, t, #[v0]) :: L) m r w) (k : ∀ w', St w0 B p A cp ((g, t, #[v0]) :: L) (m) (r.go l) w' → w'.cell? ⟨g, 0, none⟩ = some v0 → Q (.returned (.tuple #[])) w')  : Calls Tryz.prog 54 #[.pointer (some ⟨B, 0, none⟩), .int .i64 l] w Q :=
  S.call0 (fun _ h => go_run B p A cp _ r l _ h) S.len k
theorem xGo (S : St w0 B p A cp L m r w) (k : ∀ w', St w0 B p A cp L (m) (r.go l) w' → Q (.returned (.tuple #[])) w')  : Calls Tryz.prog 54 #[.pointer (some ⟨B, 0, none⟩), .int .i64 l] w Q :=
  S.call (fun _ h => go_run B p A cp _ r l _ h) S.len k
theorem sEnd (S : St w0 B p A cp ((g, t, #[v0]) :: L) m r w) (k : ∀ w', St w0 B p A cp ((g, t, #[v0]) :: L) (m) (r.fin ok) w' → w'.cell? ⟨g, 0, none⟩ = some v0 → Q (.returned (.tuple #[])) w')  : Calls Tryz.prog 57 #[.pointer (some ⟨B, 0, none⟩), .bool ok] w Q :=
  S.call0 (fun _ h => end_run B p A cp _ r _ ok h) S.len k
theorem xEnd (S : St w0 B p A cp L m r w) (k : ∀ w', St w0 B p A cp L (m) (r.fin ok) w' → Q (.returned (.tuple #[])) w')  : Calls Tryz.prog 57 #[.pointer (some ⟨B, 0, none⟩), .bool ok] w Q :=
  S.call (fun _ h => end_run B p A cp _ r _ ok h) S.len k
theorem xWake (S : St w0 B p A cp L m r w) (k : ∀ w', St w0 B p A cp L (m) (r.wake c) w' → Q (.returned (.tuple #[])) w')  : Calls Tryz.prog 61 #[.pointer (some ⟨B, 0, none⟩), .int .i64 c] w Q :=
  S.call (fun _ h => wake_run B p A cp _ r c _ h) S.len k
theorem sWait {f : Fn} {f1 f2 : Array Value} {q : Int → Bool} {sn dn : Bool} (S : St w0 B p A cp ((g, t, #[v0]) :: L) m r w) (hf : Holds A w (.func f f1 f2) q) (hx : Words r.xs) (hs : (r.stepR c q).seen = sn) (hd : (r.stepR c q).done = dn) (hr : r.wait c q = r')
    (k : ∀ w', St w0 B p A cp ((g, t, #[v0]) :: L) m r' w' → w'.cell? ⟨g, 0, none⟩ = some v0 → Q (.returned (.tuple #[.bool sn, .bool dn])) w') : Calls Tryz.prog 58 #[.pointer (some ⟨B, 0, none⟩), .int .i64 c, .func f f1 f2] w Q := by
  subst hs hd hr
  exact S.call0 (fun _ h => wait_run B p A cp _ r c f f1 f2 q _ h hf hx) S.len k
end
-- a closure's boxes, new
section
variable {w : World} {B : Nat} {p A : Option Addr} {cp : Nat} {r : LS} {nv v1 v2 v3 v4 : Value} {t1 t2 t3 t4 : TypeId}
theorem st_new {L : List (Nat × TypeId × Array Value)} {w : World} (h : RunP w B p A cp nv r) (hl : r.ns.length ≤ 900) (hb : RowsL w L) (ha : ∀ x ∈ L, Aside x.2.1) : St w B p A cp L 900 r w := ⟨Only.refl _ _, hb, ha, ⟨nv, h⟩, hl⟩
theorem rows_nil (w : World) : RowsL w [] := fun _ h => by simp at h
theorem RowsL.alloc {w : World} {L : List (Nat × TypeId × Array Value)} (h : RowsL w L) (o : Obj) : RowsL (w.alloc o) L := h.keep ((Only.refl Nil w).alloc o)
theorem asides_nil : ∀ x ∈ ([] : List (Nat × TypeId × Array Value)), Aside x.2.1 := fun _ h => by simp at h
theorem asides_cons {g : Nat} {t : TypeId} {cs : Array Value} {L : List (Nat × TypeId × Array Value)} (h : Aside t) (hl : ∀ x ∈ L, Aside x.2.1) : ∀ x ∈ (g, t, cs) :: L, Aside x.2.1 := fun x hx => by
  rcases List.mem_cons.1 hx with rfl | hx
  · exact h
  · exact hl x hx
end
end Go.Proofs.YtaeninikaalkjaaGreat
set_option linter.unusedVariables false
set_option linter.unusedSimpArgs false
namespace Go.Proofs.YtaeninikaalkjaaGreat
open Go.RowKit
def Whats (B : Nat) (A : Option Addr) (w : World) (V : Value) (l : List Int) : Prop := ∃ (Z : Option Addr) (c : Nat), V = .slice Z l.length c ∧ ∀ w', Only (TurnB B A) w w' → ∀ i x, l[i]? = some x → ∃ b o, Z = some ⟨b, o, none⟩ ∧ w'.cell? ⟨b, o + i, none⟩ = some (.int .i64 x)
theorem Whats.move {B : Nat} {A : Option Addr} {w w' : World} {V : Value} {l : List Int} (h : Whats B A w V l) (ho : Only (TurnB B A) w w') : Whats B A w' V l := by
  obtain ⟨Z, c, e, h⟩ := h
  exact ⟨Z, c, e, fun w2 h2 => h w2 (ho.trans h2)⟩
theorem notes_next {r : LS} {l : List Int} {k : Nat} {x : Int} (h : l[k]? = some x) : r.notes (l.take (k + 1)) = (r.notes (l.take k)).note x 0 := by
  unfold LS.notes
  rw [List.take_add_one, h, List.foldl_append]
  rfl
end Go.Proofs.YtaeninikaalkjaaGreat
set_option linter.unusedVariables false
set_option linter.unusedSimpArgs false
namespace Go.Proofs.YtaeninikaalkjaaGreat
open Go.RowKit
theorem whats_1 {B : Nat} {p A : Option Addr} {cp : Nat} {nv : Value} {r : LS} {w : World} (h : RunP w B p A cp nv r) (x : Int) : Whats B A (w.alloc (.cells #[.int .i64 x] 3)) (.slice (some ⟨w.heap.size, 0, none⟩) 1 1) [x] := by
  have h8 := h.keep ((Only.refl Nil w).alloc (.cells #[.int .i64 x] 3))
  have hr := Row.new w 3 #[.int .i64 x]
  exact ⟨_, _, rfl, fun w' ho i y hi => ⟨w.heap.size, 0, rfl, by
    match i, hi with
    | 0, hi => cases hi; exact (h8.aside hr ho aside_i).cell_ (i := 0) rfl
    | i + 1, hi => simp at hi⟩⟩
theorem whats_2 {B : Nat} {p A : Option Addr} {cp : Nat} {nv : Value} {r : LS} {w : World} (h : RunP w B p A cp nv r) (x z : Int) : Whats B A (w.alloc (.cells #[.int .i64 x, .int .i64 z] 3)) (.slice (some ⟨w.heap.size, 0, none⟩) 2 2) [x, z] := by
  have h8 := h.keep ((Only.refl Nil w).alloc (.cells #[.int .i64 x, .int .i64 z] 3))
  have hr := Row.new w 3 #[.int .i64 x, .int .i64 z]
  exact ⟨_, _, rfl, fun w' ho i y hi => ⟨w.heap.size, 0, rfl, by
    match i, hi with
    | 0, hi => cases hi; exact (h8.aside hr ho aside_i).cell_ (i := 0) rfl
    | 1, hi => cases hi; exact (h8.aside hr ho aside_i).cell_ (i := 1) rfl
    | i + 2, hi => simp at hi⟩⟩
end Go.Proofs.YtaeninikaalkjaaGreat
namespace Go.Proofs.YtaeninikaalkjaaGreat
def isF (s n : Int) : Bool := decide (0 ≤ s ∧ s ≤ 31 ∧ 1 ≤ n ∧ n ≤ 32 ∧ s + n ≤ 32)
def pw (n : Int) : Int := 2 ^ n.toNat
def fieldOf (v s n : Int) : Int := v / pw s % pw n
def getI (v s n : Int) : Int := if isF s n then fieldOf v s n else 0
def putIn (v s n x : Int) : Int := v + (x % pw n - fieldOf v s n) * pw s
def putI (v s n x : Int) : Int := if isF s n then putIn v s n x else v
def bumpI (v s n : Int) : Int := (putI v s n ((getI v s n + 1) % 4294967296) - v) % 4294967296
theorem isF_iff {s n : Int} : isF s n = true ↔ 0 ≤ s ∧ s ≤ 31 ∧ 1 ≤ n ∧ n ≤ 32 ∧ s + n ≤ 32 := by simp [isF]
theorem pw_pos (n : Int) : 0 < pw n := Int.pow_pos (by decide)
theorem pw_nat (s : Nat) : pw (s : Int) = ((2 ^ s : Nat) : Int) := by simp [pw]
theorem pw_add {s n : Int} (hs : 0 ≤ s) (hn : 0 ≤ n) : pw (s + n) = pw s * pw n := by
  unfold pw; rw [Int.toNat_add hs hn, Int.pow_add]
theorem pw_le {s n : Int} (h : s ≤ n) : pw s ≤ pw n := by
  have h1 : s.toNat ≤ n.toNat := by omega
  have h2 : 2 ^ s.toNat ≤ 2 ^ n.toNat := Nat.pow_le_pow_right (by decide) h1
  unfold pw; exact_mod_cast h2
theorem pw_32 : pw 32 = 4294967296 := rfl
theorem pw_le32 {n : Int} (h : n ≤ 32) : pw n ≤ 4294967296 := by have := pw_le h; rwa [pw_32] at this
theorem pw_succ {n : Int} (h : 0 ≤ n) : pw (n + 1) = pw n * 2 := by rw [pw_add h (by decide)]; rfl
theorem field_bd (v s n : Int) : 0 ≤ fieldOf v s n ∧ fieldOf v s n < pw n := ⟨Int.emod_nonneg _ (by have := pw_pos n; omega), Int.emod_lt_of_pos _ (pw_pos n)⟩
theorem field_lt32 {v s n : Int} (h : isF s n = true) : fieldOf v s n < 4294967296 := by
  have := (field_bd v s n).2; have := pw_le32 (isF_iff.1 h).2.2.2.1; omega
theorem parts {v s n : Int} (hs : 0 ≤ s) (hn : 0 ≤ n) : v = v / pw (s + n) * pw (s + n) + fieldOf v s n * pw s + v % pw s := by
  have h1 : v / pw (s + n) = v / pw s / pw n := by rw [pw_add hs hn, Int.ediv_ediv_of_nonneg (by have := pw_pos s; omega)]
  have h2 := Int.ediv_mul_add_emod v (pw s)
  have h3 := Int.ediv_mul_add_emod (v / pw s) (pw n)
  rw [h1, pw_add hs hn, fieldOf]
  calc v = v / pw s * pw s + v % pw s := h2.symm
    _ = (v / pw s / pw n * pw n + v / pw s % pw n) * pw s + v % pw s := by rw [h3]
    _ = _ := by rw [Int.add_mul, Int.mul_assoc, Int.mul_comm (pw n) (pw s)]
theorem below_bd (v s : Int) : 0 ≤ v % pw s ∧ v % pw s < pw s := ⟨Int.emod_nonneg _ (by have := pw_pos s; omega), Int.emod_lt_of_pos _ (pw_pos s)⟩
theorem put_parts {v s n : Int} (x : Int) (hs : 0 ≤ s) (hn : 0 ≤ n) : putIn v s n x = v / pw (s + n) * pw (s + n) + (x % pw n * pw s + v % pw s) := by
  have h := parts (v := v) hs hn
  unfold putIn
  rw [Int.sub_mul]
  omega
theorem mod_bd (x n : Int) : 0 ≤ x % pw n ∧ x % pw n < pw n := ⟨Int.emod_nonneg _ (by have := pw_pos n; omega), Int.emod_lt_of_pos _ (pw_pos n)⟩
theorem low_bd {v s n : Int} (x : Int) (hs : 0 ≤ s) (hn : 0 ≤ n) : 0 ≤ x % pw n * pw s + v % pw s ∧ x % pw n * pw s + v % pw s < pw (s + n) := by
  have h1 := mod_bd x n
  have h2 := below_bd v s
  have h3 : x % pw n * pw s ≤ (pw n - 1) * pw s := Int.mul_le_mul_of_nonneg_right (by omega) (by have := pw_pos s; omega)
  have h4 : 0 ≤ x % pw n * pw s := Int.mul_nonneg h1.1 (by have := pw_pos s; omega)
  rw [pw_add hs hn, Int.mul_comm (pw s)]
  rw [Int.sub_mul] at h3
  omega
theorem put_bd {v s n : Int} (x : Int) (h : isF s n = true) (hv : 0 ≤ v ∧ v < 4294967296) : 0 ≤ putIn v s n x ∧ putIn v s n x < 4294967296 := by
  obtain ⟨hs, _, hn, _, hsn⟩ := isF_iff.1 h
  have h1 := low_bd (v := v) x hs (by omega : 0 ≤ n)
  rw [put_parts x hs (by omega)]
  have hp := pw_pos (s + n)
  have hk : pw (s + n) * pw (32 - (s + n)) = 4294967296 := by rw [← pw_add (by omega) (by omega), show s + n + (32 - (s + n)) = 32 by omega, pw_32]
  generalize hq : v / pw (s + n) = q
  have h2 : 0 ≤ q := by rw [← hq]; exact Int.ediv_nonneg hv.1 (by omega)
  have h3 : q < pw (32 - (s + n)) := by
    rw [← hq]; exact Int.ediv_lt_of_lt_mul hp (by rw [Int.mul_comm, hk]; exact hv.2)
  have h4 : q * pw (s + n) ≤ (pw (32 - (s + n)) - 1) * pw (s + n) := Int.mul_le_mul_of_nonneg_right (by omega) (by omega)
  have h5 : 0 ≤ q * pw (s + n) := Int.mul_nonneg h2 (by omega)
  rw [Int.sub_mul, Int.mul_comm (pw (32 - (s + n))), hk] at h4
  omega
theorem put_move {v s n : Int} (x : Int) (h : isF s n = true) : -4294967296 ≤ (x % pw n - fieldOf v s n) * pw s ∧ (x % pw n - fieldOf v s n) * pw s ≤ 4294967296 := by
  obtain ⟨hs, _, hn, _, hsn⟩ := isF_iff.1 h
  have h1 := mod_bd x n
  have h2 := field_bd v s n
  have hp := pw_pos s
  have h3 : pw n * pw s ≤ 4294967296 := by rw [← pw_add (by omega) hs, ← pw_32]; exact pw_le (by omega)
  have h4 : (x % pw n - fieldOf v s n) * pw s ≤ pw n * pw s := Int.mul_le_mul_of_nonneg_right (by omega) (by omega)
  have h5 : -pw n * pw s ≤ (x % pw n - fieldOf v s n) * pw s := Int.mul_le_mul_of_nonneg_right (by omega) (by omega)
  rw [Int.neg_mul] at h5
  omega
theorem put_mod {v s n : Int} (x y : Int) (h : x % pw n = y % pw n) : putIn v s n x = putIn v s n y := by unfold putIn; rw [h]
theorem nat_holed {v s n : Nat} (hv : v < 2 ^ 32) (h : s + n ≤ 32) : v &&& (4294967295 - (2 ^ n - 1) * 2 ^ s) = (v / 2 ^ (s + n)) * 2 ^ (s + n) ||| v % 2 ^ s := by
  have hm : (2 ^ n - 1) * 2 ^ s < 2 ^ 32 := by
    have h1 : (2 ^ n - 1) * 2 ^ s < 2 ^ n * 2 ^ s := Nat.mul_lt_mul_of_pos_right (by have := Nat.two_pow_pos n; omega) (Nat.two_pow_pos s)
    rw [← Nat.pow_add] at h1
    exact Nat.lt_of_lt_of_le h1 (Nat.pow_le_pow_right (by decide) (by omega))
  have e1 : 4294967295 - (2 ^ n - 1) * 2 ^ s = 2 ^ 32 - ((2 ^ n - 1) * 2 ^ s + 1) := by omega
  rw [e1]
  apply Nat.eq_of_testBit_eq
  intro i
  rw [Nat.testBit_and, Nat.testBit_two_pow_sub_succ hm, Nat.testBit_or, ← Nat.shiftLeft_eq, ← Nat.shiftLeft_eq, ← Nat.shiftRight_eq_div_pow, Nat.testBit_shiftLeft, Nat.testBit_shiftLeft, Nat.testBit_shiftRight, Nat.testBit_mod_two_pow, Nat.testBit_two_pow_sub_one]
  by_cases h1 : i < s
  · have a1 : ¬ s ≤ i := by omega
    have a2 : ¬ s + n ≤ i := by omega
    have a3 : i < 32 := by omega
    simp [h1, a1, a2, a3]
  · by_cases h2 : s + n ≤ i
    · have e2 : s + n + (i - (s + n)) = i := by omega
      have a1 : ¬ i - s < n := by omega
      rw [e2]
      by_cases h3 : i < 32
      · simp [h1, h2, h3, a1]
      · have : v.testBit i = false := Nat.testBit_lt_two_pow (Nat.lt_of_lt_of_le hv (Nat.pow_le_pow_right (by decide) (by omega)))
        simp [this]
    · have a1 : i - s < n := by omega
      have a2 : s ≤ i := by omega
      simp [h1, h2, a1, a2]
theorem nat_put {v s n y : Nat} (hv : v < 2 ^ 32) (h : s + n ≤ 32) (hy : y < 2 ^ n) :
    (v &&& (4294967295 - (2 ^ n - 1) * 2 ^ s)) ||| (y * 2 ^ s) = (v / 2 ^ (s + n)) * 2 ^ (s + n) + (y * 2 ^ s + v % 2 ^ s) := by
  have hl : v % 2 ^ s < 2 ^ s := Nat.mod_lt _ (Nat.two_pow_pos s)
  rw [nat_holed hv h, Nat.or_assoc, Nat.or_comm (v % 2 ^ s), nat_join s _ _ (Nat.mul_mod_left _ _) hl, nat_join (s + n) _ _ (Nat.mul_mod_left _ _) ?_]
  have h1 : y * 2 ^ s ≤ (2 ^ n - 1) * 2 ^ s := Nat.mul_le_mul_right _ (by omega)
  rw [Nat.sub_mul, ← Nat.pow_add, Nat.add_comm n s] at h1
  have h2 : 2 ^ s ≤ 2 ^ (s + n) := Nat.pow_le_pow_right (by decide) (by omega)
  omega
theorem ones_shr {n : Int} (h : 1 ≤ n ∧ n ≤ 32) : (4294967295 : Int) / 2 ^ (32 - n).toNat = pw n - 1 := by
  have e2 : pw n * pw (32 - n) = 4294967296 := by rw [← pw_add (by omega) (by omega), show n + (32 - n) = 32 by omega, pw_32]
  show 4294967295 / pw (32 - n) = pw n - 1
  have hp := pw_pos (32 - n)
  have e3 : (4294967295 : Int) = (pw (32 - n) - 1) + (pw n - 1) * pw (32 - n) := by rw [Int.sub_mul, e2]; omega
  rw [e3, Int.add_mul_ediv_right _ _ (by omega), Int.ediv_eq_zero_of_lt (by omega) (by omega), Int.zero_add]
theorem and_low {x n : Int} (hx : 0 ≤ x ∧ x < 4294967296) (hn : 0 ≤ n ∧ n ≤ 32) : bits .and .u32 x (pw n - 1) = x % pw n := by
  obtain ⟨m, rfl⟩ := Int.eq_ofNat_of_zero_le hn.1
  have := bits_mask .u32 32 (by decide) (fun k h0 h1 => by rw [IntKind.wrap_u32']; omega) m (by omega) x hx.1 (by simpa using hx.2)
  simpa [pw] using this
theorem put_bits {v s n x : Int} (h : isF s n = true) (hv : 0 ≤ v ∧ v < 4294967296) :
    bits .or .u32 (bits .andNot .u32 v ((pw n - 1) * pw s % 4294967296)) (x % pw n * pw s % 4294967296) = putIn v s n x := by
  obtain ⟨hs, hs1, hn, hn1, hsn⟩ := isF_iff.1 h
  have hn0 : 0 ≤ n := by omega
  rw [put_parts x hs hn0]
  have k1 := low_bd (v := 0) x hs hn0
  have k2 := pw_le32 hsn
  have k4 : 0 ≤ x % pw n * pw s := Int.mul_nonneg (mod_bd x n).1 (by have := pw_pos s; omega)
  have k3 : (x % pw n * pw s) % 4294967296 = x % pw n * pw s := by
    rw [Int.zero_emod, Int.add_zero] at k1; exact Int.emod_eq_of_lt k1.1 (by omega)
  have k5 : (pw n - 1) * pw s % 4294967296 = (pw n - 1) * pw s := by
    have e : (pw n - 1) * pw s = pw (s + n) - pw s := by rw [Int.sub_mul, Int.one_mul, pw_add hs hn0, Int.mul_comm]
    have := pw_pos s
    have := pw_le (show s ≤ s + n by omega)
    rw [e]; exact Int.emod_eq_of_lt (by omega) (by omega)
  rw [k3, k5]
  obtain ⟨V, rfl⟩ := Int.eq_ofNat_of_zero_le hv.1
  obtain ⟨S, rfl⟩ := Int.eq_ofNat_of_zero_le hs
  obtain ⟨N, rfl⟩ := Int.eq_ofNat_of_zero_le hn0
  obtain ⟨Y, hY⟩ := Int.eq_ofNat_of_zero_le (mod_bd x (N : Int)).1
  have hYb := (mod_bd x (N : Int)).2
  rw [hY, pw_nat] at hYb
  have hYb' : Y < 2 ^ N := by exact_mod_cast hYb
  have hV : V < 2 ^ 32 := by omega
  rw [hY, ← Int.natCast_add, pw_nat, pw_nat, pw_nat]
  have e1 : (((2 ^ N : Nat) : Int) - 1) * ((2 ^ S : Nat) : Int) = (((2 ^ N - 1) * 2 ^ S : Nat) : Int) := by
    have := Nat.two_pow_pos N
    rw [Int.natCast_mul, Int.natCast_sub this]; rfl
  have hm : (2 ^ N - 1) * 2 ^ S < 2 ^ 32 := by
    have h1 : (2 ^ N - 1) * 2 ^ S < 2 ^ N * 2 ^ S := Nat.mul_lt_mul_of_pos_right (by have := Nat.two_pow_pos N; omega) (Nat.two_pow_pos S)
    rw [← Nat.pow_add] at h1
    exact Nat.lt_of_lt_of_le h1 (Nat.pow_le_pow_right (by decide) (by omega))
  have hy : Y * 2 ^ S < 2 ^ 32 := by
    have h1 : Y * 2 ^ S < 2 ^ N * 2 ^ S := Nat.mul_lt_mul_of_pos_right hYb' (Nat.two_pow_pos S)
    rw [← Nat.pow_add] at h1
    exact Nat.lt_of_lt_of_le h1 (Nat.pow_le_pow_right (by decide) (by omega))
  rw [e1, u32_andNot_nat V _ (by omega) hm, ← Int.natCast_mul, u32_or_nat _ _ (Nat.lt_of_le_of_lt Nat.and_le_left hV) hy, nat_put hV (by omega) hYb']
  simp
theorem get_bits {v s n : Int} (h : isF s n = true) (hv : 0 ≤ v ∧ v < 4294967296) : bits .and .u32 (v / pw s) (pw n - 1) = fieldOf v s n := by
  obtain ⟨hs, hs1, hn, hn1, hsn⟩ := isF_iff.1 h
  have hp := pw_pos s
  refine and_low ⟨Int.ediv_nonneg hv.1 (by omega), Int.lt_of_le_of_lt (Int.ediv_le_self _ hv.1) hv.2⟩ ⟨by omega, hn1⟩
end Go.Proofs.YtaeninikaalkjaaGreat
set_option linter.unusedVariables false
set_option linter.unusedSimpArgs false
namespace Go.Proofs.YtaeninikaalkjaaGreat
open Go.RowKit
theorem get_r (v : Int) : getI v 0 8 = rF v := by
  show v / pw 0 % pw 8 = v % 256
  rw [show pw 0 = 1 from rfl, show pw 8 = 256 from rfl, Int.ediv_one]
theorem get_o (v : Int) : getI v 8 8 = oF v := by
  show v / pw 8 % pw 8 = v / 256 % 256
  rw [show pw 8 = 256 from rfl]
theorem get_i (v : Int) : getI v 16 8 = iF v := by
  show v / pw 16 % pw 8 = v / 65536 % 256
  rw [show pw 16 = 65536 from rfl, show pw 8 = 256 from rfl]
theorem bump_o (v : Int) : bumpI v 8 8 = nextO v := by
  show (putI v 8 8 ((getI v 8 8 + 1) % 4294967296) - v) % 4294967296 = _
  rw [get_o v]
  show (v + ((oF v + 1) % 4294967296 % pw 8 - v / pw 8 % pw 8) * pw 8 - v) % 4294967296 = _
  rw [show pw 8 = 256 from rfl]
  unfold nextO oF
  omega
end Go.Proofs.YtaeninikaalkjaaGreat
set_option linter.unusedVariables false
set_option linter.unusedSimpArgs false
namespace Go.Proofs.YtaeninikaalkjaaGreat
open Go.RowKit
theorem isField_any (s n : Int) (w : World) :
    Calls Tryz.prog 103 #[.int .i64 s, .int .i64 n] w fun e w' => e = .returned (.bool (isF s n)) ∧ w = w' := by
  by_cases h : 0 ≤ s ∧ s ≤ 31 ∧ 1 ≤ n ∧ n ≤ 32
  · obtain ⟨h1, h2, h3, h4⟩ := h
    have e : isF s n = decide (s + n ≤ 32) := by simp [isF, h1, h2, h3, h4]
    have E := Lib.hid e
    clear e
    go_enter Tryz.func103, Tryz.ntmps103
    go_wp2
    go_ret
    exact ⟨by rw [E.out]; rfl, rfl⟩
  · have e : isF s n = false := by
      have : ¬ (0 ≤ s ∧ s ≤ 31 ∧ 1 ≤ n ∧ n ≤ 32 ∧ s + n ≤ 32) := by omega
      simp [isF, this]
    have E := Lib.hid e
    have H := Lib.hid h
    clear e h
    by_cases h1 : 0 ≤ s
    · by_cases h2 : s ≤ 31
      · by_cases h3 : 1 ≤ n
        · have h4 : 32 < n := by have := H.out; omega
          go_enter Tryz.func103, Tryz.ntmps103
          go_wp2
          go_ret
          exact ⟨by rw [E.out]; rfl, rfl⟩
        · have h4 : n < 1 := by omega
          go_enter Tryz.func103, Tryz.ntmps103
          go_wp2
          go_ret
          exact ⟨by rw [E.out]; rfl, rfl⟩
      · have h4 : 31 < s := by omega
        go_enter Tryz.func103, Tryz.ntmps103
        go_wp2
        go_ret
        exact ⟨by rw [E.out]; rfl, rfl⟩
    · have h4 : s < 0 := by omega
      go_enter Tryz.func103, Tryz.ntmps103
      go_wp2
      go_ret
      exact ⟨by rw [E.out]; rfl, rfl⟩
theorem low_any (n : Int) (w : World) (h : 1 ≤ n ∧ n ≤ 32) :
    Calls Tryz.prog 104 #[.int .i64 n] w fun e w' => e = .returned (.int .u32 (pw n - 1)) ∧ w = w' := by
  have E := Lib.hid (ones_shr h)
  obtain ⟨h1, h2⟩ := h
  go_enter Tryz.func104, Tryz.ntmps104
  go_wp2
  go_ret
  exact ⟨congrArg (fun x => Ending.returned (.int .u32 x)) E.out, rfl⟩
theorem isField_yes (s n : Int) (w : World) (h : isF s n = true) : Calls Tryz.prog 103 #[.int .i64 s, .int .i64 n] w fun e w' => e = .returned (.bool true) ∧ w = w' := by
  have := isField_any s n w; rwa [h] at this
theorem isField_no (s n : Int) (w : World) (h : isF s n = false) : Calls Tryz.prog 103 #[.int .i64 s, .int .i64 n] w fun e w' => e = .returned (.bool false) ∧ w = w' := by
  have := isField_any s n w; rwa [h] at this
theorem low_quiet (n : Int) (w : World) (k : Nat) (h1 : 1 ≤ n) (h2 : n ≤ 32) :
    Calls Tryz.prog 104 #[.int .i64 n] (w.drewN k) fun e w' => e = .returned (.int .u32 (pw n - 1)) ∧ ∃ m, w' = w.drewN m :=
  (low_any n _ ⟨h1, h2⟩).mono fun _ _ ⟨he, hm⟩ => ⟨he, k, hm.symm⟩
theorem get_no (v s n : Int) (w : World) (h : isF s n = false) :
    Calls Tryz.prog 90 #[.int .u32 v, .int .i64 s, .int .i64 n] w fun e w' => e = .returned (.int .u32 0) ∧ w = w' := by
  have H := Lib.hid h
  clear h
  go_enter Tryz.func90, Tryz.ntmps90
  go_wp2_with fail
  refine (isField_no s n _ H.out).mono ?_
  rintro e w1 ⟨rfl, rfl⟩
  go_wp2
  go_ret
  exact ⟨rfl, rfl⟩
theorem get_yes (v s n : Int) (w : World) (h : isF s n = true) (hv : 0 ≤ v ∧ v < 4294967296) :
    Calls Tryz.prog 90 #[.int .u32 v, .int .i64 s, .int .i64 n] w fun e w' => e = .returned (.int .u32 (fieldOf v s n)) ∧ Drew w w' := by
  have E := Lib.hid (get_bits h hv)
  obtain ⟨h1, h2, h3, h4, h5⟩ := isF_iff.1 h
  obtain ⟨h6, h7⟩ := hv
  have H := Lib.hid h
  clear h
  go_enter Tryz.func90, Tryz.ntmps90
  go_wp2_with fail
  refine (isField_yes s n _ H.out).mono ?_
  rintro e w1 ⟨rfl, rfl⟩
  go_wp2
  go_quiet ((exact low_quiet _ _ _ h3 h4))
  go_wp2
  go_ret
  exact ⟨congrArg (fun x => Ending.returned (.int .u32 x)) E.out, Drew.n _ _⟩
theorem get_any (v s n : Int) (w : World) (hv : 0 ≤ v ∧ v < 4294967296) :
    Calls Tryz.prog 90 #[.int .u32 v, .int .i64 s, .int .i64 n] w fun e w' => e = .returned (.int .u32 (getI v s n)) ∧ Drew w w' := by
  cases h : isF s n
  · refine (get_no v s n w h).mono fun e w' ⟨he, hw⟩ => ⟨?_, Drew.of_eq hw⟩
    rw [he]; simp [getI, h]
  · refine (get_yes v s n w h hv).mono fun e w' ⟨he, hw⟩ => ⟨?_, hw⟩
    rw [he]; simp [getI, h]
end Go.Proofs.YtaeninikaalkjaaGreat
