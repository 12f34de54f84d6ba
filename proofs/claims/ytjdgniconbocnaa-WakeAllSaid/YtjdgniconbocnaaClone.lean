/- Contracts of slices.Clone at []uint32, of cells.From, cells.New, (*Memory).All and of the answer's Copy. -/
import Derived.Test.YtjdgniconbocnaaDo2
import Derived.Laws.AppendOwnNone
import Derived.Deep.OwnRows
namespace Go.Proofs.Ytjdgniconbocnaa
open Go.RowKit

theorem infoW : (Try.prog.info? 31).map (fun i => (i.zero, i.size, i.bytes)) = some (some (.int .u32 0), 1, 4) := by kernel_rfl

theorem news_of {w : World} {B : Nat} {k : IntKind} {a : Addr} {xs : List Int} (h : Ints w B k (some a) xs) : ∀ j u, (xs.map (Value.int k))[j]? = some u → w.cell? (a.add j) = some u := by
  intro j u hu
  rw [List.getElem?_map] at hu
  have hj : j < xs.length := by
    rcases Nat.lt_or_ge j xs.length with hj | hj
    · exact hj
    · rw [List.getElem?_eq_none hj] at hu; cases hu
  obtain ⟨b, o, ha, _, hc⟩ := h (by omega)
  injection ha with ha
  subst ha
  rw [add_at, hc j hj]
  rw [List.getElem?_eq_getElem hj] at hu
  simp only [Option.map_some, Option.some.injEq] at hu
  rw [← hu]
  simp [List.getD, List.getElem?_eq_getElem hj]

theorem one_of {k : IntKind} (xs : List Int) : ∀ u ∈ xs.map (Value.int k), u.oneCell' = true := by
  intro u hu
  simp only [List.mem_map] at hu
  obtain ⟨z, _, rfl⟩ := hu
  rfl

theorem clone_nil (w : World) : Calls Try.prog 17 #[.slice none 0 0] w fun e w' => e = .returned (.slice none 0 0) ∧ w' = w := by
  have hq := fun (w : World) (a : Option Addr) (n c : Nat) => Lib.run_eql_slice_nil (P := Try.prog) w 22 31 a n c 0 0 Try.underlying22
  go_enter Try.func17, Try.ntmps17
  go_wp2
  go_ret
  exact ⟨rfl, rfl⟩

theorem clone_any (a : Addr) (n cap : Nat) (xs : List Int) (w : World) (hn : xs.length = n) (hm : n ≤ 1048576) (h : Ints w w.heap.size .u32 (some a) xs) :
    Calls Try.prog 17 #[.slice (some a) n cap] w fun e w' => ∃ v, e = .returned v ∧ w'.ownsRow w.heap.size 31 1 v n (xs.map (.int .u32)) ∧ Only Nil w w' := by
  have hq := fun (w : World) (a : Option Addr) (n c : Nat) => Lib.run_eql_slice_nil (P := Try.prog) w 22 31 a n c 0 0 Try.underlying22
  obtain ⟨i0, hi, hz0, hz1, hz2⟩ := info_parts infoW
  go_enter Try.func17, Try.ntmps17
  go_wp2_with (at_builtin; refine wpList_append_own _ rfl (.tmp 5) (.tmp 6) 22 rfl w.heap.size 31 i0 (.int .u32 0) 1 4 Try.underlying22 hi hz0 hz1 hz2 rfl (by decide) _ 0 [] rfl (World.ownsRow_made w #[] 0 (Nat.le_refl _) (by decide) rfl) a n cap (xs.map (.int .u32)) rfl ?c0 ?c1 ?c2 ?c3 ?c4 ?c5 ?_)
  case c0 => simp [hn]
  case c1 => exact news_of (h.alloc (Nat.le_refl _) (.cells #[] 31))
  case c2 => exact one_of xs
  case c3 => unfold maxLen; omega
  case c4 => omega
  case c5 => simp
  intro v' w1 hown hgrow _
  have HO := Lib.hid hown
  have HG := Lib.hid hgrow
  clear hown hgrow
  go_wp2
  go_ret
  exact ⟨_, rfl, HO.out, ((Only.refl _ _).alloc _).grown HG.out (fun k hk => by simp only [Value.ownBlock, Option.some.injEq] at hk; left; omega)⟩

/-- What a list of words in the caller's hands looks like: nil, or somewhere. -/
def Held (w : World) (A : Option Addr) (n cap : Nat) (xs : List Int) : Prop := xs.length = n ∧ (A = none → n = 0 ∧ cap = 0) ∧ Ints w w.heap.size .u32 A xs

theorem Held.only {w w' : World} {A : Option Addr} {n cap : Nat} {xs : List Int} (h : Held w A n cap xs) {S : Nat → Prop} (ho : Only S w w') (hS : ∀ i, i < w.heap.size → ¬ S i) : Held w' A n cap xs :=
  ⟨h.1, h.2.1, (h.2.2.only ho (Nat.le_refl _) hS).more ho.size⟩

/-- The blocks that a slice at A lies in. -/
def At (A : Option Addr) : Nat → Prop := fun i => ∃ a, A = some a ∧ a.block = i

theorem own_form {w : World} {base : Nat} {e : TypeId} {size : Nat} {v : Value} {n : Nat} {vs : List Value} (h : w.ownsRow base e size v n vs) : ∃ A c, v = .slice A n c ∧ (A = none → n = 0 ∧ c = 0) ∧ ∀ i, At A i → base ≤ i := by
  rcases h.2 with ⟨hv, h0⟩ | ⟨g, cap, cur, hv, hb, _⟩
  · subst h0
    exact ⟨none, 0, hv, fun _ => ⟨rfl, rfl⟩, fun i ⟨a, ha, _⟩ => by cases ha⟩
  · exact ⟨some ⟨g, 0, none⟩, cap, hv, (by intro h; cases h), fun i ⟨a, ha, hi⟩ => by injection ha with ha; subst ha; subst hi; exact hb⟩

theorem own_base {w : World} {base base' : Nat} {e : TypeId} {size : Nat} {v : Value} {n : Nat} {vs : List Value} (h : w.ownsRow base e size v n vs) (hb : base' ≤ base) : w.ownsRow base' e size v n vs := by
  refine ⟨h.1, ?_⟩
  rcases h.2 with hn | ⟨g, cap, cur, hv, hb2, rest⟩
  · exact .inl hn
  · exact .inr ⟨g, cap, cur, hv, by omega, rest⟩

/-- A list of words of the call's own: what append has left. -/
structure Own (w : World) (base : Nat) (A : Option Addr) (c : Nat) (xs : List Int) : Prop where
  own : w.ownsRow base 31 1 (.slice A xs.length c) xs.length (xs.map (.int .u32))
  nil : A = none → xs.length = 0 ∧ c = 0
  base : ∀ i, At A i → base ≤ i

theorem Own.of {w : World} {base : Nat} {v : Value} {xs : List Int} (h : w.ownsRow base 31 1 v xs.length (xs.map (.int .u32))) : ∃ A c, v = .slice A xs.length c ∧ Own w base A c xs := by
  obtain ⟨A, c, rfl, h1, h2⟩ := own_form h
  exact ⟨A, c, rfl, h, h1, h2⟩

theorem Own.only {w w' : World} {base : Nat} {A : Option Addr} {c : Nat} {xs : List Int} {S : Nat → Prop} (h : Own w base A c xs) (ho : Only S w w') (hS : ∀ i, At A i → ¬ S i) : Own w' base A c xs :=
  ⟨own_only h.own ho (fun i hi => hS i (by
    cases A with
    | none => simp [Value.ownBlock] at hi
    | some a => simp only [Value.ownBlock, Option.some.injEq] at hi; exact ⟨a, rfl, hi⟩)), h.nil, h.base⟩

theorem Own.held {w : World} {base : Nat} {A : Option Addr} {c : Nat} {xs : List Int} (h : Own w base A c xs) : Held w A xs.length c xs := ⟨rfl, h.nil, Ints.of_own h.own⟩

theorem Own.lt {w : World} {base : Nat} {A : Option Addr} {c : Nat} {xs : List Int} (h : Own w base A c xs) : ∀ i, At A i → i < w.heap.size := fun i ⟨a, ha, hi⟩ => (h.own.lt i (by rw [ha]; simp [Value.ownBlock, hi])).2

theorem clone_held (A : Option Addr) (n cap : Nat) (xs : List Int) (w : World) (hm : n ≤ 1048576) (h : Held w A n cap xs) :
    Calls Try.prog 17 #[.slice A n cap] w fun e w' => ∃ A' c', e = .returned (.slice A' xs.length c') ∧ Own w' w.heap.size A' c' xs ∧ Only Nil w w' := by
  obtain ⟨h1, h2, h3⟩ := h
  cases A with
  | none =>
    obtain ⟨rfl, rfl⟩ := h2 rfl
    obtain rfl : xs = [] := List.length_eq_zero_iff.1 h1
    refine (clone_nil w).mono fun e w' ⟨he, hw⟩ => ?_
    subst hw
    obtain ⟨A', c', hv, hO⟩ := Own.of (xs := []) (World.ownsRow_nil w' w'.heap.size 31 1)
    exact ⟨A', c', he.trans (by rw [hv]), hO, Only.refl _ _⟩
  | some a =>
    subst h1
    refine (clone_any a _ cap xs w rfl hm h3).mono fun e w' ⟨v, he, ho, hO⟩ => ?_
    obtain ⟨A', c', rfl, hw⟩ := Own.of ho
    exact ⟨A', c', he, hw, hO⟩

/-- A memory behind a pointer to block b: its words lie at A, the words xs. -/
structure Mem (w : World) (b : Nat) (A : Option Addr) (c : Nat) (xs : List Int) : Prop where
  hdr : Row w b 49 #[.slice A xs.length c]
  own : Own w 0 A c xs
  len : xs.length ≤ 1024

theorem Mem.only {w w' : World} {b : Nat} {A : Option Addr} {c : Nat} {xs : List Int} {S : Nat → Prop} (h : Mem w b A c xs) (ho : Only S w w') (hb : ¬ S b) (hS : ∀ i, At A i → ¬ S i) : Mem w' b A c xs :=
  ⟨h.hdr.only ho hb, h.own.only ho hS, h.len⟩
end Go.Proofs.Ytjdgniconbocnaa
