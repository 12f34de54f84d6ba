import Derived.WalkKit
import Derived.ProofKit
import Derived.Handy
import Derived.Outline
import Derived.Deep.QuietTactic
import Derived.BigQuiet
import Derived.BigRegion
import Derived.WalkLawsBesides
import Derived.Lib.Hide
import Derived.Deep.Draws
import Derived.WalkSpells
import Derived.Test.YtgebffjejifidaaGreatChecked
import Derived.Laws.AppendOwnNone
import Derived.Deep.OwnRows
import Derived.Laws.AppendOwn
import Derived.OwnWalk
set_option linter.unusedVariables false
set_option linter.unusedSimpArgs false
namespace Go.Proofs.YtgebffjejifidaaGreat
open Go.RowKit Tryz
theorem hx{α:Type}(a:α):∃b,Hid (a=b):=⟨a,rfl⟩
theorem zh{p:Prop}(h:p):Hid p:=h
theorem kr{p:Prop}(h:p:=by kernel_rfl):p:=h
theorem br{p:Prop}(h:p:=by rfl):p:=h
theorem om{p:Prop}(h:p:=by omega):p:=h
theorem dc{p:Prop}(h:p:=by decide):p:=h
def Row(w:World)(g:Nat)(t:TypeId)(cs:Array Value):Prop:=w.heap[g]? =some (.cells cs t (0,0))
structure Only(S:Nat->Prop)(w w':World):Prop where
 os:w'.os=w.os
 tape:w'.tape=w.tape
 output:w'.output=w.output
 size:w.heap.size<=w'.heap.size
 block:∀k,k<w.heap.size->¬S k->w'.heap[k]? =w.heap[k]?
section
variable{w w' w'':World}{g:Nat}{t:TypeId}{cs:Array Value}{S T:Nat->Prop}
theorem Row.lt(h:Row w g t cs):g<w.heap.size:=(Array.getElem?_eq_some_iff.1 h).1
theorem Row.cell(h:Row w g t cs)(i:Nat):w.cell? ⟨g,i,none⟩=cs[i]? :=by
 have h':w.heap[g]? =_:=h;simp[World.cell?,h']
theorem Row.cell_(h:Row w g t cs){i:Nat}{v:Value}(hi:cs[i]? =some v):w.cell? ⟨g,i,none⟩=some v:=(h.cell i).trans hi
theorem Row.frozen(h:Row w g t cs)(i:Nat):w.frozen? ⟨g,i,none⟩=false:=by
 have h':w.heap[g]? =_:=h;simp[World.frozen?,h']
theorem Row.new(w:World)(t:TypeId)(cs:Array Value):Row (w.alloc (.cells cs t)) w.heap.size t cs:=by
 show(w.heap.push _)[w.heap.size]? =_;rw[Array.getElem?_push_size]
theorem Row.new2(w:World)(o:Obj)(t:TypeId)(cs:Array Value):Row ((w.alloc o).alloc (.cells cs t)) (w.heap.size+1) t cs:=by
 have e:=Row.new (w.alloc o) t cs
 rwa [show(w.alloc o).heap.size=w.heap.size+1 by simp]at e
theorem Row.drew(h:Row w g t cs):Row w.drew g t cs:=h
theorem Row.drewN(h:Row w g t cs)(n:Nat):Row (w.drewN n) g t cs:=h
theorem Row.alloc(h:Row w g t cs)(o:Obj):Row (w.alloc o) g t cs:=(Below.heap_alloc w o g h.lt).trans h
theorem Row.set(h:Row w g t cs)(i:Nat)(u:Value):Row (w.setCell ⟨g,i,none⟩ u) g t (cs.setIfInBounds i u):=by
 have h':w.heap[g]? =_:=h;show(World.setCell w ⟨g,i,none⟩ u).heap[g]? =_;simp[World.setCell,Array.getElem?_modify,h']
theorem Row.far(h:Row w g t cs){p:Addr}(hp:g≠p.block)(u:Value):Row (w.setCell p u) g t cs:=(Below.heap_setCell w p u g hp).trans h
theorem Row.only(h:Row w g t cs)(ho:Only S w w')(hg:¬S g):Row w' g t cs:=(ho.block g h.lt hg).trans h
theorem Row.same{t':TypeId}{cs':Array Value}(h:Row w g t cs)(h':Row w g t' cs'):t=t'/\cs=cs':=by
 have e:=h.symm.trans h';simp only[Option.some.injEq,Obj.cells.injEq]at e;exact⟨e.2.1,e.1⟩
theorem Only.refl(S:Nat->Prop)(w:World):Only S w w:=⟨rfl,rfl,rfl,Nat.le_refl _,fun _ _ _=>rfl⟩
theorem Only.trans(h:Only S w w')(k:Only S w' w''):Only S w w'':=
 ⟨k.os.trans h.os,k.tape.trans h.tape,k.output.trans h.output,Nat.le_trans h.size k.size,fun i hi hS=>(k.block i (Nat.lt_of_lt_of_le hi h.size) hS).trans (h.block i hi hS)⟩
theorem Only.mono(h:Only S w w')(hST:∀k,k<w.heap.size->S k->T k):Only T w w':=⟨h.os,h.tape,h.output,h.size,fun i hi hT=>h.block i hi (fun hs=>hT (hST i hi hs))⟩
theorem Only.step(h:Only S w w')(k:Only T w' w'')(hT:∀i,i<w.heap.size->T i->S i):Only S w w'':=
 ⟨k.os.trans h.os,k.tape.trans h.tape,k.output.trans h.output,Nat.le_trans h.size k.size,fun i hi hS=>(k.block i (Nat.lt_of_lt_of_le hi h.size) (fun ht=>hS (hT i hi ht))).trans (h.block i hi hS)⟩
theorem Only.drew(h:Only S w w'):Only S w w'.drew:=⟨h.os,h.tape,h.output,h.size,h.block⟩
theorem Only.drewN(h:Only S w w')(n:Nat):Only S w (w'.drewN n):=⟨h.os,h.tape,h.output,h.size,h.block⟩
theorem Only.alloc(h:Only S w w')(o:Obj):Only S w (w'.alloc o):=
 ⟨h.os,h.tape,h.output,Nat.le_trans h.size (by simp),fun i hi hS=>(Below.heap_alloc w' o i (Nat.lt_of_lt_of_le hi h.size)).trans (h.block i hi hS)⟩
theorem Only.setCell(h:Only S w w'){p:Addr}(hp:w.heap.size<=p.block\/S p.block)(u:Value):Only S w (w'.setCell p u):=
 ⟨h.os,h.tape,h.output,by simpa [World.setCell] using h.size,fun i hi hS=>(Below.heap_setCell w' p u i (by
   rintro rfl;rcases hp with hp|hp
   . omega
   . exact hS hp)).trans (h.block i hi hS)⟩
theorem Only.grown{row:Option Nat}(h:Only S w w')(hg:w'.grownBy w'' row)(hr:∀k,row=some k->w.heap.size<=k\/S k):Only S w w'':=
 ⟨hg.os.trans h.os,hg.tape.trans h.tape,hg.output.trans h.output,Nat.le_trans h.size hg.size,fun i hi hS=>(hg.block i (Nat.lt_of_lt_of_le hi h.size) (fun e=>by
   rcases hr i e.symm with hk|hk
   . omega
   . exact hS hk)).trans (h.block i hi hS)⟩
theorem Only.below{B:Nat}(h:Only S w w')(hB:B<=w.heap.size)(hS:∀k,k<B->¬S k):Below B w w':=
 ⟨h.os,h.tape,h.output,h.size,fun k hk=>h.block k (Nat.lt_of_lt_of_le hk hB) (hS k hk)⟩
theorem Only.cell(h:Only S w w'){p:Addr}(hp:p.block<w.heap.size)(hS:¬S p.block):w'.cell? p=w.cell? p:=World.cell?_of_block (w:=w) (h.block p.block hp hS)
end
theorem zc{P:Program}{fn:Func}{R:Ending->World->Prop}{a:Act}{w:World}{p u:Tmp}{ty:TypeId}(h:fn.results= #[.cell p ty,.tmp u]){g:Nat}{t:TypeId}{cs:Array Value}{d:TypeDesc}
 (hp:a.tmps.getD p undef= .pointer (some ⟨g,0,none⟩)) (hg:Row w g t cs)
 (hu:P.underlying ty=some d) (hd:(match d with| .struct _| .array _ _=>true|_=>false)=true) (hi:(P.info? ty).map (·.size)=some cs.size)
 (hf:a.defers=[]) (hR:R (.returned (.tuple #[.agg cs,a.tmps.getD u undef])) w):bodyPost P fn R .ret a w:=by
 refine⟨hf,_,?_,hR⟩
 have hp':a.tmps[p]?.getD undef= .pointer (some ⟨g,0,none⟩):=by simpa using hp
 simp[results,h,hp',asAddr,run_loadVar_row w g t ty cs (0,0) d hg hu hd hi]
theorem qv{P:Program}{fn:Func}{R:Ending->World->Prop}{a:Act}{w:World}{p:Tmp}{ty:TypeId}(h:fn.results= #[.cell p ty]){g:Nat}{t:TypeId}{cs:Array Value}{d:TypeDesc}
 (hp:a.tmps.getD p undef= .pointer (some ⟨g,0,none⟩)) (hg:Row w g t cs)
 (hu:P.underlying ty=some d) (hd:(match d with| .struct _| .array _ _=>true|_=>false)=true) (hi:(P.info? ty).map (·.size)=some cs.size)
 (hf:a.defers=[]) (hR:R (.returned (.agg cs)) w):bodyPost P fn R .ret a w:=
 ⟨hf,_,results_cell_row h a.tmps w g t cs (0,0) d hp hg hu hd hi,hR⟩
def Nil:Nat->Prop:=fun _=>False
def Ints(w:World)(B:Nat)(k:IntKind)(A:Option Addr)(xs:List Int):Prop:=
 0<xs.length->∃b o,A=some ⟨b,o,none⟩/\b<B/\∀i,i<xs.length->w.cell? ⟨b,o+i,none⟩=some (.int k (xs.getD i 0))
theorem qpu(a:Addr)(i:Nat):(a.add i).block=a.block:=by unfold Addr.add;split<;>rfl
theorem qe0(g o i:Nat):(⟨g,o,none⟩:Addr).add i=⟨g,o+i,none⟩:=by
 unfold Addr.add
 by_cases h:i=0
 . simp[h]
 . simp[h]
section
variable{w w':World}{B B':Nat}{k:IntKind}{A:Option Addr}{xs:List Int}{S:Nat->Prop}
theorem Ints.keep(h:Ints w B k A xs)(hk:∀p:Addr,p.block<B->w'.cell? p=w.cell? p):Ints w' B k A xs:=fun hn=>by
 obtain⟨b,o,e,hb,hc⟩:=h hn;exact⟨b,o,e,hb,fun i hi=>(hk _ hb).trans (hc i hi)⟩
theorem Ints.only(h:Ints w B k A xs)(ho:Only S w w')(hB:B<=w.heap.size)(hS:∀i,i<B->¬S i):Ints w' B k A xs:=
 h.keep fun _ hp=>ho.cell (Nat.lt_of_lt_of_le hp hB) (hS _ hp)
theorem Ints.alloc(h:Ints w B k A xs)(hB:B<=w.heap.size)(o:Obj):Ints (w.alloc o) B k A xs:=h.keep fun p hp=>World.cell?_alloc_lt w o p om
theorem Ints.of_own{base:Nat}{e:TypeId}{c n:Nat}(h:w.ownsRow base e 1 (.slice A n c) n (xs.map (.int k))):Ints w w.heap.size k A xs:=fun hn=>by
 obtain⟨hl,h2⟩:=h;rw[List.length_map,Nat.mul_one]at hl;rcases h2 with⟨_,h0⟩|⟨g,cap,cur,hv,_,hg,_,_,_,ht⟩
 . omega
 . injection hv with h1;subst h1;have hr:Row w g e cur:=hg;refine⟨g,0,rfl,hr.lt,fun i hi=> ?_⟩;rw[Nat.zero_add];refine hr.cell_ ?_
   have e1:(cur.toList.take (n*1))[i]? =(xs.map (Value.int k))[i]? :=by rw[ht]
   rw[List.getElem?_take,if_pos om,List.getElem?_map,List.getElem?_eq_getElem hi]at e1;simp only[Option.map_some,Array.getElem?_toList]at e1;rw[e1];simp[List.getD,List.getElem?_eq_getElem hi]
theorem qx{base:Nat}{e:TypeId}{size:Nat}{v:Value}{n:Nat}{vs:List Value}(h:w.ownsRow base e size v n vs)(ho:Only S w w')(hS:∀i,v.ownBlock=some i->¬S i):w'.ownsRow base e size v n vs:=by
 refine⟨h.1,?_⟩;rcases h.2 with hn|⟨g,cap,cur,rfl,hb,hgg,rest⟩
 . exact .inl hn
 . exact .inr ⟨g,cap,cur,rfl,hb,(ho.block g (Array.getElem?_eq_some_iff.1 hgg).1 (hS g rfl)).trans hgg,rest⟩
end
def Drew(w w':World):Prop:=∃k:Nat,w'=w.drewN k
theorem Drew.refl(w:World):Drew w w:=⟨0,rfl⟩
theorem Drew.of_eq{w w':World}(h:w=w'):Drew w w':=h▸Drew.refl w
theorem Drew.n(w:World)(k:Nat):Drew w (w.drewN k):=⟨k,rfl⟩
theorem Drew.trans{w w' w'':World}(h:Drew w w')(k:Drew w' w''):Drew w w'':=by
 obtain⟨a,rfl⟩:=h;obtain⟨b,rfl⟩:=k;exact⟨a+b,World.drewN_drewN ..⟩
theorem Drew.quiet{w w':World}{k:Nat}(h:Drew (w.drewN k) w'):∃m,w'=w.drewN m:=by
 obtain⟨a,ha⟩:=(Drew.n w k).trans h;exact⟨a,ha⟩
theorem Drew.only{S:Nat->Prop}{w w':World}(h:Drew w w'):Only S w w':=by
 obtain⟨a,rfl⟩:=h;exact(Only.refl S w).drewN a
theorem Drew.cell{w w':World}(h:Drew w w')(p:Addr):w'.cell? p=w.cell? p:=by obtain⟨a,rfl⟩:=h;rfl
theorem Drew.size{w w':World}(h:Drew w w'):w'.heap.size=w.heap.size:=by obtain⟨a,rfl⟩:=h;rfl
theorem Drew.row{w w':World}(h:Drew w w'){g:Nat}{t:TypeId}{cs:Array Value}(r:Row w g t cs):Row w' g t cs:=by obtain⟨a,rfl⟩:=h;exact r
theorem qsl{n:Int}(h:(Lit.int .u32 n).wf=true):0<=n/\n<4294967296:=by
 have h1:IntKind.u32.min=0:=rfl;have h2:IntKind.u32.max=4294967295:=rfl;simp only[Lit.wf,Bool.and_eq_true,decide_eq_true_eq]at h;omega
theorem k1:∀{α:Type _} (l:List α) (i:Nat) (a:α),l.toArray.setIfInBounds i a=(l.set i a).toArray:= @List.setIfInBounds_toArray
theorem k2:∀{α:Type _} {x:α} {xs:List α} {a:α},(x::xs).set 0 a=a::xs:= @List.set_cons_zero
theorem k3:∀{α:Type _} {x:α} {xs:List α} {i:Nat} {a:α},(x::xs).set (i+1) a=x::xs.set i a:= @List.set_cons_succ
abbrev qlu(w:World)(g:Nat)(a b c d:Value):Prop:=w.cell? ⟨g,0,none⟩=some a/\w.cell? ⟨g,1,none⟩=some b/\w.cell? ⟨g,2,none⟩=some c/\w.cell? ⟨g,3,none⟩=some d
abbrev qfr(w:World)(g:Nat)(a b c d e:Value):Prop:=w.cell? ⟨g,0,none⟩=some a/\w.cell? ⟨g,1,none⟩=some b/\w.cell? ⟨g,2,none⟩=some c/\w.cell? ⟨g,3,none⟩=some d/\w.cell? ⟨g,4,none⟩=some e
abbrev Six(w:World)(g:Nat)(a b c d e f:Value):Prop:=w.cell? ⟨g,0,none⟩=some a/\w.cell? ⟨g,1,none⟩=some b/\w.cell? ⟨g,2,none⟩=some c/\w.cell? ⟨g,3,none⟩=some d/\w.cell? ⟨g,4,none⟩=some e/\w.cell? ⟨g,5,none⟩=some f
theorem Row.four{w:World}{g:Nat}{t:TypeId}{a b c d:Value}(h:Row w g t #[a,b,c,d]):qlu w g a b c d:=⟨h.cell_ (i:=0) rfl,h.cell_ (i:=1) rfl,h.cell_ (i:=2) rfl,h.cell_ (i:=3) rfl⟩
theorem Row.five{w:World}{g:Nat}{t:TypeId}{a b c d e:Value}(h:Row w g t #[a,b,c,d,e]):qfr w g a b c d e:=⟨h.cell_ (i:=0) rfl,h.cell_ (i:=1) rfl,h.cell_ (i:=2) rfl,h.cell_ (i:=3) rfl,h.cell_ (i:=4) rfl⟩
theorem Row.six{w:World}{g:Nat}{t:TypeId}{a b c d e f:Value}(h:Row w g t #[a,b,c,d,e,f]):Six w g a b c d e f:=⟨h.cell_ (i:=0) rfl,h.cell_ (i:=1) rfl,h.cell_ (i:=2) rfl,h.cell_ (i:=3) rfl,h.cell_ (i:=4) rfl,h.cell_ (i:=5) rfl⟩
theorem Row.one{w:World}{g:Nat}{t:TypeId}{a:Value}(h:Row w g t #[a]):w.cell? ⟨g,0,none⟩=some a:=h.cell_ (i:=0) rfl
def yr(k x y o:Int):Int:=if k=3 then(x+o)%4294967296 else if k=2 then x else if k=4 then x else if k=5 then(if o=x then y else o)else if k=1 then o else 0
def yi(k:Int):Bool:=decide (1<=k/\k<=5)
theorem qsq{a b:Int}{c d:Bool}(h:a=b)(h':c=d):Ending.returned (.tuple #[.int .u32 a,.bool c])= .returned (.tuple #[.int .u32 b,.bool d]):=by rw[h,h']
theorem qfo(k c x y o:Int)(w:World):
 Calls prog 310 #[.agg #[.int .i64 k,.int .i64 c,.int .u32 x,.int .u32 y,.int .u32 o]] w fun e w'=>
  e= .returned (.tuple #[.int .u32 (yr k x y o),.bool (yi k)])/\Only Nil w w':=by
 by_cases h3:k=3<;>by_cases h2:k=2<;>by_cases h4:k=4<;>by_cases h5:k=5<;>by_cases h1:k=1<;>by_cases hx:o=x
 all_goals first
  |omega
  |(go_enter func310, ntmps310
    go_wp2
    all_goals
     go_ret2
     exact⟨qsq (by simp[yr,h3,h2,h4,h5,h1,hx]) (by simp[yi];omega),(Only.refl _ _).alloc _⟩)
theorem qii(b:Nat)(A:Option Addr)(n cap:Nat)(w:World)(h:Row w b 92 #[.slice A n cap]):
 Calls prog 309 #[.pointer (some ⟨b,0,none⟩)] w fun e w'=>e= .returned (.int .i64 n)/\w'=w:=by
 have hc:=h.cell_ (i:=0) rfl;clear h;go_enter func309, ntmps309;go_wp2;go_ret;exact⟨rfl,rfl⟩
theorem qvw(w:World):
 Calls prog 309 #[.pointer none] w fun e w'=>e= .returned (.int .i64 0)/\w'=w:=by
 go_enter func309, ntmps309;go_wp2;go_ret;exact⟨rfl,rfl⟩
theorem zal(b:Nat)(A:Option Addr)(n cap:Nat)(k c x y o:Int)(w:World)(h:Row w b 92 #[.slice A n cap])(hc:c<0\/(n:Int)<=c):
 Calls prog 277 #[.pointer (some ⟨b,0,none⟩),.agg #[.int .i64 k,.int .i64 c,.int .u32 x,.int .u32 y,.int .u32 o]] w fun e w'=>
  e= .returned (.tuple #[.agg #[.int .i64 0,.int .i64 0,.int .u32 0,.int .u32 0,.int .u32 0],.bool false])/\Only Nil w w':=by
 by_cases h0:c<0
 . clear h hc;go_enter func277, ntmps277;go_wp2
   go_quiet (fail)
   go_wp2;go_returns;exact⟨rfl,by(repeat' (first|(with_reducible exact Only.refl _ _)|(with_reducible assumption)|(with_reducible refine Only.setCell ?_ ?_ _)|(with_reducible refine Only.drewN ?_ _)|(with_reducible refine Only.drew ?_)|(with_reducible refine Only.alloc ?_ _)|(left;simp;done)|(left;simp;omega)|(right;rfl)))⟩
 . have h1:(n:Int)<=c:=by omega
   have h2:∀o1 o2,Row ((w.alloc o1).alloc o2) b 92 #[.slice A n cap]:=fun o1 o2=>(h.alloc o1).alloc o2;have H:=zh h2;clear h hc h2;go_enter func277, ntmps277;go_wp2
   go_quiet ((go_at_call 309;exact Calls.quiet_of_same (qii b A n cap _ (H.out _ _))))
   go_wp2;go_returns;exact⟨rfl,by(repeat' (first|(with_reducible exact Only.refl _ _)|(with_reducible assumption)|(with_reducible refine Only.setCell ?_ ?_ _)|(with_reducible refine Only.drewN ?_ _)|(with_reducible refine Only.drew ?_)|(with_reducible refine Only.alloc ?_ _)|(left;simp;done)|(left;simp;omega)|(right;rfl)))⟩
theorem zb8(k c x y o:Int)(w:World):
 Calls prog 277 #[.pointer none,.agg #[.int .i64 k,.int .i64 c,.int .u32 x,.int .u32 y,.int .u32 o]] w fun e w'=>
  e= .returned (.tuple #[.agg #[.int .i64 0,.int .i64 0,.int .u32 0,.int .u32 0,.int .u32 0],.bool false])/\Only Nil w w':=by
 by_cases h0:c<0
 . go_enter func277, ntmps277;go_wp2
   go_quiet (fail)
   go_wp2;go_returns;exact⟨rfl,by(repeat' (first|(with_reducible exact Only.refl _ _)|(with_reducible assumption)|(with_reducible refine Only.setCell ?_ ?_ _)|(with_reducible refine Only.drewN ?_ _)|(with_reducible refine Only.drew ?_)|(with_reducible refine Only.alloc ?_ _)|(left;simp;done)|(left;simp;omega)|(right;rfl)))⟩
 . have h1:(0:Int)<=c:=by omega
   go_enter func277, ntmps277;go_wp2
   go_quiet ((go_at_call 309;exact Calls.quiet_of_same (qvw _)))
   go_wp2;go_returns;exact⟨rfl,by(repeat' (first|(with_reducible exact Only.refl _ _)|(with_reducible assumption)|(with_reducible refine Only.setCell ?_ ?_ _)|(with_reducible refine Only.drewN ?_ _)|(with_reducible refine Only.drew ?_)|(with_reducible refine Only.alloc ?_ _)|(left;simp;done)|(left;simp;omega)|(right;rfl)))⟩
theorem zc5(b g n cap i:Nat)(cur:Array Value)(k x y o v:Int)(w:World)(h:Row w b 92 #[.slice (some ⟨g,0,none⟩) n cap])(hg:Row w g 22 cur)
 (hi:i<n) (hv:cur[i]? =some (.int .u32 v)) (hk:yi k=true):
 Calls prog 277 #[.pointer (some ⟨b,0,none⟩),.agg #[.int .i64 k,.int .i64 i,.int .u32 x,.int .u32 y,.int .u32 o]] w fun e w'=>
  e= .returned (.tuple #[.agg #[.int .i64 k,.int .i64 i,.int .u32 x,.int .u32 y,.int .u32 v],.bool true])/\Only (· =g) w w'/\Row w' g 22 (cur.setIfInBounds i (.int .u32 (yr k x y v))):=by
 have h2:∀o1 o2,Row ((w.alloc o1).alloc o2) b 92 #[.slice (some ⟨g,0,none⟩) n cap]:=fun o1 o2=>(h.alloc o1).alloc o2;have H:=zh h2;have hlt:=h.lt;have hglt:=hg.lt
 have hin:(i:Int)<n:=by omega
 have h0:¬(i:Int)<0:=by omega
 have hc:=h.cell_ (i:=0) rfl;have hcv:=hg.cell_ hv;have HG:=zh hg;have HV:=zh hv;clear h h2 hv hg;go_enter func277, ntmps277;go_wp2
 go_quiet ((go_at_call 309;exact Calls.quiet_of_same (qii b _ n cap _ (H.out _ _))))
 go_wp2
 go_region
 go_wp2_with fail;refine(qfo k i x y v _).mono ?_;rintro e w1 ⟨rfl,ho⟩;rw[hk];generalize hl:yr k x y v=lv;have F0:Row w1 w.heap.size 33 #[.int .i64 k,.int .i64 i,.int .u32 x,.int .u32 y,.int .u32 v]:=((((Row.new w _ _).alloc _).drewN _).set 4 _).only ho id
 have F1:Row w1 (w.heap.size+1) 33 #[.int .i64 0,.int .i64 0,.int .u32 0,.int .u32 0,.int .u32 0]:=by
  have:=((Row.new (w.alloc (Obj.cells #[.int .i64 k,.int .i64 i,.int .u32 x,.int .u32 y,.int .u32 o] 33)) 33 #[.int .i64 0,.int .i64 0,.int .u32 0,.int .u32 0,.int .u32 0]).drewN (nq+1));rw[show(w.alloc (Obj.cells #[.int .i64 k,.int .i64 i,.int .u32 x,.int .u32 y,.int .u32 o] 33)).heap.size=w.heap.size+1 by simp]at this;exact(this.far (by simp) _).only ho id
 have FB:=((((H.out _ _).drewN _).far (p:=⟨w.heap.size,4,none⟩) (by show b≠w.heap.size;omega) _).only ho id);have FG:=(((((HG.out.alloc _).alloc _).drewN _).far (p:=⟨w.heap.size,4,none⟩) (by show g≠w.heap.size;omega) _).only ho id);have OW:Only Nil w w1:=Only.trans (by(repeat' (first|(with_reducible exact Only.refl _ _)|(with_reducible assumption)|(with_reducible refine Only.setCell ?_ ?_ _)|(with_reducible refine Only.drewN ?_ _)|(with_reducible refine Only.drew ?_)|(with_reducible refine Only.alloc ?_ _)|(left;simp;done)|(left;simp;omega)|(right;rfl)))) ho;clear ho hcv hc;have hs1:w.heap.size+1<w1.heap.size:=F1.lt;have c0:w1.cell? ⟨w.heap.size,0,none⟩=some (.int .i64 k):=F0.cell_ (i:=0) rfl;have c1:w1.cell? ⟨w.heap.size,1,none⟩=some (.int .i64 i):=F0.cell_ (i:=1) rfl;have c2:w1.cell? ⟨w.heap.size,2,none⟩=some (.int .u32 x):=F0.cell_ (i:=2) rfl;have c3:w1.cell? ⟨w.heap.size,3,none⟩=some (.int .u32 y):=F0.cell_ (i:=3) rfl;have c4:w1.cell? ⟨w.heap.size,4,none⟩=some (.int .u32 v):=F0.cell_ (i:=4) rfl;have d0:w1.cell? ⟨w.heap.size+1,0,none⟩=some (.int .i64 0):=F1.cell_ (i:=0) rfl;have d1:w1.cell? ⟨w.heap.size+1,1,none⟩=some (.int .i64 0):=F1.cell_ (i:=1) rfl;have d2:w1.cell? ⟨w.heap.size+1,2,none⟩=some (.int .u32 0):=F1.cell_ (i:=2) rfl;have d3:w1.cell? ⟨w.heap.size+1,3,none⟩=some (.int .u32 0):=F1.cell_ (i:=3) rfl;have d4:w1.cell? ⟨w.heap.size+1,4,none⟩=some (.int .u32 0):=F1.cell_ (i:=4) rfl;have e0:w1.frozen? ⟨w.heap.size+1,0,none⟩=false:=F1.frozen 0;have e1:w1.frozen? ⟨w.heap.size+1,1,none⟩=false:=F1.frozen 1;have e2:w1.frozen? ⟨w.heap.size+1,2,none⟩=false:=F1.frozen 2;have e3:w1.frozen? ⟨w.heap.size+1,3,none⟩=false:=F1.frozen 3;have e4:w1.frozen? ⟨w.heap.size+1,4,none⟩=false:=F1.frozen 4;have b0:w1.cell? ⟨b,0,none⟩=some (.slice (some ⟨g,0,none⟩) n cap):=FB.cell_ (i:=0) rfl;have g0:=FG.cell_ HV.out;have g1:=FG.frozen i;have HB:=zh FB;have HG1:=zh FG;have H0:=zh F0;have H1:=zh F1;have HO:=zh OW;have HL:=zh hl;clear FB FG F0 F1 OW hl;go_wp2
 go_region
 all_goals go_wp2
 refine zc (P:= prog) results277 (t:= 33) (g:=w.heap.size+1) (cs:= #[.int .i64 k,.int .i64 i,.int .u32 x,.int .u32 y,.int .u32 v]) rfl ?_ underlying33 rfl kr rfl ⟨rfl,?_,?_⟩
 . exact((((((H1.out.far (p:=⟨g,i,none⟩) (by show w.heap.size+1≠g;omega) (.int .u32 lv)).set 0 (.int .i64 k)).set 1 (.int .i64 i)).set 2 (.int .u32 x)).set 3 (.int .u32 y)).set 4 (.int .u32 v)).drew
 . have O1:Only (· =g) w w1:=HO.out.mono (fun _ _ h=>h.elim)
   (repeat' (first|(with_reducible exact Only.refl _ _)|(with_reducible assumption)|(with_reducible refine Only.setCell ?_ ?_ _)|(with_reducible refine Only.drewN ?_ _)|(with_reducible refine Only.drew ?_)|(with_reducible refine Only.alloc ?_ _)|(left;simp;done)|(left;simp;omega)|(right;rfl)))
 . rw[HL.out];exact((((((HG1.out.set i (.int .u32 lv)).far (p:=⟨w.heap.size+1,0,none⟩) (by show g≠w.heap.size+1;omega) _).far (p:=⟨w.heap.size+1,1,none⟩) (by show g≠w.heap.size+1;omega) _).far (p:=⟨w.heap.size+1,2,none⟩) (by show g≠w.heap.size+1;omega) _).far (p:=⟨w.heap.size+1,3,none⟩) (by show g≠w.heap.size+1;omega) _).far (p:=⟨w.heap.size+1,4,none⟩) (by show g≠w.heap.size+1;omega) _).drew
theorem qz1(b g n cap i:Nat)(cur:Array Value)(k x y o v:Int)(w:World)(h:Row w b 92 #[.slice (some ⟨g,0,none⟩) n cap])(hg:Row w g 22 cur)
 (hi:i<n) (hv:cur[i]? =some (.int .u32 v)) (hk:yi k=false):
 Calls prog 277 #[.pointer (some ⟨b,0,none⟩),.agg #[.int .i64 k,.int .i64 i,.int .u32 x,.int .u32 y,.int .u32 o]] w fun e w'=>
  e= .returned (.tuple #[.agg #[.int .i64 0,.int .i64 0,.int .u32 0,.int .u32 0,.int .u32 0],.bool false])/\Only Nil w w':=by
 have h2:∀o1 o2,Row ((w.alloc o1).alloc o2) b 92 #[.slice (some ⟨g,0,none⟩) n cap]:=fun o1 o2=>(h.alloc o1).alloc o2;have H:=zh h2;have hlt:=h.lt;have hglt:=hg.lt
 have hin:(i:Int)<n:=by omega
 have h0:¬(i:Int)<0:=by omega
 have hc:=h.cell_ (i:=0) rfl;have hcv:=hg.cell_ hv;have HG:=zh hg;have HV:=zh hv;clear h h2 hv hg;go_enter func277, ntmps277;go_wp2
 go_quiet ((go_at_call 309;exact Calls.quiet_of_same (qii b _ n cap _ (H.out _ _))))
 go_wp2
 go_region
 go_wp2_with fail;refine(qfo k i x y v _).mono ?_;rintro e w1 ⟨rfl,ho⟩;rw[hk];generalize hl:yr k x y v=lv;have F0:Row w1 w.heap.size 33 #[.int .i64 k,.int .i64 i,.int .u32 x,.int .u32 y,.int .u32 v]:=((((Row.new w _ _).alloc _).drewN _).set 4 _).only ho id
 have F1:Row w1 (w.heap.size+1) 33 #[.int .i64 0,.int .i64 0,.int .u32 0,.int .u32 0,.int .u32 0]:=by
  have:=((Row.new (w.alloc (Obj.cells #[.int .i64 k,.int .i64 i,.int .u32 x,.int .u32 y,.int .u32 o] 33)) 33 #[.int .i64 0,.int .i64 0,.int .u32 0,.int .u32 0,.int .u32 0]).drewN (nq+1));rw[show(w.alloc (Obj.cells #[.int .i64 k,.int .i64 i,.int .u32 x,.int .u32 y,.int .u32 o] 33)).heap.size=w.heap.size+1 by simp]at this;exact(this.far (by simp) _).only ho id
 have FB:=((((H.out _ _).drewN _).far (p:=⟨w.heap.size,4,none⟩) (by show b≠w.heap.size;omega) _).only ho id);have FG:=(((((HG.out.alloc _).alloc _).drewN _).far (p:=⟨w.heap.size,4,none⟩) (by show g≠w.heap.size;omega) _).only ho id);have OW:Only Nil w w1:=Only.trans (by(repeat' (first|(with_reducible exact Only.refl _ _)|(with_reducible assumption)|(with_reducible refine Only.setCell ?_ ?_ _)|(with_reducible refine Only.drewN ?_ _)|(with_reducible refine Only.drew ?_)|(with_reducible refine Only.alloc ?_ _)|(left;simp;done)|(left;simp;omega)|(right;rfl)))) ho;clear ho hcv hc;have hs1:w.heap.size+1<w1.heap.size:=F1.lt;have c0:w1.cell? ⟨w.heap.size,0,none⟩=some (.int .i64 k):=F0.cell_ (i:=0) rfl;have c1:w1.cell? ⟨w.heap.size,1,none⟩=some (.int .i64 i):=F0.cell_ (i:=1) rfl;have c2:w1.cell? ⟨w.heap.size,2,none⟩=some (.int .u32 x):=F0.cell_ (i:=2) rfl;have c3:w1.cell? ⟨w.heap.size,3,none⟩=some (.int .u32 y):=F0.cell_ (i:=3) rfl;have c4:w1.cell? ⟨w.heap.size,4,none⟩=some (.int .u32 v):=F0.cell_ (i:=4) rfl;have d0:w1.cell? ⟨w.heap.size+1,0,none⟩=some (.int .i64 0):=F1.cell_ (i:=0) rfl;have d1:w1.cell? ⟨w.heap.size+1,1,none⟩=some (.int .i64 0):=F1.cell_ (i:=1) rfl;have d2:w1.cell? ⟨w.heap.size+1,2,none⟩=some (.int .u32 0):=F1.cell_ (i:=2) rfl;have d3:w1.cell? ⟨w.heap.size+1,3,none⟩=some (.int .u32 0):=F1.cell_ (i:=3) rfl;have d4:w1.cell? ⟨w.heap.size+1,4,none⟩=some (.int .u32 0):=F1.cell_ (i:=4) rfl;have e0:w1.frozen? ⟨w.heap.size+1,0,none⟩=false:=F1.frozen 0;have e1:w1.frozen? ⟨w.heap.size+1,1,none⟩=false:=F1.frozen 1;have e2:w1.frozen? ⟨w.heap.size+1,2,none⟩=false:=F1.frozen 2;have e3:w1.frozen? ⟨w.heap.size+1,3,none⟩=false:=F1.frozen 3;have e4:w1.frozen? ⟨w.heap.size+1,4,none⟩=false:=F1.frozen 4;have b0:w1.cell? ⟨b,0,none⟩=some (.slice (some ⟨g,0,none⟩) n cap):=FB.cell_ (i:=0) rfl;have g0:=FG.cell_ HV.out;have g1:=FG.frozen i;have HB:=zh FB;have HG1:=zh FG;have H0:=zh F0;have H1:=zh F1;have HO:=zh OW;have HL:=zh hl;clear FB FG F0 F1 OW hl;go_wp2;refine zc (P:= prog) results277 (t:= 33) (g:=w.heap.size+1) (cs:= #[.int .i64 0,.int .i64 0,.int .u32 0,.int .u32 0,.int .u32 0]) rfl ?_ underlying33 rfl kr rfl ⟨rfl,?_⟩
 . exact((((((H1.out.set 0 (.int .i64 0)).set 1 (.int .i64 0)).set 2 (.int .u32 0)).set 3 (.int .u32 0)).set 4 (.int .u32 0)))
 . have O1:Only Nil w w1:=HO.out
   (repeat' (first|(with_reducible exact Only.refl _ _)|(with_reducible assumption)|(with_reducible refine Only.setCell ?_ ?_ _)|(with_reducible refine Only.drewN ?_ _)|(with_reducible refine Only.drew ?_)|(with_reducible refine Only.alloc ?_ _)|(left;simp;done)|(left;simp;omega)|(right;rfl)))
theorem zbq:(prog.info? 22).map (fun i=>(i.zero,i.size,i.bytes))=some (some (.int .u32 0),1,4):=by kernel_rfl
theorem qwi{w:World}{B:Nat}{k:IntKind}{a:Addr}{xs:List Int}(h:Ints w B k (some a) xs):∀j u,(xs.map (Value.int k))[j]? =some u->w.cell? (a.add j)=some u:=by
 intro j u hu;rw[List.getElem?_map]at hu
 have hj:j<xs.length:=by
  rcases Nat.lt_or_ge j xs.length with hj|hj
  . exact hj
  . rw[List.getElem?_eq_none hj]at hu;cases hu
 obtain⟨b,o,ha,_,hc⟩:=h om;injection ha with ha;subst ha;rw[qe0,hc j hj];rw[List.getElem?_eq_getElem hj]at hu;simp only[Option.map_some,Option.some.injEq]at hu;rw[←hu];simp[List.getD,List.getElem?_eq_getElem hj]
theorem zbi{k:IntKind}(xs:List Int):∀u∈xs.map (Value.int k),u.oneCell'=true:=by
 intro u hu;simp only[List.mem_map]at hu;obtain⟨z,_,rfl⟩:=hu;rfl
theorem qpa(w:World):Calls prog 44 #[.slice none 0 0] w fun e w'=>e= .returned (.slice none 0 0)/\w'=w:=by
 have hq:=fun(w:World) (a:Option Addr) (n c:Nat)=>Lib.run_eql_slice_nil (P:= prog) w 46 22 a n c 0 0 underlying46;go_enter func44, ntmps44;go_wp2;go_ret;exact⟨rfl,rfl⟩
theorem qoc(a:Addr)(n cap:Nat)(xs:List Int)(w:World)(hn:xs.length=n)(hm:n<=1048576)(h:Ints w w.heap.size .u32 (some a) xs):
 Calls prog 44 #[.slice (some a) n cap] w fun e w'=>∃v,e= .returned v/\w'.ownsRow w.heap.size 22 1 v n (xs.map (.int .u32))/\Only Nil w w':=by
 have hq:=fun(w:World) (a:Option Addr) (n c:Nat)=>Lib.run_eql_slice_nil (P:= prog) w 46 22 a n c 0 0 underlying46;obtain⟨i0,hi,hz0,hz1,hz2⟩:=info_parts zbq;go_enter func44, ntmps44;go_wp2_with (at_builtin;refine wpList_append_own _ rfl (.tmp 5) (.tmp 6) 46 rfl w.heap.size 22 i0 (.int .u32 0) 1 4 underlying46 hi hz0 hz1 hz2 rfl dc _ 0 [] rfl (World.ownsRow_made w #[] 0 (Nat.le_refl _) dc rfl) a n cap (xs.map (.int .u32)) rfl ?c0 ?c1 ?c2 ?c3 ?c4 ?c5 ?_)
 case c0=>simp[hn]
 case c1=>exact qwi (h.alloc (Nat.le_refl _) (.cells #[] 22))
 case c2=>exact zbi xs
 case c3=>unfold maxLen;omega
 case c4=>omega
 case c5=>simp
 intro v' w1 hown hgrow _;have HO:=zh hown;have HG:=zh hgrow;clear hown hgrow;go_wp2;go_ret;exact⟨_,rfl,HO.out,((Only.refl _ _).alloc _).grown HG.out (fun k hk=>by simp only[Value.ownBlock,Option.some.injEq]at hk;left;omega)⟩
def Held(w:World)(A:Option Addr)(n cap:Nat)(xs:List Int):Prop:=xs.length=n/\(A=none->n=0/\cap=0)/\Ints w w.heap.size .u32 A xs
def At(A:Option Addr):Nat->Prop:=fun i=>∃a,A=some a/\a.block=i
theorem qgh{w:World}{base:Nat}{e:TypeId}{size:Nat}{v:Value}{n:Nat}{vs:List Value}(h:w.ownsRow base e size v n vs):∃A c,v= .slice A n c/\(A=none->n=0/\c=0)/\∀i,At A i->base<=i:=by
 rcases h.2 with⟨hv,h0⟩|⟨g,cap,cur,hv,hb,_⟩
 . subst h0;exact⟨none,0,hv,fun _=>⟨rfl,rfl⟩,fun i ⟨a,ha,_⟩=>by cases ha⟩
 . exact⟨some ⟨g,0,none⟩,cap,hv,(by intro h;cases h),fun i ⟨a,ha,hi⟩=>by injection ha with ha;subst ha;subst hi;exact hb⟩
theorem jg{w:World}{base base':Nat}{e:TypeId}{size:Nat}{v:Value}{n:Nat}{vs:List Value}(h:w.ownsRow base e size v n vs)(hb:base'<=base):w.ownsRow base' e size v n vs:=by
 refine⟨h.1,?_⟩;rcases h.2 with hn|⟨g,cap,cur,hv,hb2,rest⟩
 . exact .inl hn
 . exact .inr ⟨g,cap,cur,hv,om,rest⟩
structure Own(w:World)(base:Nat)(A:Option Addr)(c:Nat)(xs:List Int):Prop where
 own:w.ownsRow base 22 1 (.slice A xs.length c) xs.length (xs.map (.int .u32))
 nil:A=none->xs.length=0/\c=0
 base:∀i,At A i->base<=i
theorem Own.of{w:World}{base:Nat}{v:Value}{xs:List Int}(h:w.ownsRow base 22 1 v xs.length (xs.map (.int .u32))):∃A c,v= .slice A xs.length c/\Own w base A c xs:=by
 obtain⟨A,c,rfl,h1,h2⟩:=qgh h;exact⟨A,c,rfl,h,h1,h2⟩
theorem Own.only{w w':World}{base:Nat}{A:Option Addr}{c:Nat}{xs:List Int}{S:Nat->Prop}(h:Own w base A c xs)(ho:Only S w w')(hS:∀i,At A i->¬S i):Own w' base A c xs:=
 ⟨qx h.own ho (fun i hi=>hS i (by
   cases A with
   |none=>simp[Value.ownBlock]at hi
   |some a=>simp only[Value.ownBlock,Option.some.injEq]at hi;exact⟨a,rfl,hi⟩)),h.nil,h.base⟩
theorem Own.held{w:World}{base:Nat}{A:Option Addr}{c:Nat}{xs:List Int}(h:Own w base A c xs):Held w A xs.length c xs:=⟨rfl,h.nil,Ints.of_own h.own⟩
theorem Own.lt{w:World}{base:Nat}{A:Option Addr}{c:Nat}{xs:List Int}(h:Own w base A c xs):∀i,At A i->i<w.heap.size:=fun i ⟨a,ha,hi⟩=>(h.own.lt i (by rw[ha];simp[Value.ownBlock,hi])).2
theorem qge(A:Option Addr)(n cap:Nat)(xs:List Int)(w:World)(hm:n<=1048576)(h:Held w A n cap xs):
 Calls prog 44 #[.slice A n cap] w fun e w'=>∃A' c',e= .returned (.slice A' xs.length c')/\Own w' w.heap.size A' c' xs/\Only Nil w w':=by
 obtain⟨h1,h2,h3⟩:=h
 cases A with
 |none=>
  obtain⟨rfl,rfl⟩:=h2 rfl;obtain rfl:xs=[]:=List.length_eq_zero_iff.1 h1;refine(qpa w).mono fun e w' ⟨he,hw⟩=> ?_;subst hw;obtain⟨A',c',hv,hO⟩:=Own.of (xs:=[]) (World.ownsRow_nil w' w'.heap.size 22 1);exact⟨A',c',he.trans (by rw[hv]),hO,Only.refl _ _⟩
 |some a=>
  subst h1;refine(qoc a _ cap xs w rfl hm h3).mono fun e w' ⟨v,he,ho,hO⟩=> ?_;obtain⟨A',c',rfl,hw⟩:=Own.of ho;exact⟨A',c',he,hw,hO⟩
structure Mem(w:World)(b:Nat)(A:Option Addr)(c:Nat)(xs:List Int):Prop where
 hdr:Row w b 92 #[.slice A xs.length c]
 own:Own w 0 A c xs
 len:xs.length<=1024
theorem Mem.only{w w':World}{b:Nat}{A:Option Addr}{c:Nat}{xs:List Int}{S:Nat->Prop}(h:Mem w b A c xs)(ho:Only S w w')(hb:¬S b)(hS:∀i,At A i->¬S i):Mem w' b A c xs:=
 ⟨h.hdr.only ho hb,h.own.only ho hS,h.len⟩
def qf(xs:List Int)(c:Int):Bool:=decide (0<=c/\c<xs.length)
def qa(xs:List Int)(c:Int):Int:=if qf xs c then xs.getD c.toNat 0 else 0
def zm(xs:List Int)(k c:Int):Bool:=qf xs c && yi k
def jf(k c x y o:Int):Value:= .agg #[.int .i64 k,.int .i64 c,.int .u32 x,.int .u32 y,.int .u32 o]
def qr(xs:List Int)(k c x y:Int):Value:=if zm xs k c then jf k c x y (qa xs c)else jf 0 0 0 0 0
def yk(xs:List Int)(k c x y:Int):List Int:=if zm xs k c then xs.set c.toNat (yr k x y (qa xs c))else xs
theorem qdz(xs:List Int)(k c x y:Int):(yk xs k c x y).length=xs.length:=by
 unfold yk;split<;>simp
theorem qo4{w':World}{base g n cap i:Nat}{e:TypeId}{cur:Array Value}{xs:List Int}{u:Int}(h:Row w' g e (cur.setIfInBounds i (.int .u32 u)))(hb:base<=g)(hn:n<=cap)(hcap:cap<=maxLen)(hs:cur.size=cap)(hx:xs.length=n)
 (ht:cur.toList.take n=xs.map (.int .u32)):w'.ownsRow base e 1 (.slice (some ⟨g,0,none⟩) n cap) n ((xs.set i u).map (.int .u32)):=by
 refine⟨by simp[hx],.inr ⟨g,cap,_,rfl,hb,h,hn,hcap,by simp[hs],?_⟩⟩;rw[Nat.mul_one,List.map_set,←ht,Array.toList_setIfInBounds,List.take_set]
theorem qzz(b:Nat)(A:Option Addr)(cp:Nat)(xs:List Int)(k c x y o:Int)(w:World)(h:Mem w b A cp xs):
 Calls prog 277 #[.pointer (some ⟨b,0,none⟩),.agg #[.int .i64 k,.int .i64 c,.int .u32 x,.int .u32 y,.int .u32 o]] w fun e w'=>
  e= .returned (.tuple #[qr xs k c x y,.bool (zm xs k c)])/\Only (At A) w w'/\Mem w' b A cp (yk xs k c x y):=by
 by_cases hc:qf xs c=true
 . have hc':=hc;simp only[qf,decide_eq_true_eq]at hc';obtain⟨i,rfl⟩:=Int.eq_ofNat_of_zero_le hc'.1
   have hi:i<xs.length:=by omega
   obtain⟨hdr,own,len⟩:=h;have hown:=own.own;rcases hown.2 with⟨_,h0⟩|⟨g,cap,cur,hv,hg0,hg,hn,hcap,hsz,ht⟩
   . omega
   . injection hv with h1 h2 h3;subst h1 h3;have hr:Row w g 22 cur:=hg
     have hcv:cur[i]? =some (.int .u32 (qa xs i)):=by
      have e1:(cur.toList.take (xs.length*1))[i]? =(xs.map (Value.int .u32))[i]? :=by rw[ht]
      rw[List.getElem?_take,if_pos om,List.getElem?_map,List.getElem?_eq_getElem hi]at e1;simp only[Option.map_some,Array.getElem?_toList]at e1;rw[e1];simp[qa,hc,List.getD,List.getElem?_eq_getElem hi]
     have hAt:∀j,At (some (⟨g,0,none⟩:Addr)) j↔j=g:=fun j=>⟨fun⟨a,ha,hj⟩=>by injection ha with ha;subst ha;exact hj.symm,fun hj=>⟨_,rfl,hj.symm⟩⟩
     have hbg:b≠g:=by
      rintro rfl;have:=(hdr.same hr).1;exact absurd this dc
     cases hk:yi k with
     |true=>
      refine(zc5 b g xs.length cp i cur k x y o (qa xs i) w hdr hr hi hcv hk).mono fun e w' ⟨he,hO,hR⟩=> ?_
      have hok:zm xs k i=true:=by simp[zm,hc,hk]
      refine⟨by rw[he];simp[qr,hok,jf],hO.mono (fun j _ hj=>(hAt j).2 hj),?_⟩
      have e2:yk xs k i x y=xs.set i (yr k x y (qa xs i)):=by simp[yk,hok]
      rw[e2];refine⟨?_,⟨?_,(by rw[List.length_set];exact own.nil),own.base⟩,by simpa using len⟩
      . rw[List.length_set];exact hdr.only hO hbg
      . rw[List.length_set];exact qo4 hR (Nat.zero_le _) hn hcap om rfl (by rw[Nat.mul_one]at ht;exact ht)
     |false=>
      refine(qz1 b g xs.length cp i cur k x y o (qa xs i) w hdr hr hi hcv hk).mono fun e w' ⟨he,hO⟩=> ?_
      have hok:zm xs k i=false:=by simp[zm,hk]
      refine⟨by rw[he];simp[qr,hok,jf],hO.mono (fun _ _ hj=>hj.elim),?_⟩;rw[show yk xs k i x y=xs by simp[yk,hok]];exact Mem.only ⟨hdr,own,len⟩ hO id (fun _ _=>id)
 . have hc':=hc;simp only[qf,decide_eq_true_eq]at hc'
   have hok:zm xs k c=false:=by simp[zm,hc]
   refine(zal b A xs.length cp k c x y o w h.hdr om).mono fun e w' ⟨he,hO⟩=> ?_;refine⟨by rw[he];simp[qr,hok,jf],hO.mono (fun _ _ hj=>hj.elim),?_⟩;rw[show yk xs k c x y=xs by simp[yk,hok]];exact h.only hO id (fun _ _=>id)
theorem ql(xs:List Int)(k c x y:Int):∃k' c' x' y',qr xs k c x y= .agg #[.int .i64 k',.int .i64 c',.int .u32 x',.int .u32 y',.int .u32 (if zm xs k c then qa xs c else 0)]:=by
 unfold qr jf;split
 . exact⟨k,c,x,y,rfl⟩
 . exact⟨0,0,0,0,rfl⟩
theorem ve(xs:List Int)(k c:Int)(hk:yi k=true):(if zm xs k c then qa xs c else 0)=qa xs c:=by
 unfold zm qa
 cases h:qf xs c<;>simp[hk]
theorem qk2{xs:List Int}{c:Int}:(if qf xs c then xs.set c.toNat (qa xs c)else xs)=xs:=by
 split
 . rename_i ht;have ht':=ht;simp only[qf,decide_eq_true_eq]at ht'
   have hi:c.toNat<xs.length:=by omega
   simp[qa,ht,List.getD,List.getElem?_eq_getElem hi]
 . rfl
theorem zf(xs:List Int)(c x y:Int):yk xs 1 c x y=xs:=by
 have e:=qk2 (xs:=xs) (c:=c);unfold yk zm
 simpa [yi,yr] using e
theorem Own.row{w:World}{base:Nat}{A:Option Addr}{c:Nat}{xs:List Int}(h:Own w base A c xs){i:Nat}(hi:i<xs.length):
 ∃g cur,A=some ⟨g,0,none⟩/\base<=g/\Row w g 22 cur/\cur[i]? =some (.int .u32 (xs.getD i 0))/\
  ∀(w':World) (u:Int),Row w' g 22 (cur.setIfInBounds i (.int .u32 u))->Own w' base A c (xs.set i u):=by
 obtain⟨own,nil,bs⟩:=h;rcases own.2 with⟨_,h0⟩|⟨g,cap,cur,hv,hg0,hg,hn,hcap,hsz,ht⟩
 . omega
 . injection hv with h1 h2 h3;subst h1 h3;refine⟨g,cur,rfl,hg0,hg,?_,fun w' u hr=>⟨?_,(by rw[List.length_set];exact nil),bs⟩⟩
   . have e1:(cur.toList.take (xs.length*1))[i]? =(xs.map (Value.int .u32))[i]? :=by rw[ht]
     rw[List.getElem?_take,if_pos om,List.getElem?_map,List.getElem?_eq_getElem hi]at e1;simp only[Option.map_some,Array.getElem?_toList]at e1;rw[e1];simp[List.getD,List.getElem?_eq_getElem hi]
   . rw[List.length_set];exact qo4 hr hg0 hn hcap om rfl (by rw[Nat.mul_one]at ht;exact ht)
def st(xs:List Int)(c u:Int):List Int:=if qf xs c then xs.set c.toNat u else xs
theorem qtf(xs:List Int)(c u d:Int):qf (st xs c u) d=qf xs d:=by unfold st qf;split<;>simp
theorem qdv(xs:List Int)(c u:Int):(st xs c u).length=xs.length:=by unfold st;split<;>simp
theorem qvf(xs:List Int)(c:Int):st xs c (qa xs c)=xs:=qk2
theorem xd(xs:List Int)(k c x y:Int)(hk:yi k=true):yk xs k c x y=st xs c (yr k x y (qa xs c)):=by
 unfold yk st zm;simp[hk]
theorem qq{xs:List Int}(h:∀n∈xs,(Lit.int .u32 n).wf=true)(c:Int):0<=qa xs c/\qa xs c<4294967296:=by
 unfold qa;split
 . rename_i ht;simp only[qf,decide_eq_true_eq]at ht
   have hi:c.toNat<xs.length:=by omega
   simp only[List.getD,List.getElem?_eq_getElem hi,Option.getD_some];exact qsl (h _ (List.getElem_mem hi))
 . omega
def okN(n:Int):Bool:=decide (1<=n) && decide (n<=64)
theorem qcb{n:Int}(h:1<=n/\n<=64):okN n=true:=by simp[okN,h.1,h.2]
theorem qg4{n:Int}(h:¬(1<=n/\n<=64)):okN n=false:=by
 simp only[okN,Bool.and_eq_false_iff,decide_eq_false_iff_not];omega
def yc(n row i:Int):Int:=if 1<=n/\n<=64/\0<=i/\i<n then 8+row*n+i else -1
def xy(n:Int):Int:=if 1<=n/\n<=64 then 8+4*n else 0
theorem yl{k:IntKind}{a b:Int}(h:a=b):Ending.returned (.int k a)= .returned (.int k b):=by rw[h]
theorem js(n:Int)(w:World):
 Calls prog 43 #[.int .i64 n] w fun e w'=>e= .returned (.bool (okN n))/\w=w':=by
 by_cases h1:1<=n
 . by_cases h2:n<=64
   . rw[qcb ⟨h1,h2⟩];go_enter func43, ntmps43;go_wp2;go_ret;exact⟨rfl,rfl⟩
   . rw[qg4 (fun h=>h2 h.2)];go_enter func43, ntmps43;go_wp2;go_ret;exact⟨rfl,rfl⟩
 . rw[qg4 (fun h=>h1 h.1)];go_enter func43, ntmps43;go_wp2;go_ret;exact⟨rfl,rfl⟩
theorem qdf(n row i:Int)(w:World)(hr:row=0\/row=1\/row=2\/row=3):
 Calls prog 313 #[.agg #[.int .i64 n],.int .i64 row,.int .i64 i] w fun e w'=>e= .returned (.int .i64 (yc n row i))/\Only Nil w w':=by
 by_cases hn:1<=n/\n<=64
 . by_cases h0:0<=i
   . by_cases h1:i<n
     . have hc:yc n row i=8+row*n+i:=if_pos ⟨hn.1,hn.2,h0,h1⟩;rw[hc];clear hc;have HK:=zh (qcb hn);obtain⟨n1,n2⟩:=hn;rcases hr with rfl|rfl|rfl|rfl
       all_goals
        go_enter func313, ntmps313;go_wp2_with fail;refine(js n _).mono ?_;rw[HK.out];rintro e w1 ⟨rfl,rfl⟩;go_wp2;go_ret;exact⟨yl om,by(repeat' (first|(with_reducible exact Only.refl _ _)|(with_reducible assumption)|(with_reducible refine Only.setCell ?_ ?_ _)|(with_reducible refine Only.drewN ?_ _)|(with_reducible refine Only.drew ?_)|(with_reducible refine Only.alloc ?_ _)|(left;simp;done)|(left;simp;omega)|(right;rfl)))⟩
     . have hc:yc n row i= -1:=if_neg (fun h=>h1 h.2.2.2);rw[hc];clear hc hr;have HK:=zh (qcb hn);clear hn;go_enter func313, ntmps313;go_wp2_with fail;refine(js n _).mono ?_;rw[HK.out];rintro e w1 ⟨rfl,rfl⟩;go_wp2;go_ret;exact⟨rfl,by(repeat' (first|(with_reducible exact Only.refl _ _)|(with_reducible assumption)|(with_reducible refine Only.setCell ?_ ?_ _)|(with_reducible refine Only.drewN ?_ _)|(with_reducible refine Only.drew ?_)|(with_reducible refine Only.alloc ?_ _)|(left;simp;done)|(left;simp;omega)|(right;rfl)))⟩
   . have hc:yc n row i= -1:=if_neg (fun h=>h0 h.2.2.1);rw[hc];clear hc hr;have HK:=zh (qcb hn);clear hn;go_enter func313, ntmps313;go_wp2_with fail;refine(js n _).mono ?_;rw[HK.out];rintro e w1 ⟨rfl,rfl⟩;go_wp2;go_ret;exact⟨rfl,by(repeat' (first|(with_reducible exact Only.refl _ _)|(with_reducible assumption)|(with_reducible refine Only.setCell ?_ ?_ _)|(with_reducible refine Only.drewN ?_ _)|(with_reducible refine Only.drew ?_)|(with_reducible refine Only.alloc ?_ _)|(left;simp;done)|(left;simp;omega)|(right;rfl)))⟩
 . have hc:yc n row i= -1:=if_neg (fun h=>hn ⟨h.1,h.2.1⟩);rw[hc];clear hc hr;have HK:=zh (qg4 hn);clear hn;go_enter func313, ntmps313;go_wp2_with fail;refine(js n _).mono ?_;rw[HK.out];rintro e w1 ⟨rfl,rfl⟩;go_wp2;go_ret;exact⟨rfl,by(repeat' (first|(with_reducible exact Only.refl _ _)|(with_reducible assumption)|(with_reducible refine Only.setCell ?_ ?_ _)|(with_reducible refine Only.drewN ?_ _)|(with_reducible refine Only.drew ?_)|(with_reducible refine Only.alloc ?_ _)|(left;simp;done)|(left;simp;omega)|(right;rfl)))⟩
def pc(n i:Int):Int:=yc n 3 i
def vw(xs:List Int)(n i:Int):Bool:=qa xs (pc n i) !=0
theorem five{w:World}{g:Nat}{t:TypeId}{a0 a1 a2 a3 a4:Value}(h:Row w g t #[a0,a1,a2,a3,a4])(v0 v1 v2 v3 v4:Value):
 Row (((((w.setCell ⟨g,0,none⟩ v0).setCell ⟨g,1,none⟩ v1).setCell ⟨g,2,none⟩ v2).setCell ⟨g,3,none⟩ v3).setCell ⟨g,4,none⟩ v4) g t #[v0,v1,v2,v3,v4]:=by
 simpa using ((((h.set 0 v0).set 1 v1).set 2 v2).set 3 v3).set 4 v4
theorem qe{S:Nat->Prop}{w w':World}(h:Only S w w'){g:Nat}(hg:w.heap.size<=g\/S g)(v0 v1 v2 v3 v4:Value):
 Only S w (((((w'.setCell ⟨g,0,none⟩ v0).setCell ⟨g,1,none⟩ v1).setCell ⟨g,2,none⟩ v2).setCell ⟨g,3,none⟩ v3).setCell ⟨g,4,none⟩ v4):=
 ((((h.setCell (p:=⟨g,0,none⟩) hg v0).setCell (p:=⟨g,1,none⟩) hg v1).setCell (p:=⟨g,2,none⟩) hg v2).setCell (p:=⟨g,3,none⟩) hg v3).setCell (p:=⟨g,4,none⟩) hg v4
def Memo(w:World)(p A:Option Addr)(cp:Nat)(xs:List Int):Prop:=(p=none/\xs=[]/\A=none)\/∃b,p=some ⟨b,0,none⟩/\Mem w b A cp xs
theorem Memo.of{w:World}{b:Nat}{A:Option Addr}{cp:Nat}{xs:List Int}(h:Mem w b A cp xs):Memo w (some ⟨b,0,none⟩) A cp xs:= .inr ⟨b,rfl,h⟩
theorem Memo.far{w w':World}{p A:Option Addr}{cp:Nat}{xs:List Int}{S:Nat->Prop}(h:Memo w p A cp xs)(ho:Only S w w')(hS:∀j,At p j\/At A j->¬S j):Memo w' p A cp xs:=by
 rcases h with h|⟨b,rfl,h⟩
 . exact .inl h
 . exact .inr ⟨b,rfl,h.only ho (hS b (.inl ⟨_,rfl,rfl⟩)) (fun j hj=>hS j (.inr hj))⟩
theorem Memo.keep{w w':World}{p A:Option Addr}{cp:Nat}{xs:List Int}(h:Memo w p A cp xs)(ho:Only Nil w w'):Memo w' p A cp xs:=h.far ho (fun _ _=>id)
theorem Memo.lt{w:World}{p A:Option Addr}{cp:Nat}{xs:List Int}(h:Memo w p A cp xs):∀j,At p j\/At A j->j<w.heap.size:=by
 rcases h with⟨rfl,_,rfl⟩|⟨b,rfl,h⟩
 . rintro j (⟨a,h,_⟩|⟨a,h,_⟩)<;>cases h
 . rintro j (⟨a,h2,rfl⟩|h2)
   . cases h2;exact h.hdr.lt
   . exact h.own.lt j h2
theorem qay(p A:Option Addr)(cp:Nat)(xs:List Int)(k c x y o:Int)(w:World)(h:Memo w p A cp xs):
 Calls prog 277 #[.pointer p,.agg #[.int .i64 k,.int .i64 c,.int .u32 x,.int .u32 y,.int .u32 o]] w fun e w'=>
  e= .returned (.tuple #[qr xs k c x y,.bool (zm xs k c)])/\Only (At A) w w'/\Memo w' p A cp (yk xs k c x y):=by
 rcases h with⟨rfl,rfl,rfl⟩|⟨b,rfl,h⟩
 . have ht:qf [] c=false:=by
    have:¬(0<=c/\c<((0:Nat):Int)):=by omega
    simp only[qf,List.length_nil,decide_eq_false_iff_not];exact this
   have hok:zm [] k c=false:=by simp[zm,ht]
   refine(zb8 k c x y o w).mono fun e w' ⟨he,hO⟩=>⟨by rw[he];simp[qr,hok,jf],hO.mono (fun _ _ h=>h.elim),.inl ⟨rfl,by simp[yk,hok],rfl⟩⟩
 . exact(qzz b A cp xs k c x y o w h).mono fun e w' ⟨he,hO,hM⟩=>⟨he,hO,.inr ⟨b,rfl,hM⟩⟩
def jd(xs:List Int)(n i:Int):Value:=if vw xs n i then jf 4 (pc n i) 0 0 (qa xs (pc n i))else jf 0 0 0 0 0
theorem qcx{xs:List Int}{n i:Int}(h:vw xs n i=true):qf xs (pc n i)=true:=by
 unfold vw qa at h
 cases ht:qf xs (pc n i)
 . rw[ht]at h;simp at h
 . rfl
theorem qis{xs:List Int}{n i:Int}(h:vw xs n i=false):st xs (pc n i) 0=xs:=by
 have hw:qa xs (pc n i)=0:=by simpa [vw] using h
 have:=qvf xs (pc n i)
 rwa [hw]at this
theorem Memo.mem{w:World}{b:Nat}{A:Option Addr}{cp:Nat}{xs:List Int}(h:Memo w (some ⟨b,0,none⟩) A cp xs):Mem w b A cp xs:=by
 rcases h with⟨h,_⟩|⟨b',hb,h⟩
 . cases h
 . cases hb;exact h
theorem ql3{xs:List Int}{c d:Int}(u:Int)(h:c≠d):qa (st xs c u) d=qa xs d:=by
 unfold qa;rw[qtf]
 cases hd:qf xs d
 . rfl
 . unfold st
   cases hc:qf xs c
   . rfl
   . simp only[qf,decide_eq_true_eq]at hd hc;simp only[if_true,List.getD];rw[List.getElem?_set_ne om]
theorem qdl{w:World}{g q:Nat}{t:TypeId}{cs:Array Value}(h:Row w q t cs)(hq:q≠g)(v0 v1 v2 v3 v4:Value):
 Row (((((w.setCell ⟨g,0,none⟩ v0).setCell ⟨g,1,none⟩ v1).setCell ⟨g,2,none⟩ v2).setCell ⟨g,3,none⟩ v3).setCell ⟨g,4,none⟩ v4) q t cs:=
 h.only (qe (Only.refl (· =g) w) (.inr rfl) v0 v1 v2 v3 v4) hq
theorem qb4(xs:List Int)(n i:Int):∃k c x y o,jd xs n i= .agg #[.int .i64 k,.int .i64 c,.int .u32 x,.int .u32 y,.int .u32 o]:=by
 unfold jd jf;split
 . exact⟨_,_,_,_,_,rfl⟩
 . exact⟨_,_,_,_,_,rfl⟩
def wc(n i:Int):Int:=yc n 2 i
def Words(xs:List Int):Prop:=∀n∈xs,(Lit.int .u32 n).wf=true
structure qc6 where
 next:Int
 acc:Value
 seen:Bool
 done:Bool
 xs:List Int
def je(xs:List Int)(n mode i s c:Int)(q:Int->Bool):qc6:=
 if mode≠2 then⟨0,qr xs 1 c 0 0,q (qa xs c),q (qa xs c),xs⟩
 else if s=1 then⟨2,qr xs 2 (wc n i) ((c+1)%4294967296) 0,false,false,st xs (wc n i) ((c+1)%4294967296)⟩
 else if s=2 then⟨if q (qa xs c)then 4 else 3,qr xs 1 c 0 0,q (qa xs c),false,xs⟩
 else if s=3 then⟨if vw xs n i then 2 else 3,jd xs n i,false,false,st xs (pc n i) 0⟩
 else if s=4 then⟨0,qr xs 2 (wc n i) 0 0,false,true,st xs (wc n i) 0⟩
 else⟨if q (qa xs c)then 0 else 1,qr xs 1 c 0 0,q (qa xs c),q (qa xs c),xs⟩
def jq(xs:List Int)(n mode i s:Int):Bool:=(mode==2) && (s==3) && !vw xs n i
section
variable{xs:List Int}{n mode i s c:Int}{q:Int->Bool}
theorem qfl(h:mode≠2):je xs n mode i s c q=⟨0,qr xs 1 c 0 0,q (qa xs c),q (qa xs c),xs⟩:=if_pos h
theorem qvo:je xs n 2 i 2 c q=⟨if q (qa xs c)then 4 else 3,qr xs 1 c 0 0,q (qa xs c),false,xs⟩:=rfl
theorem qwu:je xs n 2 i 3 c q=⟨if vw xs n i then 2 else 3,jd xs n i,false,false,st xs (pc n i) 0⟩:=rfl
theorem qnu(h1:s≠1)(h2:s≠2)(h3:s≠3)(h4:s≠4):je xs n 2 i s c q=⟨if q (qa xs c)then 0 else 1,qr xs 1 c 0 0,q (qa xs c),q (qa xs c),xs⟩:=by
 unfold je;rw[if_neg (by simp),if_neg h1,if_neg h2,if_neg h3,if_neg h4]
end
theorem zj{P:Program}{fn:Func}{R:Ending->World->Prop}{a:Act}{w:World}{p q u v:Tmp}{ty ty':TypeId}(h:fn.results= #[.cell p ty,.cell q ty',.tmp u,.tmp v]){g g':Nat}{t t':TypeId}{cs cs':Array Value}{d d':TypeDesc}
 (hp:a.tmps.getD p undef= .pointer (some ⟨g,0,none⟩)) (hg:Row w g t cs) (hu:P.underlying ty=some d) (hd:(match d with| .struct _| .array _ _=>true|_=>false)=true) (hi:(P.info? ty).map (·.size)=some cs.size)
 (hq:a.tmps.getD q undef= .pointer (some ⟨g',0,none⟩)) (hg':Row w g' t' cs') (hu':P.underlying ty'=some d') (hd':(match d' with| .struct _| .array _ _=>true|_=>false)=true) (hi':(P.info? ty').map (·.size)=some cs'.size)
 (hf:a.defers=[]) (hR:R (.returned (.tuple #[.agg cs,.agg cs',a.tmps.getD u undef,a.tmps.getD v undef])) w):bodyPost P fn R .ret a w:=by
 refine⟨hf,_,?_,hR⟩
 have hp':a.tmps[p]?.getD undef= .pointer (some ⟨g,0,none⟩):=by simpa using hp
 have hq':a.tmps[q]?.getD undef= .pointer (some ⟨g',0,none⟩):=by simpa using hq
 simp[results,h,hp',hq',asAddr,run_loadVar_row w g t ty cs (0,0) d hg hu hd hi,run_loadVar_row w g' t' ty' cs' (0,0) d' hg' hu' hd' hi']
structure Pr(w0:World)(L M B C:Nat)(p A:Option Addr)(cp:Nat)(A2:Option Addr)(c2:Nat)(w:World)(xs ys:List Int):Prop where
 only:Only Nil w0 w
 memo:Memo w p A cp xs
 own:Own w B A2 c2 ys
 far:∀j,At p j\/At A j->L<=j/\j<M
 lt:∀j,At A2 j->j<C
 mb:M<=B
 hw:w0.heap.size<=L
 hl:L<=M
section
variable{w0 w w':World}{L M B C cp c2 g:Nat}{p A A2:Option Addr}{xs ys zs:List Int}{S:Nat->Prop}{t:TypeId}{cs:Array Value}
theorem Pr.prog(h:Pr w0 L M B C p A cp A2 c2 w xs ys)(ho:Only (At A) w w')(hm:Memo w' p A cp zs):Pr w0 L M B C p A cp A2 c2 w' zs ys:=
 ⟨h.only.step ho (fun i hi hA=>by have:=(h.far i (.inr hA)).1;have:=h.hw;omega),hm,h.own.only ho (fun j hj hA=>by have:=(h.far j (.inr hA)).2;have:=h.own.base j hj;have:=h.mb;omega),h.far,h.lt,h.mb,h.hw,h.hl⟩
end
theorem qek(xs:List Int)(n mode i s c:Int)(q:Int->Bool):∃ka ca xa ya oa:Int,(je xs n mode i s c q).acc= .agg #[.int .i64 ka,.int .i64 ca,.int .u32 xa,.int .u32 ya,.int .u32 oa]/\
 ((ka=0/\ca=0/\xa=0/\ya=0/\oa=0/\(je xs n mode i s c q).xs=xs)\/
  (ka≠0/\qr xs ka ca xa ya= .agg #[.int .i64 ka,.int .i64 ca,.int .u32 xa,.int .u32 ya,.int .u32 oa]/\zm xs ka ca=true/\yk xs ka ca xa ya=(je xs n mode i s c q).xs/\(ca=wc n i\/ca=pc n i\/(ka=1/\ca=c)))):=by
 have ld:∀r:qc6,r.acc=qr xs 1 c 0 0->r.xs=xs->∃ka ca xa ya oa:Int,r.acc= .agg #[.int .i64 ka,.int .i64 ca,.int .u32 xa,.int .u32 ya,.int .u32 oa]/\
  ((ka=0/\ca=0/\xa=0/\ya=0/\oa=0/\r.xs=xs)\/(ka≠0/\qr xs ka ca xa ya= .agg #[.int .i64 ka,.int .i64 ca,.int .u32 xa,.int .u32 ya,.int .u32 oa]/\zm xs ka ca=true/\yk xs ka ca xa ya=r.xs/\(ca=wc n i\/ca=pc n i\/(ka=1/\ca=c)))):=fun r h1 h2=>by
  cases hk:zm xs 1 c
  . exact⟨0,0,0,0,0,by rw[h1];simp[qr,hk,jf],.inl ⟨rfl,rfl,rfl,rfl,rfl,h2⟩⟩
  . exact⟨1,c,0,0,qa xs c,by rw[h1];simp[qr,hk,jf],.inr ⟨dc,by simp[qr,hk,jf],hk,by rw[zf,h2],.inr (.inr ⟨rfl,rfl⟩)⟩⟩
 have sw:∀(r:qc6) (v:Int),r.acc=qr xs 2 (wc n i) v 0->r.xs=st xs (wc n i) v->∃ka ca xa ya oa:Int,r.acc= .agg #[.int .i64 ka,.int .i64 ca,.int .u32 xa,.int .u32 ya,.int .u32 oa]/\
  ((ka=0/\ca=0/\xa=0/\ya=0/\oa=0/\r.xs=xs)\/(ka≠0/\qr xs ka ca xa ya= .agg #[.int .i64 ka,.int .i64 ca,.int .u32 xa,.int .u32 ya,.int .u32 oa]/\zm xs ka ca=true/\yk xs ka ca xa ya=r.xs/\(ca=wc n i\/ca=pc n i\/(ka=1/\ca=c)))):=fun r v h1 h2=>by
  cases hk:zm xs 2 (wc n i)
  . have ht:qf xs (wc n i)=false:=by simpa [zm,yi] using hk
    exact⟨0,0,0,0,0,by rw[h1];simp[qr,hk,jf],.inl ⟨rfl,rfl,rfl,rfl,rfl,by rw[h2];simp[st,ht]⟩⟩
  . exact⟨2,wc n i,v,0,qa xs (wc n i),by rw[h1];simp[qr,hk,jf],.inr ⟨dc,by simp[qr,hk,jf],hk,by rw[h2,xd xs 2 _ _ 0 rfl];rfl,.inl rfl⟩⟩
 unfold je;split
 . exact ld _ rfl rfl
 split
 . exact sw _ _ rfl rfl
 split
 . exact ld _ rfl rfl
 split
 . cases hp:vw xs n i
   . exact⟨0,0,0,0,0,by simp[jd,hp,jf],.inl ⟨rfl,rfl,rfl,rfl,rfl,qis hp⟩⟩
   . have ht:=qcx hp
     have hok:zm xs 4 (pc n i)=true:=by simp[zm,yi,ht]
     exact⟨4,pc n i,0,0,qa xs (pc n i),by simp[jd,hp,jf],.inr ⟨dc,by simp[qr,hok,jf],hok,by rw[xd xs 4 _ _ 0 rfl];rfl,.inr (.inl rfl)⟩⟩
 split
 . exact sw _ _ rfl rfl
 . exact ld _ rfl rfl
theorem qnj{n:Int}(h0:0<=n)(h1:n<4294967296):(Lit.int .u32 n).wf=true:=by
 have e1:IntKind.u32.min=0:=rfl;have e2:IntKind.u32.max=4294967295:=rfl;simp only[Lit.wf,Bool.and_eq_true,decide_eq_true_eq];omega
theorem Words.st{xs:List Int}(h:Words xs)(c:Int){u:Int}(h0:0<=u)(h1:u<4294967296):Words (Go.Proofs.YtgebffjejifidaaGreat.st xs c u):=by
 unfold Go.Proofs.YtgebffjejifidaaGreat.st;split
 . intro n hn;rcases List.mem_or_eq_of_mem_set hn with hn|rfl
   . exact h n hn
   . exact qnj h0 h1
 . exact h
theorem Words.step{xs:List Int}(h:Words xs)(n mode i s c:Int)(q:Int->Bool):Words (je xs n mode i s c q).xs:=by
 unfold je;split
 . exact h
 split
 . exact h.st _ om om
 split
 . exact h
 split
 . exact h.st _ om om
 split
 . exact h.st _ om om
 . exact h
theorem qku(xs:List Int)(n mode i s c:Int)(q:Int->Bool):(je xs n mode i s c q).xs.length=xs.length:=by
 unfold je;split
 . rfl
 split
 . exact qdv _ _ _
 split
 . rfl
 split
 . exact qdv _ _ _
 split
 . exact qdv _ _ _
 . rfl
structure WkV where
 on:Bool
 c:Int
 i:Int
 hit:Bool
def WkV.v(k:WkV):Value:= .agg #[.bool k.on,.int .i64 k.c,.int .i64 k.i,.bool k.hit]
def wk0:WkV:=⟨false,0,0,false⟩
structure qel where
 next:WkV
 acc:Value
 xs:List Int
def qej(n c i:Int):WkV:=if i+1=n then wk0 else⟨true,c,i+1,false⟩
def qa9(xs:List Int):qel:=⟨wk0,jf 0 0 0 0 0,xs⟩
def xh(xs:List Int)(n c i:Int):qel:=if qf xs (pc n i)then⟨qej n c i,qr xs 2 (pc n i) 1 0,st xs (pc n i) 1⟩else qa9 xs
def xi(xs:List Int)(n c i:Int):qel:=
 if qf xs (wc n i)then
  (if qa xs (wc n i)=(c+1)%4294967296 then⟨⟨true,c,i,true⟩,qr xs 1 (wc n i) 0 0,xs⟩else⟨qej n c i,qr xs 1 (wc n i) 0 0,xs⟩)
 else qa9 xs
def jn(xs:List Int)(n:Int)(on:Bool)(c i:Int)(hit:Bool):qel:=if on then(if hit then xh xs n c i else xi xs n c i)else qa9 xs
theorem ja{P:Program}{fn:Func}{R:Ending->World->Prop}{a:Act}{w:World}{p q:Tmp}{ty ty':TypeId}(h:fn.results= #[.cell p ty,.cell q ty']){g g':Nat}{t t':TypeId}{cs cs':Array Value}{d d':TypeDesc}
 (hp:a.tmps.getD p undef= .pointer (some ⟨g,0,none⟩)) (hg:Row w g t cs) (hu:P.underlying ty=some d) (hd:(match d with| .struct _| .array _ _=>true|_=>false)=true) (hi:(P.info? ty).map (·.size)=some cs.size)
 (hq:a.tmps.getD q undef= .pointer (some ⟨g',0,none⟩)) (hg':Row w g' t' cs') (hu':P.underlying ty'=some d') (hd':(match d' with| .struct _| .array _ _=>true|_=>false)=true) (hi':(P.info? ty').map (·.size)=some cs'.size)
 (hf:a.defers=[]) (hR:R (.returned (.tuple #[.agg cs,.agg cs'])) w):bodyPost P fn R .ret a w:=by
 refine⟨hf,_,?_,hR⟩
 have hp':a.tmps[p]?.getD undef= .pointer (some ⟨g,0,none⟩):=by simpa using hp
 have hq':a.tmps[q]?.getD undef= .pointer (some ⟨g',0,none⟩):=by simpa using hq
 simp[results,h,hp',hq',asAddr,run_loadVar_row w g t ty cs (0,0) d hg hu hd hi,run_loadVar_row w g' t' ty' cs' (0,0) d' hg' hu' hd' hi']
theorem qb3{P:Program}{fn:Func}{R:Ending->World->Prop}{a:Act}{w:World}{p q u:Tmp}{ty ty':TypeId}(h:fn.results= #[.cell p ty,.cell q ty',.tmp u]){g g':Nat}{t t':TypeId}{cs cs':Array Value}{d d':TypeDesc}
 (hp:a.tmps.getD p undef= .pointer (some ⟨g,0,none⟩)) (hg:Row w g t cs) (hu:P.underlying ty=some d) (hd:(match d with| .struct _| .array _ _=>true|_=>false)=true) (hi:(P.info? ty).map (·.size)=some cs.size)
 (hq:a.tmps.getD q undef= .pointer (some ⟨g',0,none⟩)) (hg':Row w g' t' cs') (hu':P.underlying ty'=some d') (hd':(match d' with| .struct _| .array _ _=>true|_=>false)=true) (hi':(P.info? ty').map (·.size)=some cs'.size)
 (hf:a.defers=[]) (hR:R (.returned (.tuple #[.agg cs,.agg cs',a.tmps.getD u undef])) w):bodyPost P fn R .ret a w:=by
 refine⟨hf,_,?_,hR⟩
 have hp':a.tmps[p]?.getD undef= .pointer (some ⟨g,0,none⟩):=by simpa using hp
 have hq':a.tmps[q]?.getD undef= .pointer (some ⟨g',0,none⟩):=by simpa using hq
 simp[results,h,hp',hq',asAddr,run_loadVar_row w g t ty cs (0,0) d hg hu hd hi,run_loadVar_row w g' t' ty' cs' (0,0) d' hg' hu' hd' hi']
theorem four{w:World}{g:Nat}{t:TypeId}{a0 a1 a2 a3:Value}(h:Row w g t #[a0,a1,a2,a3])(v0 v1 v2 v3:Value):
 Row ((((w.setCell ⟨g,0,none⟩ v0).setCell ⟨g,1,none⟩ v1).setCell ⟨g,2,none⟩ v2).setCell ⟨g,3,none⟩ v3) g t #[v0,v1,v2,v3]:=by
 simpa using (((h.set 0 v0).set 1 v1).set 2 v2).set 3 v3
theorem yg{S:Nat->Prop}{w w':World}(h:Only S w w'){g:Nat}(hg:w.heap.size<=g\/S g)(v0 v1 v2 v3:Value):
 Only S w ((((w'.setCell ⟨g,0,none⟩ v0).setCell ⟨g,1,none⟩ v1).setCell ⟨g,2,none⟩ v2).setCell ⟨g,3,none⟩ v3):=
 (((h.setCell (p:=⟨g,0,none⟩) hg v0).setCell (p:=⟨g,1,none⟩) hg v1).setCell (p:=⟨g,2,none⟩) hg v2).setCell (p:=⟨g,3,none⟩) hg v3
def qax(mode c:Int):WkV:=if mode=2 then⟨true,c,0,false⟩else wk0
theorem qkg(c:Int):qax 2 c=⟨true,c,0,false⟩:=rfl
theorem qh0{mode:Int}(h:mode≠2)(c:Int):qax mode c=wk0:=if_neg h
theorem qp4(mode c:Int)(w:World):Calls prog 222 #[.int .i64 mode,.int .i64 c] w fun e w'=>e= .returned (qax mode c).v/\Only Nil w w':=by
 by_cases hm:mode=2
 . subst hm;rw[qkg];go_enter func222, ntmps222;go_wp2;exact qv (P:= prog) results222 (t:= 70) br (Row.new _ _ _) underlying70 rfl kr rfl ⟨rfl,(Only.refl _ _).alloc _⟩
 . rw[qh0 hm];have h2:(mode !=2)=true:=bne_iff_ne.2 hm;clear hm;go_enter func222, ntmps222;go_wp2;exact qv (P:= prog) results222 (t:= 70) br (Row.new _ _ _) underlying70 rfl kr rfl ⟨rfl,(Only.refl _ _).alloc _⟩
structure Nt where
 t:Int
 w:Int
 o:Int
 a:Int
def xq(n:Nt):List Value:=[.int .i64 n.t,.int .i64 n.w,.int .i64 n.o,.int .i64 n.a]
def km:List Nt->List Value
 |[]=>[]
 |n::r=>xq n++km r
theorem kt:∀zs,(km zs).length=zs.length*4
 |[]=>rfl
 |n::r=>by rw[km,List.length_append,kt r,List.length_cons];show 4+_=_;omega
theorem qbz:∀zs ys,km (zs++ys)=km zs++km ys
 |[],ys=>rfl
 |n::r,ys=>by rw[List.cons_append,km,km,qbz r ys,List.append_assoc]
theorem qjb:∀(zs:List Nt) (i:Nat) (n:Nt) (j:Nat),zs[i]? =some n->j<4->(km zs)[i*4+j]? =(xq n)[j]?
 |[],i,n,j,h,_=>by simp at h
 |m::r,0,n,j,h,hj=>by
  simp only[List.getElem?_cons_zero,Option.some.injEq]at h;subst h;rw[km,List.getElem?_append_left (by show _<4;omega),Nat.zero_mul,Nat.zero_add]
 |m::r,i+1,n,j,h,hj=>by
  rw[km,List.getElem?_append_right (by show 4<=_;omega),show(i+1)*4+j-(xq m).length=i*4+j by show(i+1)*4+j-4=_;omega];exact qjb r i n j (by simpa using h) hj
structure At4(w:World)(b q:Nat)(n:Nt):Prop where
 c0:w.cell? ⟨b,q,none⟩=some (.int .i64 n.t)
 c1:w.cell? ⟨b,q+1,none⟩=some (.int .i64 n.w)
 c2:w.cell? ⟨b,q+2,none⟩=some (.int .i64 n.o)
 c3:w.cell? ⟨b,q+3,none⟩=some (.int .i64 n.a)
def Notes(w:World)(A:Option Addr)(zs:List Nt):Prop:=0<zs.length->∃b q,A=some ⟨b,q,none⟩/\b<w.heap.size/\∀(i:Nat) (n:Nt),zs[i]? =some n->At4 w b (q+i*4) n
theorem At4.only{w w':World}{b q:Nat}{n:Nt}(h:At4 w b q n)(ho:Only Nil w w')(hb:b<w.heap.size):At4 w' b q n:=
 ⟨(ho.cell (p:=⟨b,q,none⟩) hb id).trans h.c0,(ho.cell (p:=⟨b,q+1,none⟩) hb id).trans h.c1,(ho.cell (p:=⟨b,q+2,none⟩) hb id).trans h.c2,(ho.cell (p:=⟨b,q+3,none⟩) hb id).trans h.c3⟩
theorem Notes.only{w w':World}{A:Option Addr}{zs:List Nt}(h:Notes w A zs)(ho:Only Nil w w'):Notes w' A zs:=fun h0=>by
 obtain⟨b,q,e,hb,hc⟩:=h h0;exact⟨b,q,e,Nat.lt_of_lt_of_le hb ho.size,fun i n hi=>(hc i n hi).only ho hb⟩
def OwnN(base:Nat)(w:World)(v:Value)(zs:List Nt):Prop:=w.ownsRow base 78 4 v zs.length (km zs)
theorem OwnN.only{base:Nat}{w w':World}{v:Value}{zs:List Nt}(h:OwnN base w v zs)(ho:Only Nil w w'):OwnN base w' v zs:=qx h ho (fun _ _=>id)
theorem xc(base:Nat)(w:World):OwnN base w (.slice none 0 0) []:=World.ownsRow_nil _ _ _ _
def ListN(w:World)(v:Value)(zs:List Nt):Prop:=∃A c,v= .slice A zs.length c/\Notes w A zs
theorem ListN.only{w w':World}{v:Value}{zs:List Nt}(h:ListN w v zs)(ho:Only Nil w w'):ListN w' v zs:=by
 obtain⟨A,c,hv,hn⟩:=h;exact⟨A,c,hv,hn.only ho⟩
theorem OwnN.list{base:Nat}{w:World}{v:Value}{zs:List Nt}(h:OwnN base w v zs):ListN w v zs:=by
 rcases h.2 with⟨rfl,hn⟩|⟨g,cap,cur,hv,hb,hg,hc,_⟩
 . obtain rfl:=List.eq_nil_of_length_eq_zero hn;exact⟨none,0,rfl,fun h=>absurd h (by simp)⟩
 . refine⟨_,cap,hv,fun _=>⟨g,0,rfl,(Array.getElem?_eq_some_iff.1 hg).1,fun i n hi=> ?_⟩⟩
   have hcell:∀j u,(xq n)[j]? =some u->w.cell? ⟨g,0+i*4+j,none⟩=some u:=fun j u hj=>by
    have h1:=World.ownsRow.cells h (g:=g) (by rw[hv];rfl) (i*4+j) u (by rw[qjb zs i n j hi (List.getElem?_eq_some_iff.1 hj).1];exact hj)
    rwa [qe0,←Nat.add_assoc]at h1
   exact⟨hcell 0 _ rfl,hcell 1 _ rfl,hcell 2 _ rfl,hcell 3 _ rfl⟩
theorem qhu:(prog.info? 78).map (fun i=>(i.zero,i.size,i.bytes))=some (some (.agg #[.int .i64 0,.int .i64 0,.int .i64 0,.int .i64 0]),4,32):=by kernel_rfl
def uIs(k m x v:Int):Bool:=
 if k=0 then bits .and .u32 v m==x else if k=1 then bits .and .u32 v m !=x else if k=2 then v/256%256==v/65536%256 else if k=3 then decide (v/256%256=x) && (v%256==0)else false
theorem yx{a b:Bool}(h:a=b):Ending.returned (.bool a)= .returned (.bool b):=by rw[h]
structure Acc5 where
 k:Int
 c:Int
 x:Int
 y:Int
 o:Int
def Acc5.v(a:Acc5):Value:= .agg #[.int .i64 a.k,.int .i64 a.c,.int .u32 a.x,.int .u32 a.y,.int .u32 a.o]
def zn:Acc5:=⟨0,0,0,0,0⟩
def qeb(xs:List Int)(k c x y:Int):Acc5:=if zm xs k c then⟨k,c,x,y,qa xs c⟩else zn
theorem qai(xs:List Int)(k c x y:Int):qr xs k c x y=(qeb xs k c x y).v:=by
 unfold qr qeb jf
 split<;>rfl
theorem qj7{xs:List Int}{k c x y:Int}(hk:yi k=true):(qeb xs k c x y).o=qa xs c:=by
 unfold qeb
 by_cases h:zm xs k c=true
 . rw[if_pos h]
 . rw[if_neg h]
   have ht:qf xs c=false:=by
    cases e:qf xs c
    . rfl
    . exact absurd (by simp[zm,e,hk]) h
   simp[qa,ht,zn]
def ofV:Value->Acc5
 | .agg ⟨[.int _ k,.int _ c,.int _ x,.int _ y,.int _ o]⟩=>⟨k,c,x,y,o⟩
 |_=>zn
theorem qt7{v:Value}(h:∃ka ca xa ya oa:Int,v= .agg #[.int .i64 ka,.int .i64 ca,.int .u32 xa,.int .u32 ya,.int .u32 oa]):v=(ofV v).v:=by
 obtain⟨ka,ca,xa,ya,oa,rfl⟩:=h;rfl
theorem qjz(xs:List Int)(n mode i s c:Int)(q:Int->Bool):(je xs n mode i s c q).acc=(ofV (je xs n mode i s c q).acc).v:=by
 obtain⟨ka,ca,xa,ya,oa,h,_⟩:=qek xs n mode i s c q;exact qt7 ⟨ka,ca,xa,ya,oa,h⟩
theorem qls(xs:List Int)(n:Int)(on:Bool)(c i:Int)(hit:Bool):∃ka ca xa ya oa:Int,(jn xs n on c i hit).acc= .agg #[.int .i64 ka,.int .i64 ca,.int .u32 xa,.int .u32 ya,.int .u32 oa]:=by
 have hv:=fun k c x y=>ql xs k c x y;unfold jn xh xi qa9
 repeat' split
 all_goals first|exact⟨0,0,0,0,0,rfl⟩|(obtain⟨k',c',x',y',e⟩:=hv 2 (pc n i) 1 0;exact⟨_,_,_,_,_,e⟩)|(obtain⟨k',c',x',y',e⟩:=hv 1 (wc n i) 0 0;exact⟨_,_,_,_,_,e⟩)
theorem qj8(xs:List Int)(n:Int)(on:Bool)(c i:Int)(hit:Bool):(jn xs n on c i hit).acc=(ofV (jn xs n on c i hit).acc).v:=qt7 (qls xs n on c i hit)
structure LS where
 n:Int
 mode:Int
 task:Int
 op:Int
 line:Int
 a:Int
 b:Int
 s:Int
 k:WkV
 ret:Int
 acc:Acc5
 ns:List Nt
 xs:List Int
def LS.cells(r:LS)(h nv:Value):Array Value:=
 #[h,.int .i64 r.n,.int .i64 r.mode,.int .i64 r.task,.int .i64 r.op,.int .i64 r.line,.int .u32 r.a,.int .u32 r.b,.int .i64 r.s,.bool r.k.on,.int .i64 r.k.c,.int .i64 r.k.i,.bool r.k.hit,.int .i64 r.ret,
   .int .i64 r.acc.k,.int .i64 r.acc.c,.int .u32 r.acc.x,.int .u32 r.acc.y,.int .u32 r.acc.o,nv]
def LS.frame(r:LS):Array Value:= #[.int .i64 r.op,.int .i64 r.line,.int .u32 r.a,.int .u32 r.b,.int .i64 r.s,.bool r.k.on,.int .i64 r.k.c,.int .i64 r.k.i,.bool r.k.hit,.int .i64 r.ret]
def LS.doA(r:LS)(k c x y:Int):LS:={r with acc:=qeb r.xs k c x y,xs:=yk r.xs k c x y}
def LS.stepR(r:LS)(c:Int)(q:Int->Bool):qc6:=je r.xs r.n r.mode r.task r.s c q
def LS.wait(r:LS)(c:Int)(q:Int->Bool):LS:={r with s:=(r.stepR c q).next,acc:=ofV (r.stepR c q).acc,xs:=(r.stepR c q).xs}
def LS.note(r:LS)(what arg:Int):LS:={r with ns:=r.ns++[⟨r.task,what,0,arg⟩]}
def LS.go(r:LS)(l:Int):LS:={r with line:=l}
def LS.fin(r:LS)(ok:Bool):LS:={r with ret:=if ok then 2 else 1}
def LS.wake(r:LS)(c:Int):LS:={r with k:=qax r.mode c}
def LS.fresh(r:LS):LS:={r with acc:=zn,ns:=[]}
def LS.wakeR(r:LS):qel:=jn r.xs r.n r.k.on r.k.c r.k.i r.k.hit
def LS.waking(r:LS):LS:={r with acc:=ofV r.wakeR.acc,ns:=[],k:=r.wakeR.next,xs:=r.wakeR.xs}
def LS.over(r:LS):Bool:=(r.ret !=0) && !r.k.on
def LS.stuck(r:LS):Bool:= !r.k.on && jq r.xs r.n r.mode r.task r.s
def LS.next(L:LS->LS)(r:LS):LS:=if r.k.on then r.waking else L r.fresh
end Go.Proofs.YtgebffjejifidaaGreat
