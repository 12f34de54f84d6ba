import Derived.Test.YtgebffjejifidaaGreatProg
import Derived.IntWalk
import Derived.Laws.BitsAllLaws
import Derived.Laws.BitsLemmas
import Derived.Laws.Shifts
import Derived.Test.YtgebffjejifidaaGreatG8
import Derived.Test.YtgebffjejifidaaGreatG5
import Derived.Test.YtgebffjejifidaaGreatG1
import Derived.Test.YtgebffjejifidaaGreatG7
import Derived.Test.YtgebffjejifidaaGreatG2
import Derived.Test.YtgebffjejifidaaGreatG6
set_option linter.unusedVariables false
set_option linter.unusedSimpArgs false
set_option maxHeartbeats 1000000
set_option maxRecDepth 100000
namespace Go.Proofs.YtgebffjejifidaaGreat
open Go.RowKit Tryz
theorem qgb(B:Nat)(p A:Option Addr)(cp:Nat)(nv:Value)(r:LS)(c:Int)(F:Fn)(f1 f2:Array Value)(q:Int->Bool)(w:World)(h:RunP w B p A cp nv r)(hf:qbx A w (.func F f1 f2) q)(hx:Words r.xs):
 Calls prog 118 #[.pointer (some ⟨B,0,none⟩),.int .i64 c,.func F f1 f2] w (qj B p A cp w (.tuple #[.bool (r.stepR c q).seen,.bool (r.stepR c q).done]) (r.wait c q)):=by
 have e:=qhd false B p A cp nv r c F f1 f2 q w h (fun v w' ho hr h0 h1=>(hf v w' ho h0 h1).mono (fun e w2 hh=>⟨hh.1,hh.2.mono (fun _ _ h=>h.elim),by
  have hw:=hr.only hh.2 id;generalize q v=b at *
  cases b<;>exact hw⟩)) hx
 rwa [show r.waitM false c q=r.wait c q by
  unfold LS.waitM LS.wait LS.kept LS.kw;generalize r.stepR c q=t
  cases t.seen<;>rfl]at e
theorem qck{o:Oper}{a:Act}{K:Act->World->Prop}{Q:Exit->Act->World->Prop}(s x:Operand)(ho:o.op= .call {callee:= .builtin .append,args:= #[s,x],argTypes:= #[34, 34]})
 (v:Value) (zs:List Nt) (w:World) (g:Nat) (n:Nt) (hs:a.eval s=zam v) (hx:a.eval x= .slice (some ⟨g,0,none⟩) 1 1) (hown:OwnN 0 w v zs) (hrow:Row w g 78 #[.int .i64 n.t,.int .i64 n.w,.int .i64 n.o,.int .i64 n.a]) (h1:zs.length<=1000)
 (h:∀A' n' c' w',OwnN 0 w' (.slice A' n' c') (zs++[n])->Only Nil w w'->K (a.put o.dst (.slice A' n' c')) w'):o.wp prog a w K Q:=by
 obtain⟨v',w',hr,h2,h3⟩:=qf5 o.type v zs w g n hown hrow h1;unfold Oper.wp execOp;simp only[ho,resolve,invoke,builtin,Sem.run_bind,Sem.run_pure,Result.andThen_ok,List.map_toArray,List.map_cons,List.map_nil,hs,hx,hr];obtain⟨A',c',rfl,_⟩:=qgh h2;exact h _ _ _ w' h2 h3
theorem RunP.setNotes{w:World}{B:Nat}{p A:Option Addr}{cp:Nat}{nv v:Value}{r:LS}{zs:List Nt}(h:RunP w B p A cp nv r)(hn:OwnN 0 w v zs):RunP (w.setCell ⟨B,19,none⟩ v) B p A cp v {r with ns:=zs}:=by
 have ho:=(Only.refl (· =B) w).setCell (p:=⟨B,19,none⟩) (.inr rfl) v;refine⟨h.row.set 19 v,qx hn ho (fun i hi=> ?_),h.memo.far ho (fun j hj=>h.far hj)⟩;rintro rfl;obtain⟨cur,hc⟩:=zw hn hi;exact absurd (h.row.same hc).1 dc
theorem qc7(B:Nat)(p A:Option Addr)(cp:Nat)(nv:Value)(r:LS)(what arg:Int)(w:World)(h:RunP w B p A cp nv r)(hl:r.ns.length<=1000):
 Calls prog 81 #[.pointer (some ⟨B,0,none⟩),.int .i64 what,.int .i64 arg] w (qj B p A cp w (.tuple #[]) (r.note what arg)):=by
 have m19:w.cell? ⟨B,19,none⟩=some nv:=h.row.cell_ (i:=19) rfl;have m3:w.cell? ⟨B,3,none⟩=some (.int .i64 r.task):=h.row.cell_ (i:=3) rfl;have HP:=zh h;have HL:=zh hl;clear h hl;go_enter func81, ntmps81
 go_upto_region 1 with(fail)
 refine qb (n:=18) 14 (fun w=>w.cell? ⟨B,19,none⟩=some nv/\w.cell? ⟨B,3,none⟩=some (.int .i64 r.task)) rfl kr ⟨m19,m3⟩ (fun hHeld=> ?_);have HP1:=zh (HP.out.keep (Only.refl Nil w).drew);have HO1:=zh ((Only.refl (qd B A) w).drew);clear m19 m3 HP;generalize w.drew=w2 at *;refine za 0 rfl ?_;refine za 1 rfl ?_;refine za 2 rfl ?_;refine za 3 rfl ?_;refine zt 4 rfl ?_;refine za 6 rfl ?_;refine za 7 rfl ?_;refine za 8 rfl ?_;refine zt 9 rfl ?_;refine za 10 rfl ?_;refine za 11 rfl ?_;refine za 12 rfl ?_;refine qvb rfl rfl kr br (fun K hK=> ?_) br (fun K hK=> ?_)
 . go_simp;refine(qjy nv r.ns _ HP1.out.notes).mono ?_;rintro e w4 ⟨rfl,rfl⟩;refine hK.out _ _ (.inr hHeld) ?_;clear hK K;refine mpc 13 rfl kr br (fun K hK=> ?_);go_simp;have HP2:=zh (HP1.out.keep ((Only.refl Nil w2).alloc (.cells #[.int .i64 r.task,.int .i64 what,.int .i64 0,.int .i64 arg] 78)));have HO2:=zh (HO1.out.alloc (.cells #[.int .i64 r.task,.int .i64 what,.int .i64 0,.int .i64 arg] 78));have HN:=zh (Row.new w2 78 #[.int .i64 r.task,.int .i64 what,.int .i64 0,.int .i64 arg]);have hHeld2:(w2.alloc (.cells #[.int .i64 r.task,.int .i64 what,.int .i64 0,.int .i64 arg] 78)).cell? ⟨B,19,none⟩=some nv/\(w2.alloc (.cells #[.int .i64 r.task,.int .i64 what,.int .i64 0,.int .i64 arg] 78)).cell? ⟨B,3,none⟩=some (.int .i64 r.task):=⟨HP2.out.row.cell_ (i:=19) rfl,HP2.out.row.cell_ (i:=3) rfl⟩;refine hK.out _ _ (.inr hHeld2) ?_;clear hK K hHeld HP1 HO1;generalize w2.alloc (.cells #[.int .i64 r.task,.int .i64 what,.int .i64 0,.int .i64 arg] 78)=w3 at *;generalize w2.heap.size=g at *;refine mpc 14 rfl kr br (fun K hK=> ?_);refine qck (.tmp 13) (.tmp 21) rfl nv r.ns _ g ⟨r.task,what,0,arg⟩ br br HP2.out.notes HN.out HL.out (fun A9 n9 c9 w5 hown hO=> ?_);have HP3:=zh (HP2.out.keep hO);have HO3:=zh (HO2.out.trans (hO.mono (T:=qd B A) (fun _ _ h=>h.elim)));have HV:=zh hown;refine hK.out _ _ (.inl kr) ?_;clear hK K hHeld2 hO hown HP2 HO2 HN;refine za 15 rfl ?_;refine za 16 rfl ?_;have c19:w5.cell? ⟨B,19,none⟩=some nv:=HP3.out.row.cell_ (i:=19) rfl;have f19:w5.frozen? ⟨B,19,none⟩=false:=HP3.out.row.frozen 19;refine mpc 17 rfl kr br (fun K hK=> ?_);go_simp;refine hK.out _ _ (.inl kr) ?_;clear hK K c19 f19;refine qc kr ?_ _;go_wp2;go_returns;exact⟨rfl,HO3.out.setCell (p:=⟨B,19,none⟩) (.inr (.inl rfl)) _,_,HP3.out.setNotes HV.out⟩
 . go_simp;have HP2:=zh (HP1.out.keep ((Only.refl Nil w2).alloc (.cells #[.int .i64 r.task,.int .i64 what,.int .i64 0,.int .i64 arg] 78)));have HO2:=zh (HO1.out.alloc (.cells #[.int .i64 r.task,.int .i64 what,.int .i64 0,.int .i64 arg] 78));have HN:=zh (Row.new w2 78 #[.int .i64 r.task,.int .i64 what,.int .i64 0,.int .i64 arg]);have hHeld2:(w2.alloc (.cells #[.int .i64 r.task,.int .i64 what,.int .i64 0,.int .i64 arg] 78)).cell? ⟨B,19,none⟩=some nv/\(w2.alloc (.cells #[.int .i64 r.task,.int .i64 what,.int .i64 0,.int .i64 arg] 78)).cell? ⟨B,3,none⟩=some (.int .i64 r.task):=⟨HP2.out.row.cell_ (i:=19) rfl,HP2.out.row.cell_ (i:=3) rfl⟩;refine hK.out _ _ (.inr hHeld2) ?_;clear hK K hHeld HP1 HO1;generalize w2.alloc (.cells #[.int .i64 r.task,.int .i64 what,.int .i64 0,.int .i64 arg] 78)=w3 at *;generalize w2.heap.size=g at *;refine mpc 5 rfl kr br (fun K hK=> ?_);go_simp;refine(qjy nv r.ns _ HP2.out.notes).mono ?_;rintro e w4 ⟨rfl,rfl⟩;refine hK.out _ _ (.inr hHeld2) ?_;clear hK K;refine mpc 14 rfl kr br (fun K hK=> ?_);refine qck (.tmp 13) (.tmp 21) rfl nv r.ns _ g ⟨r.task,what,0,arg⟩ br br HP2.out.notes HN.out HL.out (fun A9 n9 c9 w5 hown hO=> ?_);have HP3:=zh (HP2.out.keep hO);have HO3:=zh (HO2.out.trans (hO.mono (T:=qd B A) (fun _ _ h=>h.elim)));have HV:=zh hown;refine hK.out _ _ (.inl kr) ?_;clear hK K hHeld2 hO hown HP2 HO2 HN;refine za 15 rfl ?_;refine za 16 rfl ?_;have c19:w5.cell? ⟨B,19,none⟩=some nv:=HP3.out.row.cell_ (i:=19) rfl;have f19:w5.frozen? ⟨B,19,none⟩=false:=HP3.out.row.frozen 19;refine mpc 17 rfl kr br (fun K hK=> ?_);go_simp;refine hK.out _ _ (.inl kr) ?_;clear hK K c19 f19;refine qc kr ?_ _;go_wp2;go_returns;exact⟨rfl,HO3.out.setCell (p:=⟨B,19,none⟩) (.inr (.inl rfl)) _,_,HP3.out.setNotes HV.out⟩
def RowsL(w:World)(L:List (Nat × TypeId × Array Value)):Prop:=∀x∈L,Row w x.1 x.2.1 x.2.2
theorem RowsL.keep{w w':World}{L:List (Nat × TypeId × Array Value)}(h:RowsL w L)(ho:Only Nil w w'):RowsL w' L:=fun x hx=>(h x hx).only ho id
theorem RowsL.cons{w:World}{L:List (Nat × TypeId × Array Value)}{g:Nat}{t:TypeId}{cs:Array Value}(h:RowsL w L)(hr:Row w g t cs):RowsL w ((g,t,cs)::L):=fun x hx=>by
 rcases List.mem_cons.1 hx with rfl|hx
 . exact hr
 . exact h x hx
section
variable{w:World}{L:List (Nat × TypeId × Array Value)}{g g1 g2 g3:Nat}{t t1 t2 t3:TypeId}{v v1 v2 v3:Value}
theorem RowsL.c0(h:RowsL w ((g,t, #[v])::L)):w.cell? ⟨g,0,none⟩=some v:=(h _ (.head _)).one
theorem RowsL.c1(h:RowsL w ((g1,t1, #[v1])::(g,t, #[v])::L)):w.cell? ⟨g,0,none⟩=some v:=(h _ (.tail _ (.head _))).one
theorem RowsL.c2(h:RowsL w ((g1,t1, #[v1])::(g2,t2, #[v2])::(g,t, #[v])::L)):w.cell? ⟨g,0,none⟩=some v:=(h _ (.tail _ (.tail _ (.head _)))).one
theorem RowsL.c3(h:RowsL w ((g1,t1, #[v1])::(g2,t2, #[v2])::(g3,t3, #[v3])::(g,t, #[v])::L)):w.cell? ⟨g,0,none⟩=some v:=(h _ (.tail _ (.tail _ (.tail _ (.head _))))).one
end
def jy(t:TypeId):Prop:=t≠ 108 /\t≠ 92 /\t≠ 22
theorem RunP.aside{w w':World}{B:Nat}{p A:Option Addr}{cp:Nat}{nv:Value}{r:LS}{g:Nat}{t:TypeId}{cs:Array Value}(h:RunP w B p A cp nv r)(hg:Row w g t cs)(ho:Only (qd B A) w w')(ht:jy t):Row w' g t cs:=
 hg.only ho (fun e=>by
  rcases e with e|e
  . exact qh hg h.row ht.1 e
  . exact jz h.memo hg ht.2.1 ht.2.2 (.inr e))
theorem RowsL.turn{w w':World}{B:Nat}{p A:Option Addr}{cp:Nat}{nv:Value}{r:LS}{L:List (Nat × TypeId × Array Value)}(h:RowsL w L)(hp:RunP w B p A cp nv r)(ho:Only (qd B A) w w')(ht:∀x∈L,jy x.2.1):RowsL w' L:=fun x hx=>hp.aside (h x hx) ho (ht x hx)
section
variable{w:World}{B:Nat}{p A:Option Addr}{cp:Nat}{nv:Value}{r:LS}
theorem RunP.setA(h:RunP w B p A cp nv r)(v:Int):RunP (w.setCell ⟨B,6,none⟩ (.int .u32 v)) B p A cp nv (r.keepA v):=
 h.turn ((Only.refl (· =B) w).setCell (p:=⟨B,6,none⟩) (.inr rfl) _) (h.row.set 6 (.int .u32 v)) rfl rfl
theorem RunP.setB(h:RunP w B p A cp nv r)(v:Int):RunP (w.setCell ⟨B,7,none⟩ (.int .u32 v)) B p A cp nv (r.keepB v):=
 h.turn ((Only.refl (· =B) w).setCell (p:=⟨B,7,none⟩) (.inr rfl) _) (h.row.set 7 (.int .u32 v)) rfl rfl
end
theorem yh:jy 110 :=⟨dc,dc,dc⟩
theorem yv:jy 3 :=⟨dc,dc,dc⟩
def Clo(F:Nat)(B:Nat)(p A:Option Addr)(cp:Nat)(r':LS)(w:World)(e:Ending)(w':World):Prop:=
 ∃caps,e= .returned (.func (.func F) #[] caps)/\Only Nil w w'/\Calls prog F caps w' (qj B p A cp w' (.tuple #[]) r')
def ClS(FS:List Nat)(B:Nat)(p A:Option Addr)(cp:Nat)(r r':LS)(w:World)(e:Ending)(w':World):Prop:=
 (∃F∈FS,∃caps,e= .returned (.func (.func F) #[] caps)/\Only Nil w w'/\Calls prog F caps w' (qj B p A cp w' (.tuple #[]) r'))\/(e= .returned .nilFunc/\Only Nil w w'/\r'=r)
theorem qdq(w:World):(binOp .neq 1 .nilFunc .nilFunc).run prog w= .ok (.bool false) w:=by
 first|rfl|kernel_rfl
theorem qf2(f:Fn)(first cap:Array Value)(w:World):(binOp .neq 1 (.func f first cap) .nilFunc).run prog w= .ok (.bool true) w:=by
 first|rfl|kernel_rfl
theorem qab{α:Sort _}{b:Bool}{x y:α}(h:b=true):(if b=true then x else y)=x:=if_pos h
theorem qcj{α:Sort _}{b:Bool}{x y:α}(h:b=false):(if b=true then x else y)=y:=if_neg (by rw[h];decide)
def qz(f:FuncId):Prop:=∀(args:Array Value) (w:World),(callFunc f args).run prog w= .ok (.enter f args) w
theorem arm{FS:List Nat}{F:Nat}{FM:FuncId}{args:Array Value}{B:Nat}{p A:Option Addr}{cp:Nat}{r r' rt:LS}{w0 w:World}{Q:Ending->World->Prop}(h:Calls prog FM args w (Clo F B p A cp rt w))(ho:Only Nil w0 w)(he:r'=rt)(hF:F∈FS)
 (k:∀caps w',Hid (ClS FS B p A cp r r' w0 (.returned (.func (.func F) #[] caps)) w')->Q (.returned (.func (.func F) #[] caps)) w'):Calls prog FM args w Q:=by
 refine h.mono ?_;rintro e w' ⟨caps,rfl,hO,hC⟩;exact k caps w' (zh (.inl ⟨F,hF,caps,rfl,ho.trans hO,he▸hC⟩))
structure St(w0:World)(B:Nat)(p A:Option Addr)(cp:Nat)(L:List (Nat × TypeId × Array Value))(m:Nat)(r:LS)(w:World):Prop where
 only:Only (qd B A) w0 w
 rows:RowsL w L
 aside:∀x∈L,jy x.2.1
 run:∃nv,RunP w B p A cp nv r
 len:r.ns.length<=m
section
variable{w0 w w':World}{B:Nat}{p A:Option Addr}{cp:Nat}{L:List (Nat × TypeId × Array Value)}{m m':Nat}{r r':LS}{F:FuncId}{args:Array Value}{v v0:Value}{g:Nat}{t:TypeId}{nv:Value}{Q:Ending->World->Prop}
theorem St.done(S:St w0 B p A cp L m r w):qj B p A cp w0 v r (.returned v) w:=⟨rfl,S.only,S.run⟩
theorem St.fit(S:St w0 B p A cp L m r w)(h:r'=r):qj B p A cp w0 v r' (.returned v) w:=h▸S.done
theorem St.keep(S:St w0 B p A cp L m r w)(ho:Only Nil w w'):St w0 B p A cp L m r w':=
 ⟨S.only.trans (ho.mono (fun _ _ h=>h.elim)),S.rows.keep ho,S.aside,S.run.imp fun _ h=>h.keep ho,S.len⟩
theorem St.drew(S:St w0 B p A cp L m r w):St w0 B p A cp L m r w.drew:=S.keep (Only.refl Nil w).drew
theorem St.drewd(S:St w0 B p A cp L m r w)(h:Drew w w'):St w0 B p A cp L m r w':=S.keep h.only
theorem St.c0(S:St w0 B p A cp ((g,t, #[v])::L) m r w):w.cell? ⟨g,0,none⟩=some v:=S.rows.c0
theorem St.at(S:St w0 B p A cp L m r w)(i:Nat)(h:∀nv,(r.cells (.pointer p) nv)[i]? =some v):w.cell? ⟨B,i,none⟩=some v:=by
 obtain⟨nv,hp⟩:=S.run;exact hp.row.cell_ (h nv)
theorem St.c6(S:St w0 B p A cp L m r w):w.cell? ⟨B,6,none⟩=some (.int .u32 r.a):=S.at 6 fun _=>rfl
theorem St.c7(S:St w0 B p A cp L m r w):w.cell? ⟨B,7,none⟩=some (.int .u32 r.b):=S.at 7 fun _=>rfl
theorem St.froz(S:St w0 B p A cp L m r w)(i:Nat):w.frozen? ⟨B,i,none⟩=false:=by
 obtain⟨nv,hp⟩:=S.run;exact hp.row.frozen i
theorem St.turned(S:St w0 B p A cp L m r w)(ho:Only (qd B A) w w')(hr:∃nv,RunP w' B p A cp nv r')(hm:r'.ns.length<=m'):St w0 B p A cp L m' r' w':=by
 obtain⟨nv,hp⟩:=S.run;exact⟨S.only.trans ho,S.rows.turn hp ho S.aside,S.aside,hr,hm⟩
theorem St.setA(S:St w0 B p A cp L m r w)(x:Int):St w0 B p A cp L m (r.keepA x) (w.setCell ⟨B,6,none⟩ (.int .u32 x)):=
 S.turned ((Only.refl (qd B A) w).setCell (p:=⟨B,6,none⟩) (.inr (.inl rfl)) _) (S.run.imp fun _ h=>h.setA x) S.len
theorem St.setB(S:St w0 B p A cp L m r w)(x:Int):St w0 B p A cp L m (r.keepB x) (w.setCell ⟨B,7,none⟩ (.int .u32 x)):=
 S.turned ((Only.refl (qd B A) w).setCell (p:=⟨B,7,none⟩) (.inr (.inl rfl)) _) (S.run.imp fun _ h=>h.setB x) S.len
theorem yf{r' rt:LS}(h:Calls prog F args w (qj B p A cp w0 v rt))(he:r'=rt)(k:∀w',Hid (qj B p A cp w0 v r' (.returned v) w')->Q (.returned v) w'):Calls prog F args w Q:=by
 refine h.mono ?_;rintro e w' ⟨rfl,hO,hr⟩;exact k w' (zh ⟨rfl,hO,he▸hr⟩)
theorem St.call(S:St w0 B p A cp L m r w)(h:∀nv,RunP w B p A cp nv r->Calls prog F args w (qj B p A cp w v r'))(hm:r'.ns.length<=m')(k:∀w',St w0 B p A cp L m' r' w'->Q (.returned v) w'):Calls prog F args w Q:=by
 obtain⟨nv,hp⟩:=S.run;refine(h nv hp).mono ?_;rintro e w' ⟨rfl,hO,hr⟩;exact k w' (S.turned hO hr hm)
theorem St.call0(S:St w0 B p A cp ((g,t, #[v0])::L) m r w)(h:∀nv,RunP w B p A cp nv r->Calls prog F args w (qj B p A cp w v r'))(hm:r'.ns.length<=m')(k:∀w',St w0 B p A cp ((g,t, #[v0])::L) m' r' w'->w'.cell? ⟨g,0,none⟩=some v0->Q (.returned v) w'):Calls prog F args w Q:=
 S.call h hm fun w' S'=>k w' S' S'.c0
variable{c x y l what arg:Int}{ok:Bool}
theorem qeq(S:St w0 B p A cp ((g,t, #[v0])::L) m r w)(k:∀w',St w0 B p A cp ((g,t, #[v0])::L) (m) (r.doA 1 c 0 0) w'->w'.cell? ⟨g,0,none⟩=some v0->Q (.returned (.int .u32 (qa r.xs c))) w'):Calls prog 123 #[.pointer (some ⟨B,0,none⟩),.int .i64 c] w Q:=
 S.call0 (fun _ h=>qd6 B p A cp _ r c _ h) S.len k
theorem qeh(S:St w0 B p A cp L m r w)(k:∀w',St w0 B p A cp L (m) (r.doA 1 c 0 0) w'->Q (.returned (.int .u32 (qa r.xs c))) w'):Calls prog 123 #[.pointer (some ⟨B,0,none⟩),.int .i64 c] w Q:=
 S.call (fun _ h=>qd6 B p A cp _ r c _ h) S.len k
theorem qew(S:St w0 B p A cp ((g,t, #[v0])::L) m r w)(k:∀w',St w0 B p A cp ((g,t, #[v0])::L) (m) (r.doA 3 c x 0) w'->w'.cell? ⟨g,0,none⟩=some v0->Q (.returned (.int .u32 (qa r.xs c))) w'):Calls prog 116 #[.pointer (some ⟨B,0,none⟩),.int .i64 c,.int .u32 x] w Q:=
 S.call0 (fun _ h=>qnk B p A cp _ r c x _ h) S.len k
theorem qi4(S:St w0 B p A cp L m r w)(k:∀w',St w0 B p A cp L (m) (r.doA 3 c x 0) w'->Q (.returned (.int .u32 (qa r.xs c))) w'):Calls prog 116 #[.pointer (some ⟨B,0,none⟩),.int .i64 c,.int .u32 x] w Q:=
 S.call (fun _ h=>qnk B p A cp _ r c x _ h) S.len k
theorem zbn(S:St w0 B p A cp ((g,t, #[v0])::L) m r w)(k:∀w',St w0 B p A cp ((g,t, #[v0])::L) (m) (r.doA 5 c x y) w'->w'.cell? ⟨g,0,none⟩=some v0->Q (.returned (.bool (qf r.xs c && (qa r.xs c==x)))) w'):Calls prog 126 #[.pointer (some ⟨B,0,none⟩),.int .i64 c,.int .u32 x,.int .u32 y] w Q:=
 S.call0 (fun _ h=>qdd B p A cp _ r c x y _ h) S.len k
theorem qz8(S:St w0 B p A cp L m r w)(k:∀w',St w0 B p A cp L (m) (r.doA 5 c x y) w'->Q (.returned (.bool (qf r.xs c && (qa r.xs c==x)))) w'):Calls prog 126 #[.pointer (some ⟨B,0,none⟩),.int .i64 c,.int .u32 x,.int .u32 y] w Q:=
 S.call (fun _ h=>qdd B p A cp _ r c x y _ h) S.len k
theorem yn(S:St w0 B p A cp ((g,t, #[v0])::L) m r w)(k:∀w',St w0 B p A cp ((g,t, #[v0])::L) (m+1) (r.note what arg) w'->w'.cell? ⟨g,0,none⟩=some v0->Q (.returned (.tuple #[])) w')(hm:m<=1000:=by decide):Calls prog 81 #[.pointer (some ⟨B,0,none⟩),.int .i64 what,.int .i64 arg] w Q:=
 S.call0 (fun _ h=>qc7 B p A cp _ r what arg _ h (Nat.le_trans S.len hm)) (by have:=S.len;simp only[LS.note,List.length_append,List.length_cons,List.length_nil];omega) k
theorem jr(S:St w0 B p A cp L m r w)(k:∀w',St w0 B p A cp L (m+1) (r.note what arg) w'->Q (.returned (.tuple #[])) w')(hm:m<=1000:=by decide):Calls prog 81 #[.pointer (some ⟨B,0,none⟩),.int .i64 what,.int .i64 arg] w Q:=
 S.call (fun _ h=>qc7 B p A cp _ r what arg _ h (Nat.le_trans S.len hm)) (by have:=S.len;simp only[LS.note,List.length_append,List.length_cons,List.length_nil];omega) k
theorem sGo(S:St w0 B p A cp ((g,t, #[v0])::L) m r w)(k:∀w',St w0 B p A cp ((g,t, #[v0])::L) (m) (r.go l) w'->w'.cell? ⟨g,0,none⟩=some v0->Q (.returned (.tuple #[])) w'):Calls prog 111 #[.pointer (some ⟨B,0,none⟩),.int .i64 l] w Q:=
 S.call0 (fun _ h=>qag B p A cp _ r l _ h) S.len k
theorem xGo(S:St w0 B p A cp L m r w)(k:∀w',St w0 B p A cp L (m) (r.go l) w'->Q (.returned (.tuple #[])) w'):Calls prog 111 #[.pointer (some ⟨B,0,none⟩),.int .i64 l] w Q:=
 S.call (fun _ h=>qag B p A cp _ r l _ h) S.len k
theorem xf(S:St w0 B p A cp ((g,t, #[v0])::L) m r w)(k:∀w',St w0 B p A cp ((g,t, #[v0])::L) (m) (r.fin ok) w'->w'.cell? ⟨g,0,none⟩=some v0->Q (.returned (.tuple #[])) w'):Calls prog 113 #[.pointer (some ⟨B,0,none⟩),.bool ok] w Q:=
 S.call0 (fun _ h=>qnd B p A cp _ r _ ok h) S.len k
theorem qeu(S:St w0 B p A cp L m r w)(k:∀w',St w0 B p A cp L (m) (r.fin ok) w'->Q (.returned (.tuple #[])) w'):Calls prog 113 #[.pointer (some ⟨B,0,none⟩),.bool ok] w Q:=
 S.call (fun _ h=>qnd B p A cp _ r _ ok h) S.len k
theorem qkh(S:St w0 B p A cp ((g,t, #[v0])::L) m r w)(k:∀w',St w0 B p A cp ((g,t, #[v0])::L) (m) (r.wake c) w'->w'.cell? ⟨g,0,none⟩=some v0->Q (.returned (.tuple #[])) w'):Calls prog 121 #[.pointer (some ⟨B,0,none⟩),.int .i64 c] w Q:=
 S.call0 (fun _ h=>qg6 B p A cp _ r c _ h) S.len k
theorem qnc(S:St w0 B p A cp L m r w)(k:∀w',St w0 B p A cp L (m) (r.wake c) w'->Q (.returned (.tuple #[])) w'):Calls prog 121 #[.pointer (some ⟨B,0,none⟩),.int .i64 c] w Q:=
 S.call (fun _ h=>qg6 B p A cp _ r c _ h) S.len k
theorem qes{f:Fn}{f1 f2:Array Value}{q:Int->Bool}{sn dn:Bool}(S:St w0 B p A cp ((g,t, #[v0])::L) m r w)(hf:qbx A w (.func f f1 f2) q)(hx:Words r.xs)(hs:(r.stepR c q).seen=sn)(hd:(r.stepR c q).done=dn)(hr:r.wait c q=r')
 (k:∀w',St w0 B p A cp ((g,t, #[v0])::L) m r' w'->w'.cell? ⟨g,0,none⟩=some v0->Q (.returned (.tuple #[.bool sn,.bool dn])) w'):Calls prog 118 #[.pointer (some ⟨B,0,none⟩),.int .i64 c,.func f f1 f2] w Q:=by
 subst hs hd hr;exact S.call0 (fun _ h=>qgb B p A cp _ r c f f1 f2 q _ h hf hx) S.len k
theorem qo1{f:Fn}{f1 f2:Array Value}{q:Int->Bool}{sn dn:Bool}(S:St w0 B p A cp L m r w)(hf:qbx A w (.func f f1 f2) q)(hx:Words r.xs)(hs:(r.stepR c q).seen=sn)(hd:(r.stepR c q).done=dn)(hr:r.wait c q=r')
 (k:∀w',St w0 B p A cp L m r' w'->Q (.returned (.tuple #[.bool sn,.bool dn])) w'):Calls prog 118 #[.pointer (some ⟨B,0,none⟩),.int .i64 c,.func f f1 f2] w Q:=by
 subst hs hd hr;exact S.call (fun _ h=>qgb B p A cp _ r c f f1 f2 q _ h hf hx) S.len k
end
section
variable{w:World}{B:Nat}{p A:Option Addr}{cp:Nat}{r:LS}{nv v1 v2 v3 v4:Value}{t1 t2 t3 t4:TypeId}
theorem yz{L:List (Nat × TypeId × Array Value)}{w:World}(h:RunP w B p A cp nv r)(hl:r.ns.length<=900)(hb:RowsL w L)(ha:∀x∈L,jy x.2.1):St w B p A cp L 900 r w:=⟨Only.refl _ _,hb,ha,⟨nv,h⟩,hl⟩
theorem zo(w:World):RowsL w []:=fun _ h=>by simp at h
theorem qu:∀x∈([]:List (Nat × TypeId × Array Value)),jy x.2.1:=fun _ h=>by simp at h
theorem qi{g:Nat}{t:TypeId}{cs:Array Value}{L:List (Nat × TypeId × Array Value)}(h:jy t)(hl:∀x∈L,jy x.2.1):∀x∈(g,t,cs)::L,jy x.2.1:=fun x hx=>by
 rcases List.mem_cons.1 hx with rfl|hx
 . exact h
 . exact hl x hx
theorem mk1(h:RunP w B p A cp nv r)(hl:r.ns.length<=900):Only Nil w (w.alloc (.cells #[Value.pointer (some ⟨B,0,none⟩)] 110))/\St (w.alloc (.cells #[Value.pointer (some ⟨B,0,none⟩)] 110)) B p A cp [(w.heap.size, 110, #[Value.pointer (some ⟨B,0,none⟩)])] 900 r (w.alloc (.cells #[Value.pointer (some ⟨B,0,none⟩)] 110)):=by
 have e:=(Only.refl Nil w).alloc (.cells #[Value.pointer (some ⟨B,0,none⟩)] 110);exact⟨e,yz (h.keep e) hl ((zo _).cons (Row.new w _ _)) (qi yh qu)⟩
theorem mk2(h:RunP w B p A cp nv r)(hl:r.ns.length<=900)(h1:jy t1):Only Nil w ((w.alloc (.cells #[Value.pointer (some ⟨B,0,none⟩)] 110)).alloc (.cells #[v1] t1))/\St ((w.alloc (.cells #[Value.pointer (some ⟨B,0,none⟩)] 110)).alloc (.cells #[v1] t1)) B p A cp [(w.heap.size, 110, #[Value.pointer (some ⟨B,0,none⟩)]),(w.heap.size+1,t1, #[v1])] 900 r ((w.alloc (.cells #[Value.pointer (some ⟨B,0,none⟩)] 110)).alloc (.cells #[v1] t1)):=by
 have e:=((Only.refl Nil w).alloc (.cells #[Value.pointer (some ⟨B,0,none⟩)] 110)).alloc (.cells #[v1] t1);exact⟨e,yz (h.keep e) hl (((zo _).cons (Row.new2 w _ _ _)).cons ((Row.new w _ _).alloc _)) (qi yh (qi h1 qu))⟩
theorem mk3(h:RunP w B p A cp nv r)(hl:r.ns.length<=900)(h1:jy t1)(h2:jy t2):Only Nil w (((w.alloc (.cells #[Value.pointer (some ⟨B,0,none⟩)] 110)).alloc (.cells #[v1] t1)).alloc (.cells #[v2] t2))/\St (((w.alloc (.cells #[Value.pointer (some ⟨B,0,none⟩)] 110)).alloc (.cells #[v1] t1)).alloc (.cells #[v2] t2)) B p A cp [(w.heap.size, 110, #[Value.pointer (some ⟨B,0,none⟩)]),(w.heap.size+1,t1, #[v1]),(w.heap.size+1+1,t2, #[v2])] 900 r (((w.alloc (.cells #[Value.pointer (some ⟨B,0,none⟩)] 110)).alloc (.cells #[v1] t1)).alloc (.cells #[v2] t2)):=by
 have e:=(((Only.refl Nil w).alloc (.cells #[Value.pointer (some ⟨B,0,none⟩)] 110)).alloc (.cells #[v1] t1)).alloc (.cells #[v2] t2);exact⟨e,yz (h.keep e) hl ((((zo _).cons (Row.at (by simp))).cons ((Row.new2 w _ _ _).alloc _)).cons (((Row.new w _ _).alloc _).alloc _)) (qi yh (qi h1 (qi h2 qu)))⟩
theorem mk4(h:RunP w B p A cp nv r)(hl:r.ns.length<=900)(h1:jy t1)(h2:jy t2)(h3:jy t3):Only Nil w ((((w.alloc (.cells #[Value.pointer (some ⟨B,0,none⟩)] 110)).alloc (.cells #[v1] t1)).alloc (.cells #[v2] t2)).alloc (.cells #[v3] t3))/\St ((((w.alloc (.cells #[Value.pointer (some ⟨B,0,none⟩)] 110)).alloc (.cells #[v1] t1)).alloc (.cells #[v2] t2)).alloc (.cells #[v3] t3)) B p A cp [(w.heap.size, 110, #[Value.pointer (some ⟨B,0,none⟩)]),(w.heap.size+1,t1, #[v1]),(w.heap.size+1+1,t2, #[v2]),(w.heap.size+1+1+1,t3, #[v3])] 900 r ((((w.alloc (.cells #[Value.pointer (some ⟨B,0,none⟩)] 110)).alloc (.cells #[v1] t1)).alloc (.cells #[v2] t2)).alloc (.cells #[v3] t3)):=by
 have e:=((((Only.refl Nil w).alloc (.cells #[Value.pointer (some ⟨B,0,none⟩)] 110)).alloc (.cells #[v1] t1)).alloc (.cells #[v2] t2)).alloc (.cells #[v3] t3);exact⟨e,yz (h.keep e) hl (((((zo _).cons (Row.at (by simp))).cons ((Row.at (by simp)).alloc _)).cons (((Row.new2 w _ _ _).alloc _).alloc _)).cons ((((Row.new w _ _).alloc _).alloc _).alloc _)) (qi yh (qi h1 (qi h2 (qi h3 qu))))⟩
end
theorem qci{F:FuncId}(hcf:qz F)(f:LS->LS){B:Nat}{p A:Option Addr}{cp:Nat}{nv:Value}{r:LS}{w:World}(h:RunQ w B p A cp nv r)
 (hc:∀w nv,RunP w B p A cp nv r.fresh->Calls prog F #[Value.pointer (some ⟨B,0,none⟩)] w (qj B p A cp w (.tuple #[]) (f r.fresh))):
 Calls prog 90 #[Value.pointer (some ⟨B,0,none⟩),.func (.func F) #[] #[]] w (qcl B p A cp (r.next f) (qd B A) (fun _=>True) w):=by
 have hl:qy5 B p A cp (.func (.func F) #[] #[]) r.fresh (f r.fresh) (qd B A) (fun _=>True) (fun _=>True):=by
  intro w nv _ h;have HT:=zh (hc w nv h);have hn:=qx6;unfold qz at hcf;clear h hc;generalize f r.fresh=r' at *
  go_enter_defers func180, ntmps180
  go_wp2_with fail;refine HT.out.mono ?_;rintro e w1 ⟨rfl,hO,hP⟩;have H:=zh (And.intro hO hP);clear hO hP HT;go_wp2;refine leaves_cons (f:= 262) (args:= #[]) (by simp) (by simp[go_sem]) ?_;refine(qwh _).mono ?_;rintro e u' w'' ⟨rfl,rfl,rfl⟩;exact⟨_,by simp[results, results180,go_sem],rfl,H.out.1,trivial,H.out.2⟩
 unfold LS.next
 cases hon:r.k.on
 . rw[if_neg Bool.false_ne_true];exact qm6 B p A cp nv _ r _ _ _ _ w h hon hl (.inl rfl) (fun _ _=>trivial)
 . rw[if_pos rfl];exact qqd B p A cp nv _ r w h hon
theorem qc9(a b:Int)(w:World):
 Calls prog 215 #[.int .u32 a,.int .u32 b] w fun e w'=>e= .returned (.int .i64 (zv a b))/\w=w':=by
 go_enter func215, ntmps215;go_wp2;go_ret;refine⟨congrArg (fun x=>Ending.returned (.int .i64 x)) ?_,rfl⟩;simp only[wrap32,wrap64,zv];omega
section
variable(B:Nat)(p A:Option Addr)(cp:Nat)(nv:Value)(r:LS)(c x y:Int)(w:World)
theorem qap(h:RunP w B p A cp nv r):Calls prog 125 #[.pointer (some ⟨B,0,none⟩),.int .i64 c,.int .u32 x] w (qj B p A cp w (.tuple #[]) (r.doA 2 c x 0)):=by
 go_enter func125, ntmps125;go_wp2_with fail;refine(vr B p A cp nv r 2 c x 0 0 _ h rfl).mono ?_;rintro e w1 ⟨rfl,hO,hP⟩;have HO:=zh hO;have HP:=zh hP;clear hO hP h;go_wp2;go_returns;exact⟨rfl,HO.out,nv,HP.out⟩
end
def isF(s n:Int):Bool:=decide (0<=s/\s<=31/\1<=n/\n<=32/\s+n<=32)
def pw(n:Int):Int:=2^n.toNat
def ye(v s n:Int):Int:=v/pw s%pw n
def qdw(v s n:Int):Int:=if isF s n then ye v s n else 0
def xj(v s n x:Int):Int:=v+(x%pw n-ye v s n)*pw s
def qmn(v s n x:Int):Int:=if isF s n then xj v s n x else v
def qg1(v s n:Int):Int:=(qmn v s n ((qdw v s n+1)%4294967296)-v)%4294967296
theorem vj{s n:Int}:isF s n=true↔0<=s/\s<=31/\1<=n/\n<=32/\s+n<=32:=by simp[isF]
theorem ji(n:Int):0<pw n:=Int.pow_pos dc
theorem qi7(s:Nat):pw (s:Int)=((2^s:Nat):Int):=by simp[pw]
theorem qbt{s n:Int}(hs:0<=s)(hn:0<=n):pw (s+n)=pw s*pw n:=by
 unfold pw;rw[Int.toNat_add hs hn,Int.pow_add]
theorem qte{s n:Int}(h:s<=n):pw s<=pw n:=by
 have h1:s.toNat<=n.toNat:=by omega
 have h2:2^s.toNat<=2^n.toNat:=Nat.pow_le_pow_right dc h1;unfold pw;exact_mod_cast h2
theorem qnz:pw 32=4294967296:=rfl
theorem xo{n:Int}(h:n<=32):pw n<=4294967296:=by have:=qte h;rwa [qnz]at this
theorem qvn{n:Int}(h:0<=n):pw (n+1)=pw n*2:=by rw[qbt h dc];rfl
theorem qav(v s n:Int):0<=ye v s n/\ye v s n<pw n:=⟨Int.emod_nonneg _ (by have:=ji n;omega),Int.emod_lt_of_pos _ (ji n)⟩
theorem qd1{v s n:Int}(h:isF s n=true):ye v s n<4294967296:=by
 have:=(qav v s n).2;have:=xo (vj.1 h).2.2.2.1;omega
theorem zbm{v s n:Int}(hs:0<=s)(hn:0<=n):v=v/pw (s+n)*pw (s+n)+ye v s n*pw s+v%pw s:=by
 have h1:v/pw (s+n)=v/pw s/pw n:=by rw[qbt hs hn,Int.ediv_ediv_of_nonneg (by have:=ji s;omega)]
 have h2:=Int.ediv_mul_add_emod v (pw s);have h3:=Int.ediv_mul_add_emod (v/pw s) (pw n);rw[h1,qbt hs hn,ye]
 calc v=v/pw s*pw s+v%pw s:=h2.symm
  _=(v/pw s/pw n*pw n+v/pw s%pw n)*pw s+v%pw s:=by rw[h3]
  _=_:=by rw[Int.add_mul,Int.mul_assoc,Int.mul_comm (pw n) (pw s)]
theorem qsn(v s:Int):0<=v%pw s/\v%pw s<pw s:=⟨Int.emod_nonneg _ (by have:=ji s;omega),Int.emod_lt_of_pos _ (ji s)⟩
theorem qhx{v s n:Int}(x:Int)(hs:0<=s)(hn:0<=n):xj v s n x=v/pw (s+n)*pw (s+n)+(x%pw n*pw s+v%pw s):=by
 have h:=zbm (v:=v) hs hn;unfold xj;rw[Int.sub_mul];omega
theorem qd4(x n:Int):0<=x%pw n/\x%pw n<pw n:=⟨Int.emod_nonneg _ (by have:=ji n;omega),Int.emod_lt_of_pos _ (ji n)⟩
theorem qu2{v s n:Int}(x:Int)(hs:0<=s)(hn:0<=n):0<=x%pw n*pw s+v%pw s/\x%pw n*pw s+v%pw s<pw (s+n):=by
 have h1:=qd4 x n;have h2:=qsn v s;have h3:x%pw n*pw s<=(pw n-1)*pw s:=Int.mul_le_mul_of_nonneg_right om (by have:=ji s;omega);have h4:0<=x%pw n*pw s:=Int.mul_nonneg h1.1 (by have:=ji s;omega);rw[qbt hs hn,Int.mul_comm (pw s)];rw[Int.sub_mul]at h3;omega
theorem qzh{v s n:Int}(x:Int)(h:isF s n=true)(hv:0<=v/\v<4294967296):0<=xj v s n x/\xj v s n x<4294967296:=by
 obtain⟨hs,_,hn,_,hsn⟩:=vj.1 h;have h1:=qu2 (v:=v) x hs (by omega:0<=n);rw[qhx x hs om];have hp:=ji (s+n)
 have hk:pw (s+n)*pw (32-(s+n))=4294967296:=by rw[←qbt om om,show s+n+(32-(s+n))=32 by omega,qnz]
 generalize hq:v/pw (s+n)=q
 have h2:0<=q:=by rw[←hq];exact Int.ediv_nonneg hv.1 om
 have h3:q<pw (32-(s+n)):=by
  rw[←hq];exact Int.ediv_lt_of_lt_mul hp (by rw[Int.mul_comm,hk];exact hv.2)
 have h4:q*pw (s+n)<=(pw (32-(s+n))-1)*pw (s+n):=Int.mul_le_mul_of_nonneg_right om om;have h5:0<=q*pw (s+n):=Int.mul_nonneg h2 om;rw[Int.sub_mul,Int.mul_comm (pw (32-(s+n))),hk]at h4;omega
theorem qv1{v s n:Int}(x:Int)(h:isF s n=true): -4294967296<=(x%pw n-ye v s n)*pw s/\(x%pw n-ye v s n)*pw s<=4294967296:=by
 obtain⟨hs,_,hn,_,hsn⟩:=vj.1 h;have h1:=qd4 x n;have h2:=qav v s n;have hp:=ji s
 have h3:pw n*pw s<=4294967296:=by rw[←qbt om hs,←qnz];exact qte om
 have h4:(x%pw n-ye v s n)*pw s<=pw n*pw s:=Int.mul_le_mul_of_nonneg_right om om;have h5: -pw n*pw s<=(x%pw n-ye v s n)*pw s:=Int.mul_le_mul_of_nonneg_right om om;rw[Int.neg_mul]at h5;omega
theorem qo2{v s n:Int}(x y:Int)(h:x%pw n=y%pw n):xj v s n x=xj v s n y:=by unfold xj;rw[h]
theorem qpj{v s n:Nat}(hv:v<2^32)(h:s+n<=32):v &&& (4294967295-(2^n-1)*2^s)=(v/2^(s+n))*2^(s+n)|||v%2^s:=by
 have hm:(2^n-1)*2^s<2^32:=by
  have h1:(2^n-1)*2^s<2^n*2^s:=Nat.mul_lt_mul_of_pos_right (by have:=Nat.two_pow_pos n;omega) (Nat.two_pow_pos s);rw[←Nat.pow_add]at h1;exact Nat.lt_of_lt_of_le h1 (Nat.pow_le_pow_right dc om)
 have e1:4294967295-(2^n-1)*2^s=2^32-((2^n-1)*2^s+1):=by omega
 rw[e1];apply Nat.eq_of_testBit_eq;intro i;rw[Nat.testBit_and,Nat.testBit_two_pow_sub_succ hm,Nat.testBit_or,←Nat.shiftLeft_eq,←Nat.shiftLeft_eq,←Nat.shiftRight_eq_div_pow,Nat.testBit_shiftLeft,Nat.testBit_shiftLeft,Nat.testBit_shiftRight,Nat.testBit_mod_two_pow,Nat.testBit_two_pow_sub_one]
 by_cases h1:i<s
 . have a1:¬s<=i:=by omega
   have a2:¬s+n<=i:=by omega
   have a3:i<32:=by omega
   simp[h1,a1,a2,a3]
 . by_cases h2:s+n<=i
   . have e2:s+n+(i-(s+n))=i:=by omega
     have a1:¬i-s<n:=by omega
     rw[e2]
     by_cases h3:i<32
     . simp[h1,h2,h3,a1]
     . have:v.testBit i=false:=Nat.testBit_lt_two_pow (Nat.lt_of_lt_of_le hv (Nat.pow_le_pow_right dc om));simp[this]
   . have a1:i-s<n:=by omega
     have a2:s<=i:=by omega
     simp[h1,h2,a1,a2]
theorem qxa{v s n y:Nat}(hv:v<2^32)(h:s+n<=32)(hy:y<2^n):
 (v &&& (4294967295-(2^n-1)*2^s))|||(y*2^s)=(v/2^(s+n))*2^(s+n)+(y*2^s+v%2^s):=by
 have hl:v%2^s<2^s:=Nat.mod_lt _ (Nat.two_pow_pos s);rw[qpj hv h,Nat.or_assoc,Nat.or_comm (v%2^s),nat_join s _ _ (Nat.mul_mod_left _ _) hl,nat_join (s+n) _ _ (Nat.mul_mod_left _ _) ?_];have h1:y*2^s<=(2^n-1)*2^s:=Nat.mul_le_mul_right _ om;rw[Nat.sub_mul,←Nat.pow_add,Nat.add_comm n s]at h1;have h2:2^s<=2^(s+n):=Nat.pow_le_pow_right dc om;omega
theorem qsk{n:Int}(h:1<=n/\n<=32):(4294967295:Int)/2^(32-n).toNat=pw n-1:=by
 have e2:pw n*pw (32-n)=4294967296:=by rw[←qbt om om,show n+(32-n)=32 by omega,qnz]
 show 4294967295/pw (32-n)=pw n-1;have hp:=ji (32-n)
 have e3:(4294967295:Int)=(pw (32-n)-1)+(pw n-1)*pw (32-n):=by rw[Int.sub_mul,e2];omega
 rw[e3,Int.add_mul_ediv_right _ _ om,Int.ediv_eq_zero_of_lt om om,Int.zero_add]
theorem qnv{x n:Int}(hx:0<=x/\x<4294967296)(hn:0<=n/\n<=32):bits .and .u32 x (pw n-1)=x%pw n:=by
 obtain⟨m,rfl⟩:=Int.eq_ofNat_of_zero_le hn.1;have:=bits_mask .u32 32 dc (fun k h0 h1=>by rw[IntKind.wrap_u32'];omega) m om x hx.1 (by simpa using hx.2)
 simpa [pw] using this
theorem qtt{v s n x:Int}(h:isF s n=true)(hv:0<=v/\v<4294967296):
 bits .or .u32 (bits .andNot .u32 v ((pw n-1)*pw s%4294967296)) (x%pw n*pw s%4294967296)=xj v s n x:=by
 obtain⟨hs,hs1,hn,hn1,hsn⟩:=vj.1 h
 have hn0:0<=n:=by omega
 rw[qhx x hs hn0];have k1:=qu2 (v:=0) x hs hn0;have k2:=xo hsn;have k4:0<=x%pw n*pw s:=Int.mul_nonneg (qd4 x n).1 (by have:=ji s;omega)
 have k3:(x%pw n*pw s)%4294967296=x%pw n*pw s:=by
  rw[Int.zero_emod,Int.add_zero]at k1;exact Int.emod_eq_of_lt k1.1 om
 have k5:(pw n-1)*pw s%4294967296=(pw n-1)*pw s:=by
  have e:(pw n-1)*pw s=pw (s+n)-pw s:=by rw[Int.sub_mul,Int.one_mul,qbt hs hn0,Int.mul_comm]
  have:=ji s;have:=qte (show s<=s+n by omega);rw[e];exact Int.emod_eq_of_lt om om
 rw[k3,k5];obtain⟨V,rfl⟩:=Int.eq_ofNat_of_zero_le hv.1;obtain⟨S,rfl⟩:=Int.eq_ofNat_of_zero_le hs;obtain⟨N,rfl⟩:=Int.eq_ofNat_of_zero_le hn0;obtain⟨Y,hY⟩:=Int.eq_ofNat_of_zero_le (qd4 x (N:Int)).1;have hYb:=(qd4 x (N:Int)).2;rw[hY,qi7]at hYb
 have hYb':Y<2^N:=by exact_mod_cast hYb
 have hV:V<2^32:=by omega
 rw[hY,←Int.natCast_add,qi7,qi7,qi7]
 have e1:(((2^N:Nat):Int)-1)*((2^S:Nat):Int)=(((2^N-1)*2^S:Nat):Int):=by
  have:=Nat.two_pow_pos N;rw[Int.natCast_mul,Int.natCast_sub this];rfl
 have hm:(2^N-1)*2^S<2^32:=by
  have h1:(2^N-1)*2^S<2^N*2^S:=Nat.mul_lt_mul_of_pos_right (by have:=Nat.two_pow_pos N;omega) (Nat.two_pow_pos S);rw[←Nat.pow_add]at h1;exact Nat.lt_of_lt_of_le h1 (Nat.pow_le_pow_right dc om)
 have hy:Y*2^S<2^32:=by
  have h1:Y*2^S<2^N*2^S:=Nat.mul_lt_mul_of_pos_right hYb' (Nat.two_pow_pos S);rw[←Nat.pow_add]at h1;exact Nat.lt_of_lt_of_le h1 (Nat.pow_le_pow_right dc om)
 rw[e1,u32_andNot_nat V _ om hm,←Int.natCast_mul,u32_or_nat _ _ (Nat.lt_of_le_of_lt Nat.and_le_left hV) hy,qxa hV om hYb'];simp
theorem qr3{v s n:Int}(h:isF s n=true)(hv:0<=v/\v<4294967296):bits .and .u32 (v/pw s) (pw n-1)=ye v s n:=by
 obtain⟨hs,hs1,hn,hn1,hsn⟩:=vj.1 h;have hp:=ji s;refine qnv ⟨Int.ediv_nonneg hv.1 om,Int.lt_of_le_of_lt (Int.ediv_le_self _ hv.1) hv.2⟩ ⟨om,hn1⟩
theorem qec(s n:Int)(w:World):
 Calls prog 279 #[.int .i64 s,.int .i64 n] w fun e w'=>e= .returned (.bool (isF s n))/\w=w':=by
 by_cases h:0<=s/\s<=31/\1<=n/\n<=32
 . obtain⟨h1,h2,h3,h4⟩:=h
   have e:isF s n=decide (s+n<=32):=by simp[isF,h1,h2,h3,h4]
   have E:=zh e;clear e;go_enter func279, ntmps279;go_wp2;go_ret;exact⟨by rw[E.out];rfl,rfl⟩
 . have e:isF s n=false:=by
    have:¬(0<=s/\s<=31/\1<=n/\n<=32/\s+n<=32):=by omega
    simp[isF,this]
   have E:=zh e;have H:=zh h;clear e h
   by_cases h1:0<=s
   . by_cases h2:s<=31
     . by_cases h3:1<=n
       . have h4:32<n:=by have:=H.out;omega
         go_enter func279, ntmps279;go_wp2;go_ret;exact⟨by rw[E.out];rfl,rfl⟩
       . have h4:n<1:=by omega
         go_enter func279, ntmps279;go_wp2;go_ret;exact⟨by rw[E.out];rfl,rfl⟩
     . have h4:31<s:=by omega
       go_enter func279, ntmps279;go_wp2;go_ret;exact⟨by rw[E.out];rfl,rfl⟩
   . have h4:s<0:=by omega
     go_enter func279, ntmps279;go_wp2;go_ret;exact⟨by rw[E.out];rfl,rfl⟩
theorem qwj(n:Int)(w:World)(h:1<=n/\n<=32):
 Calls prog 280 #[.int .i64 n] w fun e w'=>e= .returned (.int .u32 (pw n-1))/\w=w':=by
 have E:=zh (qsk h);obtain⟨h1,h2⟩:=h;go_enter func280, ntmps280;go_wp2;go_ret;exact⟨congrArg (fun x=>Ending.returned (.int .u32 x)) E.out,rfl⟩
theorem qep(s n:Int)(w:World)(h:isF s n=true):Calls prog 279 #[.int .i64 s,.int .i64 n] w fun e w'=>e= .returned (.bool true)/\w=w':=by
 have:=qec s n w;rwa [h]at this
theorem qfh(s n:Int)(w:World)(h:isF s n=false):Calls prog 279 #[.int .i64 s,.int .i64 n] w fun e w'=>e= .returned (.bool false)/\w=w':=by
 have:=qec s n w;rwa [h]at this
theorem qh1(n:Int)(w:World)(k:Nat)(h1:1<=n)(h2:n<=32):
 Calls prog 280 #[.int .i64 n] (w.drewN k) fun e w'=>e= .returned (.int .u32 (pw n-1))/\∃m,w'=w.drewN m:=
 (qwj n _ ⟨h1,h2⟩).mono fun _ _ ⟨he,hm⟩=>⟨he,k,hm.symm⟩
theorem zas(v s n:Int)(w:World)(h:isF s n=false):
 Calls prog 219 #[.int .u32 v,.int .i64 s,.int .i64 n] w fun e w'=>e= .returned (.int .u32 0)/\w=w':=by
 have H:=zh h;clear h;go_enter func219, ntmps219;go_wp2_with fail;refine(qfh s n _ H.out).mono ?_;rintro e w1 ⟨rfl,rfl⟩;go_wp2;go_ret;exact⟨rfl,rfl⟩
theorem qx7(v s n:Int)(w:World)(h:isF s n=true)(hv:0<=v/\v<4294967296):
 Calls prog 219 #[.int .u32 v,.int .i64 s,.int .i64 n] w fun e w'=>e= .returned (.int .u32 (ye v s n))/\Drew w w':=by
 have E:=zh (qr3 h hv);obtain⟨h1,h2,h3,h4,h5⟩:=vj.1 h;obtain⟨h6,h7⟩:=hv;have H:=zh h;clear h;go_enter func219, ntmps219;go_wp2_with fail;refine(qep s n _ H.out).mono ?_;rintro e w1 ⟨rfl,rfl⟩;go_wp2
 go_quiet ((exact qh1 _ _ _ h3 h4))
 go_wp2;go_ret;exact⟨congrArg (fun x=>Ending.returned (.int .u32 x)) E.out,Drew.n _ _⟩
theorem qd8(v s n:Int)(w:World)(hv:0<=v/\v<4294967296):
 Calls prog 219 #[.int .u32 v,.int .i64 s,.int .i64 n] w fun e w'=>e= .returned (.int .u32 (qdw v s n))/\Drew w w':=by
 cases h:isF s n
 . refine(zas v s n w h).mono fun e w' ⟨he,hw⟩=>⟨?_,Drew.of_eq hw⟩;rw[he];simp[qdw,h]
 . refine(qx7 v s n w h hv).mono fun e w' ⟨he,hw⟩=>⟨?_,hw⟩;rw[he];simp[qdw,h]
def Whats(B:Nat)(A:Option Addr)(w:World)(V:Value)(l:List Int):Prop:=∃(Z:Option Addr) (c:Nat),V= .slice Z l.length c/\∀w',Only (qd B A) w w'->∀i x,l[i]? =some x->∃b o,Z=some ⟨b,o,none⟩/\w'.cell? ⟨b,o+i,none⟩=some (.int .i64 x)
theorem Whats.move{B:Nat}{A:Option Addr}{w w':World}{V:Value}{l:List Int}(h:Whats B A w V l)(ho:Only (qd B A) w w'):Whats B A w' V l:=by
 obtain⟨Z,c,e,h⟩:=h;exact⟨Z,c,e,fun w2 h2=>h w2 (ho.trans h2)⟩
theorem qgt(l:List Int):∀r:LS,(r.notes l).ns.length=r.ns.length+l.length:=by
 induction l with
 |nil=>intro r;rfl
 |cons x l ih=>
  intro r;show((r.note x 0).notes l).ns.length=_;rw[ih];simp only[LS.note,List.length_append,List.length_cons,List.length_nil];omega
theorem qbc{r:LS}{l:List Int}{k:Nat}{x:Int}(h:l[k]? =some x):r.notes (l.take (k+1))=(r.notes (l.take k)).note x 0:=by
 unfold LS.notes;rw[List.take_add_one,h,List.foldl_append];rfl
theorem vz{B:Nat}{p A:Option Addr}{cp:Nat}{nv:Value}{r:LS}{w:World}(h:RunP w B p A cp nv r)(x:Int):Whats B A (w.alloc (.cells #[.int .i64 x] 3)) (.slice (some ⟨w.heap.size,0,none⟩) 1 1) [x]:=by
 have h8:=h.keep ((Only.refl Nil w).alloc (.cells #[.int .i64 x] 3));have hr:=Row.new w 3 #[.int .i64 x]
 exact⟨_,_,rfl,fun w' ho i y hi=>⟨w.heap.size,0,rfl,by
  match i,hi with
  |0,hi=>cases hi;exact(h8.aside hr ho yv).cell_ (i:=0) rfl
  |i+1,hi=>simp at hi⟩⟩
theorem qie{B:Nat}{p A:Option Addr}{cp:Nat}{nv:Value}{r:LS}{w:World}(h:RunP w B p A cp nv r)(x z:Int):Whats B A (w.alloc (.cells #[.int .i64 x,.int .i64 z] 3)) (.slice (some ⟨w.heap.size,0,none⟩) 2 2) [x,z]:=by
 have h8:=h.keep ((Only.refl Nil w).alloc (.cells #[.int .i64 x,.int .i64 z] 3));have hr:=Row.new w 3 #[.int .i64 x,.int .i64 z]
 exact⟨_,_,rfl,fun w' ho i y hi=>⟨w.heap.size,0,rfl,by
  match i,hi with
  |0,hi=>cases hi;exact(h8.aside hr ho yv).cell_ (i:=0) rfl
  |1,hi=>cases hi;exact(h8.aside hr ho yv).cell_ (i:=1) rfl
  |i+2,hi=>simp at hi⟩⟩
theorem qal(n i:Int)(w:World):
 Calls prog 289 #[.agg #[.int .i64 n],.int .i64 i] w fun e w'=>e= .returned (.int .i64 (yc n 0 i))/\Only Nil w w':=by
 go_enter func289, ntmps289;go_wp2_with fail;refine(qdf n 0 i _ om).mono ?_;rintro e w1 ⟨rfl,hO⟩;have HO:=zh hO;clear hO;go_wp2;go_ret;exact⟨rfl,(Only.alloc (Only.refl _ _) _).trans HO.out⟩
theorem qbr(n i:Int)(w:World):
 Calls prog 286 #[.agg #[.int .i64 n],.int .i64 i] w fun e w'=>e= .returned (.int .i64 (yc n 1 i))/\Only Nil w w':=by
 go_enter func286, ntmps286;go_wp2_with fail;refine(qdf n 1 i _ om).mono ?_;rintro e w1 ⟨rfl,hO⟩;have HO:=zh hO;clear hO;go_wp2;go_ret;exact⟨rfl,(Only.alloc (Only.refl _ _) _).trans HO.out⟩
section
variable(B:Nat)(p A:Option Addr)(cp:Nat)(nv:Value)(r:LS)(c x y:Int)(w:World)
theorem qka(h:RunP w B p A cp nv r):Calls prog 314 #[.pointer (some ⟨B,0,none⟩),.int .i64 c,.int .u32 x] w (qj B p A cp w (.int .u32 (qa r.xs c)) (r.doA 4 c x 0)):=by
 go_enter func314, ntmps314;go_wp2_with fail;refine(vr B p A cp nv r 4 c x 0 0 _ h rfl).mono ?_;rintro e w1 ⟨rfl,hO,hP⟩;have HO:=zh hO;have HP:=zh hP;clear hO hP h;go_wp2;go_ret;exact⟨rfl,HO.out,nv,HP.out⟩
end
theorem vp(B:Nat)(p A:Option Addr)(cp:Nat)(nv:Value)(r:LS)(w:World)(h:RunP w B p A cp nv r):Calls prog 291 #[Value.pointer (some ⟨B,0,none⟩)] w fun e w'=>e= .returned (.int .u32 r.me)/\w=w':=by
 have c3:w.cell? ⟨B,3,none⟩=some (.int .i64 r.task):=h.row.cell_ (i:=3) rfl;have HM:=zh (show r.me=(r.task+1)%4294967296 from rfl);clear h;go_enter func291, ntmps291;go_wp2;go_ret;exact⟨yl (by rw[HM.out];omega),rfl⟩
theorem qk8(B:Nat)(p A:Option Addr)(cp:Nat)(nv:Value)(r:LS)(w:World)(h:RunP w B p A cp nv r)(ha:0<=r.a/\r.a<4294967296):Calls prog 290 #[Value.pointer (some ⟨B,0,none⟩)] w fun e w'=>e= .returned (.int .i64 (r.a-1))/\w=w':=by
 have c6:w.cell? ⟨B,6,none⟩=some (.int .u32 r.a):=h.row.cell_ (i:=6) rfl;obtain⟨h0,h1⟩:=ha;clear h;go_enter func290, ntmps290;go_wp2;go_ret;exact⟨yl (by go_num),rfl⟩
theorem qjs(B:Nat)(p A:Option Addr)(cp:Nat)(nv:Value)(r:LS)(c x:Int)(w:World)(h:RunP w B p A cp nv r):
 Calls prog 288 #[Value.pointer (some ⟨B,0,none⟩),.int .i64 c,.int .u32 x] w (qj B p A cp w (.tuple #[]) ((r.doA 2 c x 0).wake c)):=by
 have HP:=zh h;clear h;go_enter func288, ntmps288;go_wp2_with fail;refine(qap B p A cp nv r c x _ HP.out).mono ?_;rintro e w1 ⟨rfl,hO,nv1,hP⟩;have HP1:=zh hP;have HO1:=zh hO;clear hO hP HP;go_wp2_with fail;refine(qg6 B p A cp nv1 _ c _ HP1.out).mono ?_;rintro e w2 ⟨rfl,hO,nv2,hP⟩;have HP2:=zh hP;have HO2:=zh (HO1.out.trans hO);clear hO hP;go_wp2;go_returns;exact⟨rfl,HO2.out,nv2,HP2.out⟩
theorem qgy(B:Nat)(p A:Option Addr)(cp:Nat)(nv:Value)(r:LS)(l:Int)(w:World)(h:RunP w B p A cp nv r):
 Calls prog 285 #[Value.pointer (some ⟨B,0,none⟩),.int .i64 l] w (qj B p A cp w (.tuple #[]) ((r.doA 2 (nc r.n r.task) 0 0).go l)):=by
 have HP:=zh h;clear h;go_enter func285, ntmps285
 go_upto_region 0 with(fail)
 have c1:w.cell? ⟨B,1,none⟩=some (.int .i64 r.n):=HP.out.row.cell_ (i:=1) rfl;have c3:w.cell? ⟨B,3,none⟩=some (.int .i64 r.task):=HP.out.row.cell_ (i:=3) rfl;refine qb (n:=11) 10 (fun w=>w.cell? ⟨B,1,none⟩=some (.int .i64 r.n)/\w.cell? ⟨B,3,none⟩=some (.int .i64 r.task)) rfl kr ⟨c1,c3⟩ (fun hHeld=> ?_);have HP0:=zh (HP.out.keep (Only.refl Nil w).drew);have HO0:=zh ((Only.refl (qd B A) w).drew);clear c1 c3 HP;generalize w.drew=w0 at *;refine za 0 rfl ?_;refine za 1 rfl ?_;refine za 2 rfl ?_;refine za 3 rfl ?_;refine zt 4 rfl ?_;refine za 5 rfl ?_;refine za 6 rfl ?_;refine za 7 rfl ?_;refine zt 8 rfl ?_;refine mpc 9 rfl kr br (fun K hK=> ?_);go_simp;refine(qal r.n r.task _).mono ?_;rintro e w1 ⟨rfl,hO⟩;have HP1:=zh (HP0.out.keep hO);have HO1:=zh (HO0.out.trans (hO.mono (T:=qd B A) (fun _ _ h=>h.elim)));have hHeld2:w1.cell? ⟨B,1,none⟩=some (.int .i64 r.n)/\w1.cell? ⟨B,3,none⟩=some (.int .i64 r.task):=⟨HP1.out.row.cell_ (i:=1) rfl,HP1.out.row.cell_ (i:=3) rfl⟩;refine hK.out _ _ (.inr hHeld2) ?_;clear hK K hHeld hO HP0 HO0;refine mpc 10 rfl kr br (fun K hK=> ?_);go_simp;refine(qap B p A cp nv r (nc r.n r.task) 0 _ HP1.out).mono ?_;rintro e w2 ⟨rfl,hO,nv2,hP⟩;have HP2:=zh hP;have HO2:=zh (HO1.out.trans hO);refine hK.out _ _ (.inl kr) ?_;clear hK K hHeld2 hO hP HP1 HO1;refine qc kr ?_ _;go_wp2_with fail;refine(qag B p A cp nv2 _ l _ HP2.out).mono ?_;rintro e w3 ⟨rfl,hO,nv3,hP⟩;have HP3:=zh hP;have HO3:=zh (HO2.out.trans hO);clear hO hP;go_wp2;go_returns;exact⟨rfl,HO3.out,nv3,HP3.out⟩
theorem qtc(B:Nat)(p A:Option Addr)(cp:Nat)(nv:Value)(r:LS)(tail cl l:Int)(w:World)(h:RunP w B p A cp nv r)(hl:r.ns.length<=900)(hz:qa r.xs tail=0):
 Calls prog 287 #[Value.pointer (some ⟨B,0,none⟩),.int .i64 tail,.int .i64 cl,.int .i64 l] w (qj B p A cp w (.bool true) (r.swapIn tail cl)):=by
 have HZ:=zh hz;have HL:=zh hl;have HP:=zh h;clear h hz hl;go_enter func287, ntmps287;go_wp2_with fail;refine(vp B p A cp nv r _ HP.out).mono ?_;rintro e w1 ⟨rfl,rfl⟩;go_wp2_with fail;refine(qka B p A cp nv r tail r.me _ HP.out).mono ?_;rintro e w2 ⟨rfl,hO,nv2,hP⟩;have HP2:=zh hP;have HO2:=zh hO;clear hO hP HP;have c6:w2.cell? ⟨B,6,none⟩=some (.int .u32 r.a):=HP2.out.row.cell_ (i:=6) rfl;have f6:w2.frozen? ⟨B,6,none⟩=false:=HP2.out.row.frozen 6
 go_upto_region 2 with(fail)
 have HP3:=zh (HP2.out.setA (qa r.xs tail));have HO3:=zh (HO2.out.setCell (p:=⟨B,6,none⟩) (.inr (.inl rfl)) (.int .u32 (qa r.xs tail)));clear c6 f6 HP2 HO2;generalize w2.setCell ⟨B,6,none⟩ (.int .u32 (qa r.xs tail))=w3 at *;go_wp2_with fail;refine(qc7 B p A cp nv2 _ 2 cl _ HP3.out (show(r.doA 4 tail r.me 0).ns.length<=1000 from Nat.le_trans HL.out dc)).mono ?_;rintro e w4 ⟨rfl,hO,nv4,hP⟩;have HP4:Hid (RunP w4 B p A cp nv4 (r.swapIn tail cl)):=zh hP;have HO4:=zh (HO3.out.trans hO);clear hO hP HP3 HO3;have c6:w4.cell? ⟨B,6,none⟩=some (.int .u32 (qa r.xs tail)):=HP4.out.row.cell_ (i:=6) rfl;rw[HZ.out]at c6;go_wp2;go_ret;exact⟨rfl,HO4.out,nv4,HP4.out⟩
theorem qi3(B:Nat)(p A:Option Addr)(cp:Nat)(nv:Value)(r:LS)(tail cl l:Int)(w:World)(h:RunP w B p A cp nv r)(hl:r.ns.length<=900)(hz:qa r.xs tail≠0):
 Calls prog 287 #[Value.pointer (some ⟨B,0,none⟩),.int .i64 tail,.int .i64 cl,.int .i64 l] w (qj B p A cp w (.bool false) ((r.swapIn tail cl).go l)):=by
 have HZ:=zh hz;have HL:=zh hl;have HP:=zh h;clear h hz hl;go_enter func287, ntmps287;go_wp2_with fail;refine(vp B p A cp nv r _ HP.out).mono ?_;rintro e w1 ⟨rfl,rfl⟩;go_wp2_with fail;refine(qka B p A cp nv r tail r.me _ HP.out).mono ?_;rintro e w2 ⟨rfl,hO,nv2,hP⟩;have HP2:=zh hP;have HO2:=zh hO;clear hO hP HP;have c6:w2.cell? ⟨B,6,none⟩=some (.int .u32 r.a):=HP2.out.row.cell_ (i:=6) rfl;have f6:w2.frozen? ⟨B,6,none⟩=false:=HP2.out.row.frozen 6
 go_upto_region 2 with(fail)
 have HP3:=zh (HP2.out.setA (qa r.xs tail));have HO3:=zh (HO2.out.setCell (p:=⟨B,6,none⟩) (.inr (.inl rfl)) (.int .u32 (qa r.xs tail)));clear c6 f6 HP2 HO2;generalize w2.setCell ⟨B,6,none⟩ (.int .u32 (qa r.xs tail))=w3 at *;go_wp2_with fail;refine(qc7 B p A cp nv2 _ 2 cl _ HP3.out (show(r.doA 4 tail r.me 0).ns.length<=1000 from Nat.le_trans HL.out dc)).mono ?_;rintro e w4 ⟨rfl,hO,nv4,hP⟩;have HP4:Hid (RunP w4 B p A cp nv4 (r.swapIn tail cl)):=zh hP;have HO4:=zh (HO3.out.trans hO);clear hO hP HP3 HO3;have c6:w4.cell? ⟨B,6,none⟩=some (.int .u32 (qa r.xs tail)):=HP4.out.row.cell_ (i:=6) rfl;have hb:(qa r.xs tail==0)=false:=beq_eq_false_iff_ne.2 HZ.out;generalize qa r.xs tail=x at *;go_wp2_with fail;clear c6 hb;refine(qag B p A cp nv4 _ l _ HP4.out).mono ?_;rintro e w5 ⟨rfl,hO,nv5,hP⟩;have HP5:=zh hP;have HO5:=zh (HO4.out.trans hO);clear hO hP;go_wp2;go_ret;exact⟨rfl,HO5.out,nv5,HP5.out⟩
theorem qq9(B:Nat)(p A:Option Addr)(cp:Nat)(nv:Value)(r:LS)(tail l:Int)(w:World)(h:RunP w B p A cp nv r)(ht:r.casOut tail=true):
 Calls prog 294 #[Value.pointer (some ⟨B,0,none⟩),.int .i64 tail,.int .i64 l] w (qj B p A cp w (.bool true) (r.doA 5 tail r.me 0)):=by
 have HQ:=zh (show r.casOut tail=(qf r.xs tail && (qa r.xs tail==r.me))from rfl);have HT:=zh ht;have HP:=zh h;clear h ht;go_enter func294, ntmps294;go_wp2_with fail;refine(vp B p A cp nv r _ HP.out).mono ?_;rintro e w1 ⟨rfl,rfl⟩;go_wp2_with fail;refine(qdd B p A cp nv r tail r.me 0 _ HP.out).mono ?_;rw[←HQ.out,HT.out];rintro e w2 ⟨rfl,hO,nv2,hP⟩;have HP2:=zh hP;have HO2:=zh hO;clear hO hP HP;go_wp2;go_ret;exact⟨rfl,HO2.out,nv2,HP2.out⟩
theorem qux(B:Nat)(p A:Option Addr)(cp:Nat)(nv:Value)(r:LS)(tail l:Int)(w:World)(h:RunP w B p A cp nv r)(ht:r.casOut tail=false):
 Calls prog 294 #[Value.pointer (some ⟨B,0,none⟩),.int .i64 tail,.int .i64 l] w (qj B p A cp w (.bool false) ((r.doA 5 tail r.me 0).go l)):=by
 have HQ:=zh (show r.casOut tail=(qf r.xs tail && (qa r.xs tail==r.me))from rfl);have HT:=zh ht;have HP:=zh h;clear h ht;go_enter func294, ntmps294;go_wp2_with fail;refine(vp B p A cp nv r _ HP.out).mono ?_;rintro e w1 ⟨rfl,rfl⟩;go_wp2_with fail;refine(qdd B p A cp nv r tail r.me 0 _ HP.out).mono ?_;rw[←HQ.out,HT.out];rintro e w2 ⟨rfl,hO,nv2,hP⟩;have HP2:=zh hP;have HO2:=zh hO;clear hO hP HP;go_wp2_with fail;refine(qag B p A cp nv2 _ l _ HP2.out).mono ?_;rintro e w3 ⟨rfl,hO,nv3,hP⟩;have HP3:=zh hP;have HO3:=zh (HO2.out.trans hO);clear hO hP;go_wp2;go_ret;exact⟨rfl,HO3.out,nv3,HP3.out⟩
theorem qq6(B:Nat)(p A:Option Addr)(cp:Nat)(nv:Value)(r:LS)(l0 l1:Int)(w:World)(h:RunP w B p A cp nv r)(hz:qa r.xs (nc r.n r.task)=0):
 Calls prog 293 #[Value.pointer (some ⟨B,0,none⟩),.int .i64 l0,.int .i64 l1] w (qj B p A cp w (.tuple #[]) (r.peek.go l0)):=by
 have HZ:=zh hz;have HP:=zh h;clear h hz;go_enter func293, ntmps293
 go_upto_region 0 with(fail)
 have c1:w.cell? ⟨B,1,none⟩=some (.int .i64 r.n):=HP.out.row.cell_ (i:=1) rfl;have c3:w.cell? ⟨B,3,none⟩=some (.int .i64 r.task):=HP.out.row.cell_ (i:=3) rfl;refine qb (n:=16) 11 (fun w=>w.cell? ⟨B,1,none⟩=some (.int .i64 r.n)/\w.cell? ⟨B,3,none⟩=some (.int .i64 r.task)) rfl kr ⟨c1,c3⟩ (fun hHeld=> ?_);have HP0:=zh (HP.out.keep (Only.refl Nil w).drew);have HO0:=zh ((Only.refl (qd B A) w).drew);clear c1 c3 HP;generalize w.drew=w0 at *;refine za 0 rfl ?_;refine za 1 rfl ?_;refine za 2 rfl ?_;refine za 3 rfl ?_;refine za 4 rfl ?_;refine zt 5 rfl ?_;refine za 6 rfl ?_;refine za 7 rfl ?_;refine za 8 rfl ?_;refine zt 9 rfl ?_;refine mpc 10 rfl kr br (fun K hK=> ?_);go_simp;refine(qal r.n r.task _).mono ?_;rintro e w1 ⟨rfl,hO⟩;have HP1:=zh (HP0.out.keep hO);have HO1:=zh (HO0.out.trans (hO.mono (T:=qd B A) (fun _ _ h=>h.elim)));have hHeld2:w1.cell? ⟨B,1,none⟩=some (.int .i64 r.n)/\w1.cell? ⟨B,3,none⟩=some (.int .i64 r.task):=⟨HP1.out.row.cell_ (i:=1) rfl,HP1.out.row.cell_ (i:=3) rfl⟩;refine hK.out _ _ (.inr hHeld2) ?_;clear hK K hHeld hO HP0 HO0;refine mpc 11 rfl kr br (fun K hK=> ?_);go_simp;refine(qd6 B p A cp nv r (nc r.n r.task) _ HP1.out).mono ?_;rintro e w2 ⟨rfl,hO,nv2,hP⟩;have HP2:=zh hP;have HO2:=zh (HO1.out.trans hO);refine hK.out _ _ (.inl kr) ?_;clear hK K hHeld2 hO hP HP1 HO1;refine za 12 rfl ?_;refine za 13 rfl ?_;refine za 14 rfl ?_;have c6:w2.cell? ⟨B,6,none⟩=some (.int .u32 r.a):=HP2.out.row.cell_ (i:=6) rfl;have f6:w2.frozen? ⟨B,6,none⟩=false:=HP2.out.row.frozen 6;refine mpc 15 rfl kr br (fun K hK=> ?_);go_simp;have HP3:Hid (RunP (w2.setCell ⟨B,6,none⟩ (.int .u32 (qa r.xs (nc r.n r.task)))) B p A cp nv2 r.peek):=zh (HP2.out.setA (qa r.xs (nc r.n r.task)));have HO3:=zh (HO2.out.setCell (p:=⟨B,6,none⟩) (.inr (.inl rfl)) (.int .u32 (qa r.xs (nc r.n r.task))));refine hK.out _ _ (.inl kr) ?_;clear hK K c6 f6 HP2 HO2;generalize w2.setCell ⟨B,6,none⟩ (.int .u32 (qa r.xs (nc r.n r.task)))=w3 at *;refine qc kr ?_ _;have c6:w3.cell? ⟨B,6,none⟩=some (.int .u32 (qa r.xs (nc r.n r.task))):=HP3.out.row.cell_ (i:=6) rfl;rw[HZ.out]at c6;go_wp2_with fail;clear c6;refine(qag B p A cp nv2 _ l0 _ HP3.out).mono ?_;rintro e w4 ⟨rfl,hO,nv4,hP⟩;have HP4:=zh hP;have HO4:=zh (HO3.out.trans hO);clear hO hP;go_wp2;go_returns;exact⟨rfl,HO4.out,nv4,HP4.out⟩
theorem qsz(B:Nat)(p A:Option Addr)(cp:Nat)(nv:Value)(r:LS)(l0 l1:Int)(w:World)(h:RunP w B p A cp nv r)(hz:qa r.xs (nc r.n r.task)≠0):
 Calls prog 293 #[Value.pointer (some ⟨B,0,none⟩),.int .i64 l0,.int .i64 l1] w (qj B p A cp w (.tuple #[]) (r.peek.go l1)):=by
 have HZ:=zh hz;have HP:=zh h;clear h hz;go_enter func293, ntmps293
 go_upto_region 0 with(fail)
 have c1:w.cell? ⟨B,1,none⟩=some (.int .i64 r.n):=HP.out.row.cell_ (i:=1) rfl;have c3:w.cell? ⟨B,3,none⟩=some (.int .i64 r.task):=HP.out.row.cell_ (i:=3) rfl;refine qb (n:=16) 11 (fun w=>w.cell? ⟨B,1,none⟩=some (.int .i64 r.n)/\w.cell? ⟨B,3,none⟩=some (.int .i64 r.task)) rfl kr ⟨c1,c3⟩ (fun hHeld=> ?_);have HP0:=zh (HP.out.keep (Only.refl Nil w).drew);have HO0:=zh ((Only.refl (qd B A) w).drew);clear c1 c3 HP;generalize w.drew=w0 at *;refine za 0 rfl ?_;refine za 1 rfl ?_;refine za 2 rfl ?_;refine za 3 rfl ?_;refine za 4 rfl ?_;refine zt 5 rfl ?_;refine za 6 rfl ?_;refine za 7 rfl ?_;refine za 8 rfl ?_;refine zt 9 rfl ?_;refine mpc 10 rfl kr br (fun K hK=> ?_);go_simp;refine(qal r.n r.task _).mono ?_;rintro e w1 ⟨rfl,hO⟩;have HP1:=zh (HP0.out.keep hO);have HO1:=zh (HO0.out.trans (hO.mono (T:=qd B A) (fun _ _ h=>h.elim)));have hHeld2:w1.cell? ⟨B,1,none⟩=some (.int .i64 r.n)/\w1.cell? ⟨B,3,none⟩=some (.int .i64 r.task):=⟨HP1.out.row.cell_ (i:=1) rfl,HP1.out.row.cell_ (i:=3) rfl⟩;refine hK.out _ _ (.inr hHeld2) ?_;clear hK K hHeld hO HP0 HO0;refine mpc 11 rfl kr br (fun K hK=> ?_);go_simp;refine(qd6 B p A cp nv r (nc r.n r.task) _ HP1.out).mono ?_;rintro e w2 ⟨rfl,hO,nv2,hP⟩;have HP2:=zh hP;have HO2:=zh (HO1.out.trans hO);refine hK.out _ _ (.inl kr) ?_;clear hK K hHeld2 hO hP HP1 HO1;refine za 12 rfl ?_;refine za 13 rfl ?_;refine za 14 rfl ?_;have c6:w2.cell? ⟨B,6,none⟩=some (.int .u32 r.a):=HP2.out.row.cell_ (i:=6) rfl;have f6:w2.frozen? ⟨B,6,none⟩=false:=HP2.out.row.frozen 6;refine mpc 15 rfl kr br (fun K hK=> ?_);go_simp;have HP3:Hid (RunP (w2.setCell ⟨B,6,none⟩ (.int .u32 (qa r.xs (nc r.n r.task)))) B p A cp nv2 r.peek):=zh (HP2.out.setA (qa r.xs (nc r.n r.task)));have HO3:=zh (HO2.out.setCell (p:=⟨B,6,none⟩) (.inr (.inl rfl)) (.int .u32 (qa r.xs (nc r.n r.task))));refine hK.out _ _ (.inl kr) ?_;clear hK K c6 f6 HP2 HO2;generalize w2.setCell ⟨B,6,none⟩ (.int .u32 (qa r.xs (nc r.n r.task)))=w3 at *;refine qc kr ?_ _;have c6:w3.cell? ⟨B,6,none⟩=some (.int .u32 (qa r.xs (nc r.n r.task))):=HP3.out.row.cell_ (i:=6) rfl;have hb:(qa r.xs (nc r.n r.task)==0)=false:=beq_eq_false_iff_ne.2 HZ.out;generalize qa r.xs (nc r.n r.task)=x at *;go_wp2_with fail;clear c6 hb;refine(qag B p A cp nv2 _ l1 _ HP3.out).mono ?_;rintro e w4 ⟨rfl,hO,nv4,hP⟩;have HP4:=zh hP;have HO4:=zh (HO3.out.trans hO);clear hO hP;go_wp2;go_returns;exact⟨rfl,HO4.out,nv4,HP4.out⟩
theorem qww(v:Int)(w:World):Calls prog 292 #[.int .u32 v] w fun e w'=>e= .returned (.bool (v==0))/\w=w':=by
 go_enter func292, ntmps292;go_wp2;go_ret;exact⟨rfl,rfl⟩
theorem holds_zero:HoldsAny (.func (.func 292) #[] #[]) isZ:=by
 intro v w h0 h1;have hn:=qa5
 go_enter_defers func311, ntmps311
 go_wp2_with fail;refine(qww v _).mono ?_;rintro e w1 ⟨rfl,rfl⟩;have HQ:=zh (show isZ v=(v==0)from rfl);generalize hq:(v==0)=q at *;clear hq;go_wp2;refine leaves_cons (f:= 319) (args:= #[]) (by simp) (by simp[go_sem]) ?_;refine(jp _).mono ?_;rintro e u' w'' ⟨rfl,rfl,rfl⟩;exact⟨_,results_tmp rfl _ _ _,by rw[HQ.out];rfl,Only.refl _ _⟩
theorem qhr(B:Nat)(w:World):Calls prog 315 #[.pointer (some ⟨B,4,none⟩)] w fun e w'=>
 e= .returned (.func (.func 320) #[] #[.pointer (some ⟨w.heap.size,0,none⟩)])/\Row w' w.heap.size 177 #[.pointer (some ⟨B,4,none⟩)]/\Only Nil w w':=by
 have HR:=zh (Row.new w 177 #[.pointer (some ⟨B,4,none⟩)]);have HO:=zh ((Only.refl Nil w).alloc (.cells #[.pointer (some ⟨B,4,none⟩)] 177));go_enter func315, ntmps315;go_wp2;go_ret;exact⟨rfl,HR.out,HO.out⟩
theorem qus(B gt:Nat)(r:LS)(hv nv:Value)(v:Int)(w:World)(hb:Row w gt 177 #[.pointer (some ⟨B,4,none⟩)])(hr:Row w B 108 (r.cells hv nv))(hq:isN v=true):
 Calls prog 320 #[.int .u32 v,.pointer (some ⟨gt,0,none⟩)] w fun e w'=>e= .returned (.bool true)/\Only (· =B) w w'/\Row w' B 108 ((r.keepA v).cells hv nv):=by
 have b0:w.cell? ⟨gt,0,none⟩=some (.pointer (some ⟨B,4,none⟩)):=hb.cell_ (i:=0) rfl;have c6:w.cell? ⟨B,6,none⟩=some (.int .u32 r.a):=hr.cell_ (i:=6) rfl;have f6:w.frozen? ⟨B,6,none⟩=false:=hr.frozen 6;have HR:=zh (show Row (w.setCell ⟨B,6,none⟩ (.int .u32 v)) B 108 ((r.keepA v).cells hv nv)from hr.set 6 (.int .u32 v));have HO:=zh ((Only.refl (· =B) w).setCell (p:=⟨B,6,none⟩) (.inr rfl) (.int .u32 v));have hv0:(v !=0)=true:=hq
 have hv1:(v==0)=false:=by simpa using hv0
 clear hb hr hq;go_enter func320, ntmps320;go_wp2;go_ret;exact⟨yx (by simp[hv1]),HO.out,HR.out⟩
theorem qvd(B gt:Nat)(r:LS)(hv nv:Value)(v:Int)(w:World)(hr:Row w B 108 (r.cells hv nv))(hq:isN v=false):
 Calls prog 320 #[.int .u32 v,.pointer (some ⟨gt,0,none⟩)] w fun e w'=>e= .returned (.bool false)/\Only (· =B) w w'/\Row w' B 108 (r.cells hv nv):=by
 have HR:=zh hr
 obtain rfl:v=0:=by have:(v !=0)=false:=hq;simpa using this
 clear hr hq;go_enter func320, ntmps320;go_wp2;go_ret;exact⟨rfl,Only.refl _ _,HR.out⟩
theorem qfj(B gt:Nat)(p A:Option Addr)(cp:Nat)(nv:Value)(r:LS)(w:World)(h:RunP w B p A cp nv r)(hb:Row w gt 177 #[.pointer (some ⟨B,4,none⟩)]):
 HoldsK A B w (.func (.func 320) #[] #[.pointer (some ⟨gt,0,none⟩)]) isN (r.cells (.pointer p) nv) (fun v=>(r.keepA v).cells (.pointer p) nv):=by
 intro v w1 hO hr h0 h1;have hb1:Row w1 gt 177 #[.pointer (some ⟨B,4,none⟩)]:=h.aside hb hO.turned2 ⟨dc,dc,dc⟩;have hn:=qa5
 cases hq:isN v
 . show Calls prog 311 _ w1 (fun e w'=>e= .returned (.bool false)/\Only (· =B) w1 w'/\Row w' B 108 (r.cells (.pointer p) nv));have HT:=zh (qvd B gt r (.pointer p) nv v w1 hr hq);clear h hb hO hb1 hr hq
   go_enter_defers func311, ntmps311
   go_wp2_with fail;refine HT.out.mono ?_;rintro e w2 ⟨rfl,hO,hr⟩;have HO:=zh hO;have HR:=zh hr;clear hO hr HT;go_wp2;refine leaves_cons (f:= 319) (args:= #[]) (by simp) (by simp[go_sem]) ?_;refine(jp _).mono ?_;rintro e u' w'' ⟨rfl,rfl,rfl⟩;exact⟨_,results_tmp rfl _ _ _,rfl,HO.out,HR.out⟩
 . show Calls prog 311 _ w1 (fun e w'=>e= .returned (.bool true)/\Only (· =B) w1 w'/\Row w' B 108 ((r.keepA v).cells (.pointer p) nv));have HT:=zh (qus B gt r (.pointer p) nv v w1 hb1 hr hq);clear h hb hO hb1 hr hq
   go_enter_defers func311, ntmps311
   go_wp2_with fail;refine HT.out.mono ?_;rintro e w2 ⟨rfl,hO,hr⟩;have HO:=zh hO;have HR:=zh hr;clear hO hr HT;go_wp2;refine leaves_cons (f:= 319) (args:= #[]) (by simp) (by simp[go_sem]) ?_;refine(jp _).mono ?_;rintro e u' w'' ⟨rfl,rfl,rfl⟩;exact⟨_,results_tmp rfl _ _ _,rfl,HO.out,HR.out⟩
theorem qnr(r:LS):r.waitK (nc r.n r.task) isN=r.seeN:=by
 unfold LS.waitK LS.waitM LS.seeN LS.kept LS.kw
 cases(r.stepR (nc r.n r.task) isN).seen<;>rfl
theorem qud(B:Nat)(p A:Option Addr)(cp:Nat)(nv:Value)(r:LS)(l:Int)(w:World)(h:RunP w B p A cp nv r)(hx:Words r.xs)(hdn:(r.stepR (nc r.n r.task) isN).done=false):
 Calls prog 295 #[Value.pointer (some ⟨B,0,none⟩),.int .i64 l] w (qj B p A cp w (.tuple #[]) r.seeN):=by
 have HDN:=zh hdn;have HX:=zh hx;have HP:=zh h;clear h hx hdn;go_enter func295, ntmps295
 go_upto_region 0 with(fail)
 have c1:w.cell? ⟨B,1,none⟩=some (.int .i64 r.n):=HP.out.row.cell_ (i:=1) rfl;have c3:w.cell? ⟨B,3,none⟩=some (.int .i64 r.task):=HP.out.row.cell_ (i:=3) rfl;refine qb (n:=20) 14 (fun w=>w.cell? ⟨B,1,none⟩=some (.int .i64 r.n)/\w.cell? ⟨B,3,none⟩=some (.int .i64 r.task)) rfl kr ⟨c1,c3⟩ (fun hHeld=> ?_);have HP0:=zh (HP.out.keep (Only.refl Nil w).drew);have HO0:=zh ((Only.refl (qd B A) w).drew);clear c1 c3 HP;generalize w.drew=w0 at *;refine za 0 rfl ?_;refine za 1 rfl ?_;refine za 2 rfl ?_;refine za 3 rfl ?_;refine zt 4 rfl ?_;refine za 5 rfl ?_;refine za 6 rfl ?_;refine za 7 rfl ?_;refine zt 8 rfl ?_;refine za 10 rfl ?_;refine za 11 rfl ?_;refine za 12 rfl ?_;refine mpc 9 rfl kr br (fun K hK=> ?_);go_simp;refine(qal r.n r.task _).mono ?_;rintro e w1 ⟨rfl,hO⟩;have HP1:=zh (HP0.out.keep hO);have HO1:=zh (HO0.out.trans (hO.mono (T:=qd B A) (fun _ _ h=>h.elim)));have hHeld2:w1.cell? ⟨B,1,none⟩=some (.int .i64 r.n)/\w1.cell? ⟨B,3,none⟩=some (.int .i64 r.task):=⟨HP1.out.row.cell_ (i:=1) rfl,HP1.out.row.cell_ (i:=3) rfl⟩;refine hK.out _ _ (.inr hHeld2) ?_;clear hK K hHeld hO HP0 HO0;refine mpc 13 rfl kr br (fun K hK=> ?_);go_simp;refine(qhr B _).mono ?_;rintro e w2 ⟨rfl,hb,hO⟩;have HP2:=zh (HP1.out.keep hO);have HO2:=zh (HO1.out.trans (hO.mono (T:=qd B A) (fun _ _ h=>h.elim)));have HF:=zh (qfj B w1.heap.size p A cp nv r _ HP2.out hb);have hHeld3:w2.cell? ⟨B,1,none⟩=some (.int .i64 r.n)/\w2.cell? ⟨B,3,none⟩=some (.int .i64 r.task):=⟨HP2.out.row.cell_ (i:=1) rfl,HP2.out.row.cell_ (i:=3) rfl⟩;generalize w1.heap.size=g1 at *;refine hK.out _ _ (.inr hHeld3) ?_;clear hK K hHeld2 hO hb HP1 HO1;refine mpc 14 rfl kr br (fun K hK=> ?_);go_simp;refine(qdx B p A cp nv r (nc r.n r.task) (.func 320) #[] #[.pointer (some ⟨g1,0,none⟩)] isN _ HP2.out HF.out HX.out).mono ?_;rw[qnr,HDN.out];rintro e w3 ⟨rfl,hO,nv3,hP⟩;have HP3:=zh hP;have HO3:=zh (HO2.out.trans hO);generalize (r.stepR (nc r.n r.task) isN).seen=sn at *;refine hK.out _ _ (.inl kr) ?_;clear hK K hHeld3 hO hP HP2 HO2 HF;refine za 15 rfl ?_;refine za 16 rfl ?_;refine za 17 rfl ?_;refine za 18 rfl ?_;refine za 19 rfl ?_;refine qc kr ?_ _;go_wp2;go_returns;exact⟨rfl,HO3.out,nv3,HP3.out⟩
theorem qp7(B:Nat)(p A:Option Addr)(cp:Nat)(nv:Value)(r:LS)(l:Int)(w:World)(h:RunP w B p A cp nv r)(hx:Words r.xs)(hdn:(r.stepR (nc r.n r.task) isN).done=true):
 Calls prog 295 #[Value.pointer (some ⟨B,0,none⟩),.int .i64 l] w (qj B p A cp w (.tuple #[]) (r.seeN.go l)):=by
 have HDN:=zh hdn;have HX:=zh hx;have HP:=zh h;clear h hx hdn;go_enter func295, ntmps295
 go_upto_region 0 with(fail)
 have c1:w.cell? ⟨B,1,none⟩=some (.int .i64 r.n):=HP.out.row.cell_ (i:=1) rfl;have c3:w.cell? ⟨B,3,none⟩=some (.int .i64 r.task):=HP.out.row.cell_ (i:=3) rfl;refine qb (n:=20) 14 (fun w=>w.cell? ⟨B,1,none⟩=some (.int .i64 r.n)/\w.cell? ⟨B,3,none⟩=some (.int .i64 r.task)) rfl kr ⟨c1,c3⟩ (fun hHeld=> ?_);have HP0:=zh (HP.out.keep (Only.refl Nil w).drew);have HO0:=zh ((Only.refl (qd B A) w).drew);clear c1 c3 HP;generalize w.drew=w0 at *;refine za 0 rfl ?_;refine za 1 rfl ?_;refine za 2 rfl ?_;refine za 3 rfl ?_;refine zt 4 rfl ?_;refine za 5 rfl ?_;refine za 6 rfl ?_;refine za 7 rfl ?_;refine zt 8 rfl ?_;refine za 10 rfl ?_;refine za 11 rfl ?_;refine za 12 rfl ?_;refine mpc 9 rfl kr br (fun K hK=> ?_);go_simp;refine(qal r.n r.task _).mono ?_;rintro e w1 ⟨rfl,hO⟩;have HP1:=zh (HP0.out.keep hO);have HO1:=zh (HO0.out.trans (hO.mono (T:=qd B A) (fun _ _ h=>h.elim)));have hHeld2:w1.cell? ⟨B,1,none⟩=some (.int .i64 r.n)/\w1.cell? ⟨B,3,none⟩=some (.int .i64 r.task):=⟨HP1.out.row.cell_ (i:=1) rfl,HP1.out.row.cell_ (i:=3) rfl⟩;refine hK.out _ _ (.inr hHeld2) ?_;clear hK K hHeld hO HP0 HO0;refine mpc 13 rfl kr br (fun K hK=> ?_);go_simp;refine(qhr B _).mono ?_;rintro e w2 ⟨rfl,hb,hO⟩;have HP2:=zh (HP1.out.keep hO);have HO2:=zh (HO1.out.trans (hO.mono (T:=qd B A) (fun _ _ h=>h.elim)));have HF:=zh (qfj B w1.heap.size p A cp nv r _ HP2.out hb);have hHeld3:w2.cell? ⟨B,1,none⟩=some (.int .i64 r.n)/\w2.cell? ⟨B,3,none⟩=some (.int .i64 r.task):=⟨HP2.out.row.cell_ (i:=1) rfl,HP2.out.row.cell_ (i:=3) rfl⟩;generalize w1.heap.size=g1 at *;refine hK.out _ _ (.inr hHeld3) ?_;clear hK K hHeld2 hO hb HP1 HO1;refine mpc 14 rfl kr br (fun K hK=> ?_);go_simp;refine(qdx B p A cp nv r (nc r.n r.task) (.func 320) #[] #[.pointer (some ⟨g1,0,none⟩)] isN _ HP2.out HF.out HX.out).mono ?_;rw[qnr,HDN.out];rintro e w3 ⟨rfl,hO,nv3,hP⟩;have HP3:=zh hP;have HO3:=zh (HO2.out.trans hO);generalize (r.stepR (nc r.n r.task) isN).seen=sn at *;refine hK.out _ _ (.inl kr) ?_;clear hK K hHeld3 hO hP HP2 HO2 HF;refine za 15 rfl ?_;refine za 16 rfl ?_;refine za 17 rfl ?_;refine za 18 rfl ?_;refine za 19 rfl ?_;refine qc kr ?_ _;go_wp2_with fail;refine(qag B p A cp nv3 _ l _ HP3.out).mono ?_;rintro e w4 ⟨rfl,hO,nv4,hP⟩;have HP4:=zh hP;have HO4:=zh (HO3.out.trans hO);clear hO hP;go_wp2;go_returns;exact⟨rfl,HO4.out,nv4,HP4.out⟩
theorem qgw(B:Nat)(p A:Option Addr)(cp:Nat)(nv:Value)(r:LS)(V:Value)(l:List Int)(w:World)(h:RunP w B p A cp nv r)(hw:Whats B A w V l)(hl:r.ns.length+l.length<=1000):
 Calls prog 296 #[Value.pointer (some ⟨B,0,none⟩),V] w (qj B p A cp w (.tuple #[]) (r.notes l)):=by
 obtain⟨Z,c,rfl,hz⟩:=hw;generalize hm:l.length=m at *;have HM:=zh hm;have HZ:=zh hz;have HL:=zh hl;have H0:Hid (Only (qd B A) w w/\∃nv,RunP w B p A cp nv (r.notes (l.take 0))):=zh ⟨Only.refl _ _,nv,h⟩;clear h hz hl hm;go_enter func296, ntmps296;go_wp2
 go_loopw [8] (fun iv wr=>∃k:Nat,k<=m/\iv= .int .i64 k/\Hid (Only (qd B A) w wr/\∃nv,RunP wr B p A cp nv (r.notes (l.take k)))) (fun iv _=>m-(intOf iv).toNat)
 case atStart=>exact⟨0,Nat.zero_le _,rfl,H0⟩
 case round=>
  obtain⟨k,hk,rfl,HC⟩:=hrel;clear H0
  have hm9:m<=1000:=by have:=HL.out;omega
  by_cases hlt:k<m
  . obtain⟨x,hx⟩:∃x,l[k]? =some x:=⟨_,List.getElem?_eq_getElem (by rw[HM.out];exact hlt)⟩;obtain⟨hO,nv1,hP⟩:=HC.out;obtain⟨b,o,rfl,hc⟩:=HZ.out _ hO k x hx;have HP:=zh hP;have HO:=zh hO;have HN:=zh (qbc (r:=r) hx);have HNL:=zh (show(r.notes (l.take k)).ns.length<=1000 by rw[qgt,List.length_take];have:=HL.out;omega);clear HC hO hP hx;go_wp2_with fail;clear hc;refine(qc7 B p A cp nv1 _ x 0 _ HP.out HNL.out).mono ?_;rintro e w2 ⟨rfl,hO,nv2,hP⟩;have HC2:Hid (Only (qd B A) w w2/\∃nv,RunP w2 B p A cp nv (r.notes (l.take (k+1)))):=zh ⟨HO.out.trans hO,nv2,by rw[HN.out];exact hP⟩;clear hO hP HP HO;go_wp2
    go_roundw
    case rel=>exact⟨k+1,om,by go_num,HC2⟩
    case measure=>simp[intOf];omega
  . obtain rfl:k=m:=by omega
    have HE:Hid (Only (qd B A) w wr/\∃nv,RunP wr B p A cp nv (r.notes l)):=zh (by rw[show l=l.take k by rw[←HM.out,List.take_length]];exact HC.out);clear HC;go_wp2;go_returns;exact⟨rfl,HE.out.1,HE.out.2⟩
end Go.Proofs.YtgebffjejifidaaGreat
