/- The reference's Gaussian integers; the law's is and g. -/
import Derived.Test.YthmolpepinolkaaGreatWkToG2
import Derived.Test.YthmolpepinolkaaGreatY8
import Derived.OrdersIn
import Derived.RangeFuncFrom
import Derived.RangeFuncNested
import Derived.RangeFuncBound
namespace Go.Proofs.YthmolpepinolkaaGreat
open Go Go.RowKit Dig
set_option maxHeartbeats 4000000
set_option maxRecDepth 20000
set_option linter.unusedVariables false
section
variable {w:World} {va vb:Value} {x y u v:Int} {l m k n:Nat}
theorem rgSame_any (ha:PC w va x y) (hq:PN w vb x l y m) (hl:l≤100000000) (hm:m≤100000000) :
  Calls Tryz.prog 71 #[va,vb] w fun e w'=>e = .returned (.bool true)∧Below w.heap.size w w':=by
 obtain⟨n_0a,o_0a,k_0a,c_0a,n_0b,o_0b,k_0b,c_0b,rfl,ha1,ha2⟩:=ha
 obtain⟨n_1a,o_1a,k_1a,c_1a,n_1b,o_1b,k_1b,c_1b,rfl,hq1,hq2⟩:=hq
 go_enter Tryz.func71,Tryz.ntmps71
 have hs:=St.nil w
 refine zk fun K1 hK1=>rg [0,1,2] ?_
 refine sq ?_
 refine .al hs ?_;clear hs;intro p_b1 w_1 hs n1 kb_b1
 refine sq ?_
 refine .al hs ?_;clear hs;intro p_b2 w_2 hs n2 kb_b2
 refine sm (ze (hK1 _ _ ?_))
 refine zk fun K2 hK2=>rg [0,1,2,3,4,5,6,7,8,9,10,11,12] ?_
 refine sr ?_
 refine sq ?_
 refine .r4 hs.g1.f4 ?_
 refine sr ?_
 refine sq ?_
 refine .r4 hs.g0.f4 ?_
 refine sq ?_
 intro K hK
 have k0_2:=(kb n1).b n2
 replace ha1:=ha1.k k0_2
 replace hq1:=hq1.k k0_2
 go_big_op
 go_fit (rsame_zz ha1 hq1 (by omega) )
 rintro e w_3 ⟨rfl,hb_3⟩
 replace hs:=hs.bl hb_3
 refine hK _ _ rfl trivial ?_
 clear hK K
 refine xmr ?_
 refine sq ?_
 refine .r4 hs.g1.f4 ?_
 refine sr ?_
 refine sq ?_
 refine .r4 hs.g0.f4 ?_
 refine sq ?_
 intro K hK
 have k0_3:=k0_2.b hb_3
 replace ha2:=ha2.k k0_3
 replace hq2:=hq2.k k0_3
 go_big_op
 go_fit (rsame_zz ha2 hq2 (by omega) )
 rintro e w_4 ⟨rfl,hb_4⟩
 replace hs:=hs.bl hb_4
 refine hK _ _ rfl trivial ?_
 clear hK K
 refine sr ?_
 refine sm (ze (hK2 _ _ ?_))
 refine wp_ret ?_
 try dsimp only [Exit.then,Exit.inBlock]
 refine bodyPost_ret (v:=(.bool true)) (by simp[results,Tryz.results71,go_sem]) rfl ?_
 have hb:=hs.b
 exact⟨rfl,hb⟩
theorem rgI_any (a b:Int) (w:World) (h1 : -9223372036854775808≤a) (h2:a≤9223372036854775807) (h3 : -9223372036854775808≤b) (h4:b≤9223372036854775807) :
  Calls Tryz.prog 72 #[.int .i64 a,.int .i64 b] w fun e w'=>∃r,e = .returned r∧PC w' r a b∧Below w.heap.size w w':=by
 go_enter Tryz.func72,Tryz.ntmps72
 have hs:=St.nil w
 refine zk fun K1 hK1=>rg [0] ?_
 refine sq ?_
 refine .al hs ?_;clear hs;intro p_b1 w_1 hs n1 kb_b1
 refine ze (hK1 _ _ ?_)
 refine zk fun K2 hK2=>rg [0,1,2,3,4,5] ?_
 refine sm ?_
 refine sq ?_
 intro K hK
 go_big_op
 go_fit (ri_any a _ h1 h2)
 rintro e w_2 ⟨v_g1,rfl,g1,hb_2⟩
 replace hs:=hs.bl hb_2
 replace g1:=g1.rd
 obtain⟨n_g1,o_g1,k_g1,c_g1,rfl⟩:=g1.open2
 refine hK _ _ rfl trivial ?_
 clear hK K
 refine sm ?_
 refine sq ?_
 intro K hK
 go_big_op
 go_fit (ri_any b _ h3 h4)
 rintro e w_3 ⟨v_g2,rfl,g2,hb_3⟩
 replace hs:=hs.bl hb_3
 replace g2:=g2.rd
 obtain⟨n_g2,o_g2,k_g2,c_g2,rfl⟩:=g2.open2
 refine hK _ _ rfl trivial ?_
 clear hK K
 refine sr ?_
 refine sq ?_
 refine .s4 hs.g0 (fun _=>hs.u0 kb_b1) ?_;clear hs;intro w_4 hs hd4 ho4
 refine ze (hK2 _ _ ?_)
 refine wp_ret ?_
 try dsimp only [Exit.then,Exit.inBlock]
 obtain⟨r0_0,r0_1,r0_2,r0_3⟩:=hs.g0.f4
 refine bodyPost_ret (v:=(.agg #[.bool n_g1,.slice o_g1 k_g1 c_g1,.bool n_g2,.slice o_g2 k_g2 c_g2])) (by simp[results,Tryz.results72,go_sem,r0_0,r0_1,r0_2,r0_3]) rfl ?_
 have k2_4:=(kb hb_3).o hd4 ho4
 replace g1:=g1.k k2_4
 have k3_4:=ko hd4 ho4
 replace g2:=g2.k k3_4
 exact⟨_,rfl,.mk' g1 g2,hs.b⟩
theorem gFrom_any (a b:Int) (w:World) (h1 : -9223372036854775808≤a) (h2:a≤9223372036854775807) (h3 : -9223372036854775808≤b) (h4:b≤9223372036854775807) :
  Calls Tryz.prog 12 #[.int .i64 a,.int .i64 b] w fun e w'=>∃r,e = .returned r∧PC w' r a b∧Below w.heap.size w w':=by
 go_enter Tryz.func12,Tryz.ntmps12
 have hs:=St.nil w
 refine zk fun K1 hK1=>rg [0] ?_
 refine sq ?_
 refine .al hs ?_;clear hs;intro p_b1 w_1 hs n1 kb_b1
 refine ze (hK1 _ _ ?_)
 refine zk fun K2 hK2=>rg [0,1,2,3,4,5] ?_
 refine sm ?_
 refine sq ?_
 intro K hK
 go_big_op
 go_fit (from_any a _ h1 h2)
 rintro e w_2 ⟨v_g1,rfl,g1,hb_2⟩
 replace hs:=hs.bl hb_2
 replace g1:=g1.rd
 obtain⟨n_g1,o_g1,k_g1,c_g1,rfl⟩:=g1.open2
 refine hK _ _ rfl trivial ?_
 clear hK K
 refine sm ?_
 refine sq ?_
 intro K hK
 go_big_op
 go_fit (from_any b _ h3 h4)
 rintro e w_3 ⟨v_g2,rfl,g2,hb_3⟩
 replace hs:=hs.bl hb_3
 replace g2:=g2.rd
 obtain⟨n_g2,o_g2,k_g2,c_g2,rfl⟩:=g2.open2
 refine hK _ _ rfl trivial ?_
 clear hK K
 refine sr ?_
 refine sq ?_
 refine .s4 hs.g0 (fun _=>hs.u0 kb_b1) ?_;clear hs;intro w_4 hs hd4 ho4
 refine ze (hK2 _ _ ?_)
 refine wp_ret ?_
 try dsimp only [Exit.then,Exit.inBlock]
 obtain⟨r0_0,r0_1,r0_2,r0_3⟩:=hs.g0.f4
 refine bodyPost_ret (v:=(.agg #[.bool n_g1,.slice o_g1 k_g1 c_g1,.bool n_g2,.slice o_g2 k_g2 c_g2])) (by simp[results,Tryz.results12,go_sem,r0_0,r0_1,r0_2,r0_3]) rfl ?_
 have k2_4:=(kb hb_3).o hd4 ho4
 replace g1:=g1.k k2_4
 have k3_4:=ko hd4 ho4
 replace g2:=g2.k k3_4
 exact⟨_,rfl,.mk' g1 g2,hs.b⟩
end
abbrev FR (lr:Nat):Fence:=FW (some lr)
section
variable {P:Program} {o:Oper} {a:Act} {w:World} {lr m:Nat} {l:List Oper}
theorem rgR {id:Nat} {Q:Exit→Act→World→Prop} (plan:List Nat) (h:wpSq P l (Q .normal) plan a w) (hp:List.range l.length=plan:=by kernel_rfl):(Code.region id l.toArray false).wpIn (FR lr) m P Q a w:=wpIn_region_sq plan hp h
theorem wp_region_f4R {id:Nat} {Q:Exit→Act→World→Prop} (plan1:List (Nat × Bool)) (plan2:List Nat) (F0:List Nat) (ob:Nat→Obj) (CL:List Nat) (bad:List (Nat × Nat)) {bs:List BkT} (hC:AllB bs w) (hl:∀j ∈ F0,Lays P l ob j)
  (h:∀w',Below w.heap.size w w'→wpFl P l (AllB bs) (bs.map BG) CL ob F0 w'.heap.size (wpTail P l (bs.map BG) bad (Q .normal) plan2) plan1 a w')
  (hm:P.follows .mixedOrders=true:=by kernel_rfl) (hs:Region.noSelect l.toArray=true:=by kernel_rfl)
  (hlen:plan1.length+F0.length+plan2.length=l.length:=by kernel_rfl) (hok:flOK .any l plan2 (plan1.length+F0.length) (Array.replicate l.length false) plan1 F0=true:=by kernel_rfl) (hpa:planApart l F0 plan1=true:=by kernel_rfl) (hwt:waits .any l CL bad plan1=true:=by kernel_rfl) (hnb:notBad bad plan1 F0=true:=by kernel_rfl) (hsu:sundry l F0=true:=by kernel_rfl) (hnd:F0.Nodup:=by decide):(Code.region id l.toArray true).wpIn (FR lr) m P Q a w :=
 wpIn_region_any hm (wpAnyIn_of_x (fun _ _ hq=>hq) _ _ _ _ (wpX_region_fl plan1 plan2 F0 ob CL bad (AllB bs) (bs.map BG) hs hlen hok hpa hwt hnb hsu hnd hl (fun _ _ hC=>hC.alloc) (fun _ hC=>hC.get) (hC.bl (Below.refl _ _).drew) (h _ (Below.refl _ _).drew)))
end
def Cm (w w':World):Prop:=∀(p:Nat) (c:Array Value) (t:TypeId) (z:Nat × Nat),w.heap[p]? = some (Obj.cells c t z)→w'.heap[p]? = some (Obj.cells c t z)
theorem Cm.cell {w w':World} (h:Cm w w') {p:Addr} {v:Value} (hv:w.cell? p=some v):w'.cell? p=some v:=by
 unfold World.cell? at hv ⊢
 split at hv
 ·rename_i c t z hh
  rw[h _ _ _ _ hh];exact hv
 ·cases hv
theorem Cm.kp {w w':World} (h:Cm w w'):Kp w w':=fun oa ds hc=>by
 by_cases hne:ds=[]
 ·exact .inl hne
 ·obtain⟨c,off,e,hx⟩:=hc.resolve_left hne
  exact .inr ⟨c,off,e,fun i hi=>h.cell (hx i hi)⟩
theorem Cm.of_below {w w':World} (h:Below w.heap.size w w'):Cm w w':=fun p c t z hp=>by
 rw[h.block p (by rcases Nat.lt_or_ge p w.heap.size with h1 | h1;exact h1;rw[Array.getElem?_eq_none h1] at hp;cases hp)];exact hp
theorem Cm.po {w:World} {l:Nat} {o:Obj} (o':Obj) (h:w.heap[l]? = some o) (ho:o.isCells=false):Cm w (w.putObj l o'):=fun p c t z hp=>by
 rw[World.putObj_heap_other (fun e=>by subst e;rw[h] at hp;cases hp;cases ho)];exact hp
theorem Bs.cm {w w':World} {p:Nat} {cs:Array Value} {ty:TypeId} {fz:Nat × Nat} (h:Bs w p cs ty fz) (hc:Cm w w'):Bs w' p cs ty fz:=hc _ _ _ _ h
def ob (l:Nat) (o:Obj):En:=(some l,fun w=>w.heap[l]? = some o)
theorem Ok.ob {w:World} {l:Nat} {o:Obj} (h:w.heap[l]? = some o):Ok (Go.Proofs.YthmolpepinolkaaGreat.ob l o) w:=by
 refine⟨h,fun k hk => ?_,fun w' hk _ => ?_⟩
 ·obtain rfl:l=k:=by simpa [Go.Proofs.YthmolpepinolkaaGreat.ob] using hk
  exact(Array.getElem?_eq_some_iff.1 h).1
 ·show w'.heap[l]? = _
  rw[hk l rfl];exact h
section
variable {w0 w:World} {bs:List En} {l:Nat} {o:Obj} {e:En}
theorem St.at (h:St w0 bs w) {i:Nat} (hi:bs[i]? = some e):Ok e w:=by
 have key:∀ {bs:List En} {i:Nat},AllE bs w→bs[i]? = some e→Ok e w:=by
  intro bs
  induction bs with
  | nil=>intro i _ hi;simp at hi
  | cons b t ih =>
   intro i hA hi
   cases i with
   | zero =>
    obtain rfl:b=e:=by simpa using hi
    exact hA.1
   | succ i=>exact ih hA.2 (by simpa using hi)
 exact key h.1 hi
theorem St.obj (h:St w0 bs w) (i:Nat) (hi:bs[i]? = some (ob l o):=by rfl):w.heap[l]? = some o:=(h.at hi).1
theorem St.po (h:St w0 bs w) (i:Nat) (o':Obj) (hl:Hid (w0.heap.size≤l)) (hi:bs[i]? = some (ob l o):=by rfl):St w0 (bs.set i (ob l o')) (w.putObj l o'):=by
 have hlt:l<w.heap.size:=(Array.getElem?_eq_some_iff.1 (h.obj i hi)).1
 refine h.st i hi (fun k _ hne=>World.putObj_heap_other (fun e=>hne (by rw[e];rfl))) (by rw[World.putObj_size];exact Nat.le_refl _) (Ok.ob (World.putObj_heap_same hlt)) (fun k hk=>.inl hk) ?_
 refine⟨h.b.os,h.b.tape,h.b.output,by rw[World.putObj_size];exact h.k,fun k hk => ?_⟩
 rw[World.putObj_heap_other (fun e=>by have:w0.heap.size≤l:=hl;omega)]
 exact h.b.block k hk
theorem St.ao (h:St w0 bs w) (o:Obj):St w0 (ob w.heap.size o::bs) (w.alloc o):=by
 refine .cons (Ok.ob (World.alloc_heap_new w o)) (fun f hf k hk hc => ?_) (h.bl ((Below.refl _ w).alloc nl o))
 have h1:=h.lt f hf k hc
 obtain rfl:w.heap.size=k:=by simpa [ob] using hk
 exact Nat.lt_irrefl _ h1
end
theorem St.app2 {w0 w w':World} {bs:List En} {p q:Nat} {cs ds:Array Value} {ty t2:TypeId} (hs:St w0 bs w) (h:St w [bx p cs ty,bx q ds t2] w') (k1:Hid (w.heap.size≤p)) (k2:Hid (w.heap.size≤q)):St w0 (bx p cs ty::bx q ds t2::bs) w' :=
 hs.app h fun e he k hk=>by
  simp only[List.mem_cons,List.not_mem_nil,or_false] at he
  rcases he with rfl | rfl
  ·obtain rfl:p=k:=by simpa [bx] using hk
   exact k1
  ·obtain rfl:q=k:=by simpa [bx] using hk
   exact k2
def ItN (P:Program) (gf:Nat) (lb:Array Value) (n:Nat) (encs:Nat→Array Value) (R:World→Prop):Prop :=
 ∀(l:Nat) (J Jx:Nat→World→Prop) (W:World),(∀k A B,J k A→Below A.heap.size A B→J k B)→(∀k A B,Jx k A→Below A.heap.size A B→Jx k B)→(∀k W1,J k W1→R W1)→(∀k W1,Jx k W1→R W1) →
  (∀k W1,k<n→J k W1→YieldAt Fence.wide 0 P l (encs k) W1 fun e W'=>(e = .returned (.bool true)∧J (k+1) W')∨(e = .returned (.bool false)∧Jx k W')) →
  J 0 W→Calls P gf (#[.func (.yield l) #[] #[]]++lb) W fun e W'=>(∃v,e = .returned v)∧(J n W'∨∃k,k<n∧Jx k W')
theorem er_none {P:Program} {w:World} {l:Nat} {r:Loop} (h:w.heap[l]? = some (.loop r)):(Instr.endRound l none).run P w = .ok (.bool true) (w.putObj l (.loop { r with state:=.ready,pending:=none })):=run_endRound none h
theorem er_some {P:Program} {w:World} {l:Nat} {r:Loop} {c:Code} (h:w.heap[l]? = some (.loop r)):(Instr.endRound l (some c)).run P w = .ok (.bool false) (w.putObj l (.loop { r with state:=.done,pending:=some c })):=run_endRound (some c) h
def rPost {X:Type} (w0:World) (bs:X→List En) (F:X→World→Prop) (I:Nat→X→Prop) (Ix:Code→Nat→X→Prop) (E:List En) (k:Nat):Exit→Act→World→Prop
 | .normal,_,W=>∃x,I (k+1) x∧St w0 (E++bs x) W∧F x W
 | .ret,_,W=>∃x,Ix .ret k x∧St w0 (E++bs x) W∧F x W
 | .exit id,_,W=>∃x,Ix (.exit id) k x∧St w0 (E++bs x) W∧F x W
 | .goto t,_,W=>∃x,Ix (.goto t) k x∧St w0 (E++bs x) W∧F x W
 | _,_,_=>False
section
variable {P:Program} {g:Operand} {ps:Array Tmp} {assign body:Code} {a:Act} {w w0:World} {gf:Nat} {lb:Array Value} {n:Nat} {encs:Nat→Array Value} {R:World→Prop} {X:Type} {bs:X→List En} {F:X→World→Prop} {I:Nat→X→Prop} {Ix:Code→Nat→X→Prop}
theorem rounds_ok {fn:FuncId} {l:Nat} {E:List En} {rd:LoopState→Option Code→Obj} {tm:Array Value} {df:Nat}
  (hrd:rd=fun st pe=>.loop { state:=st,pending:=pe,fn,tmps:=tm,params:=ps,assign,body,defers:=df }) (hl:Hid (w0.heap.size≤l))
  (hps:∀k,k<n→(encs k).size=ps.size) (hF:∀x A B,F x A→Cm A B→F x B)
  (hround:∀r k x W,k<n→I k x→St w0 (ob l (.loop r)::E++bs x) W→F x W →
   assign.wpIn (FR l) 0 P (Exit.then (fun a1 w1=>∃bs1 i,St w0 bs1 w1∧bs1[i]? = some (ob l (.loop r))∧∀r' w2,St w0 (bs1.set i (ob l (.loop r'))) w2→Cm w1 w2→body.wpIn (FR l) 0 P (rPost w0 bs F I Ix (ob l (.loop r')::E) k) a1 w2) (fun _ _ _=>False))
    { tmps:=(ps.zip (encs k)).foldl (fun t (p,v)=>t.setIfInBounds p v) tm,defers:=[] } W) :
  ∀k W1,k<n→(∃x,I k x∧St w0 (ob l (rd .ready none)::E++bs x) W1∧F x W1) →
   YieldAt Fence.wide 0 P l (encs k) W1 fun e W'=>(e = .returned (.bool true)∧∃x,I (k+1) x∧St w0 (ob l (rd .ready none)::E++bs x) W'∧F x W') ∨
    (e = .returned (.bool false)∧∃c x,Ix c k x∧St w0 (ob l (rd .done (some c))::E++bs x) W'∧F x W'):=by
 subst hrd
 rintro k W1 hk ⟨x,hI,hs,hf⟩
 have hy:=run_yield (P:=P) (args:=encs k) (hs.obj 0) (hps k hk)
 refine⟨fn,_,assign,body,hy,roundIn_of_wpIn trivial ?_⟩
 refine wpIn_mono (hround _ k x W1 hk hI hs hf) ?_
 rintro e a1 w1 hq
 cases e with
 | normal =>
  obtain⟨bs1,i,hs1,hi,hb⟩:=hq
  have ho:=hs1.obj i hi
  refine⟨_,run_beginRound ho rfl,?_⟩
  refine wpIn_mono (hb _ _ (hs1.po i _ hl hi) (Cm.po _ ho rfl)) ?_
  rintro e a2 w2 hp
  cases e with
  | normal =>
   obtain⟨x',hI',hs',hf'⟩:=hp
   have ho:=hs'.obj 0
   exact⟨_,_,er_none ho,.inl ⟨rfl,x',hI',hs'.po 0 (Obj.loop { state:=.ready,pending:=none,fn,tmps:=tm,params:=ps,assign,body,defers:=df }) hl,hF _ _ _ hf' (Cm.po _ ho rfl)⟩⟩
  | ret =>
   obtain⟨x',hI',hs',hf'⟩:=hp
   have ho:=hs'.obj 0
   exact⟨_,_,er_some ho,.inr ⟨rfl,.ret,x',hI',hs'.po 0 (Obj.loop { state:=.done,pending:=some (.ret),fn,tmps:=tm,params:=ps,assign,body,defers:=df }) hl,hF _ _ _ hf' (Cm.po _ ho rfl)⟩⟩
  | exit id =>
   obtain⟨x',hI',hs',hf'⟩:=hp
   have ho:=hs'.obj 0
   exact⟨_,_,er_some ho,.inr ⟨rfl,.exit id,x',hI',hs'.po 0 (Obj.loop { state:=.done,pending:=some (.exit id),fn,tmps:=tm,params:=ps,assign,body,defers:=df }) hl,hF _ _ _ hf' (Cm.po _ ho rfl)⟩⟩
  | goto t =>
   obtain⟨x',hI',hs',hf'⟩:=hp
   have ho:=hs'.obj 0
   exact⟨_,_,er_some ho,.inr ⟨rfl,.goto t,x',hI',hs'.po 0 (Obj.loop { state:=.done,pending:=some (.goto t),fn,tmps:=tm,params:=ps,assign,body,defers:=df }) hl,hF _ _ _ hf' (Cm.po _ ho rfl)⟩⟩
  | panic c=>exact hp.elim
  | outgrown=>exact hp.elim
 | exit id=>exact hq.elim
 | goto t=>exact hq.elim
 | ret=>exact hq.elim
 | panic c=>exact hq.elim
 | outgrown=>exact hq.elim
theorem wp_rangeN {Q:Exit→Act→World→Prop} (I:Nat→X→Prop) (Ix:Code→Nat→X→Prop) (bs:X→List En) (F:X→World→Prop) (hit:ItN P gf lb n encs R) (x0:X) (h0:I 0 x0) (hs:St w0 (bs x0) w) (hf0:F x0 w)
  (hR:∀x W,St w0 (bs x) W→F x W→R W) (hF:∀x A B,F x A→Cm A B→F x B)
  (hround:∀l D r d k x W,k<n→I k x→St w0 (ob l (.loop r)::ob D d::bs x) W→F x W →
   assign.wpIn (FR l) 0 P (Exit.then (fun a1 w1=>∃bs1 i,St w0 bs1 w1∧bs1[i]? = some (ob l (.loop r))∧∀r' w2,St w0 (bs1.set i (ob l (.loop r'))) w2→Cm w1 w2→body.wpIn (FR l) 0 P (rPost w0 bs F I Ix (ob l (.loop r')::[ob D d]) k) a1 w2) (fun _ _ _=>False))
    { tmps:=(ps.zip (encs k)).foldl (fun t (p,v)=>t.setIfInBounds p v) a.tmps,defers:=[] } W)
  (hdone:∀l D r x W,Hid (w0.heap.size≤D)→I n x→St w0 (ob l r::ob D (.deferred (some []))::bs x) W→F x W→Q .normal { a with defers:={ target:=.collected D,args:=#[] }::a.defers } W)
  (hstop:∀l D r c k x W,k<n→Hid (w0.heap.size≤D)→Ix c k x→St w0 (ob l r::ob D (.deferred (some []))::bs x) W→F x W→c.wp P Q { a with defers:={ target:=.collected D,args:=#[] }::a.defers } W)
  (hg:a.eval g = .func (.func gf) #[] lb:=by rfl) (eg:∀args w,(callFunc gf args).run P w = .ok (.enter gf args) w:=by exact fun _ _=>by kernel_rfl) (hps:∀k,k<n→(encs k).size=ps.size:=by exact fun _ _=>rfl) :
  (Code.rangeFunc g ps assign body).wp P Q a w:=by
 refine(wpIn_wide (n:=0)).1 (wpIn_rangeFunc ?_)
 intro fn _
 obtain⟨rd,hrd⟩:∃rd:LoopState→Option Code→Obj,rd=fun st pe=>.loop { state:=st,pending:=pe,fn,tmps:=a.tmps,params:=ps,assign,body,defers:=w.heap.size }:=⟨_,rfl⟩
 have s1:=(hs.ao (.deferred (some []))).ao (rd .ready none)
 rw[World.size_alloc] at s1
 have c1:Cm w ((w.alloc (.deferred (some []))).alloc (rd .ready none)):=Cm.of_below (((Below.refl _ w).alloc nl _).alloc (by simp) _)
 obtain⟨W1,hW1⟩:∃W1,(w.alloc (.deferred (some []))).alloc (rd .ready none)=W1:=⟨_,rfl⟩
 rw[hW1] at s1 c1
 have hk:=hs.k
 refine⟨w.heap.size+1,[{ target:=.collected w.heap.size,args:=#[] }],W1,{ target:=.fn (.func gf) lb,args:=#[.func (.yield (w.heap.size+1)) #[] #[]] },W1,gf,
  #[.func (.yield (w.heap.size+1)) #[] #[]]++lb,W1,?_,?_,fun _ _=>trivial,?_,fun h=>(by cases h),callsIn_wide.2 ?_⟩
 ·rw[←hW1,hrd];exact run_enterLoop_outer _ _ _ _ _
 ·simp only[resolve,hg]
  simp[go_sem]
 ·simp[invoke,go_sem,eg]
 ·refine(hit (w.heap.size+1)
   (fun k W=>∃x,I k x∧St w0 (ob (w.heap.size+1) (rd .ready none)::[ob w.heap.size (.deferred (some []))]++bs x) W∧F x W)
   (fun k W=>∃c x,Ix c k x∧St w0 (ob (w.heap.size+1) (rd .done (some c))::[ob w.heap.size (.deferred (some []))]++bs x) W∧F x W) W1
   (fun k A B ⟨x,h1,h2,h3⟩ hb=>⟨x,h1,h2.bl hb,hF _ _ _ h3 (Cm.of_below hb)⟩)
   (fun k A B ⟨c,x,h1,h2,h3⟩ hb=>⟨c,x,h1,h2.bl hb,hF _ _ _ h3 (Cm.of_below hb)⟩)
   (fun k W ⟨x,h1,h2,h3⟩=>hR x W (h2.sub (List.sublist_append_right _ _)) h3) (fun k W ⟨c,x,h1,h2,h3⟩=>hR x W (h2.sub (List.sublist_append_right _ _)) h3)
   (rounds_ok hrd (show w0.heap.size≤_ by omega) hps hF fun r k x W hk hI hs hf=>hround _ _ r _ k x W hk hI hs hf) ⟨x0,h0,s1,hF _ _ _ hf0 c1⟩).mono ?_
  rintro e W2 ⟨⟨v,rfl⟩,(⟨x,hI,hs2,hf2⟩ | ⟨k,hk,c,x,hI,hs2,hf2⟩)⟩
  ·subst hrd
   have ho:=hs2.obj 0
   exact⟨none,_,run_endLoop ho (by simp),hdone _ _ _ x _ (show w0.heap.size≤w.heap.size from hs.k) hI (hs2.po 0 _ (show w0.heap.size≤_ by omega)) (hF _ _ _ hf2 (Cm.po _ ho rfl))⟩
  ·subst hrd
   have ho:=hs2.obj 0
   exact⟨some c,_,run_endLoop ho (by simp),wpIn_wide.2 (hstop _ _ _ c k x _ hk (show w0.heap.size≤w.heap.size from hs.k) hI (hs2.po 0 _ (show w0.heap.size≤_ by omega)) (hF _ _ _ hf2 (Cm.po _ ho rfl)))⟩
end
theorem calls_of_marks {P:Program} {f:FuncId} {fn:Func} {c:Code} {args:Array Value} {w:World} {R:Ending→World→Prop} (hf:P.funcs[f]? = some fn) (hb:fn.body=some c)
  (h:c.wp P (bodyPostM Fence.wide 0 P fn R) { tmps:=args++Array.replicate (fn.ntmps - args.size) undef,defers:=[] } w):Calls P f args w R :=
 (callsIn_wide (n:=0)).1 (callsIn_of_wp_marks hf hb trivial (wpIn_wide.2 h))
theorem ret_mark {P:Program} {fn:Func} {R:Ending→World→Prop} {tmps:Array Value} {w:World} {D:Nat} (hD:w.heap[D]? = some (.deferred (some []))) (h:∀w2,w.putObj D (.deferred none)=w2→∃v,(results fn tmps).run P w2 = .ok v w2∧R (.returned v) w2) :
  LeavesInM Fence.wide 0 P fn tmps R [{ target:=.collected D,args:=#[] }] .returning w :=
 ⟨by simp,.inl ⟨_,_,rfl,run_takeDeferred hD,h _ rfl⟩⟩
section
variable {P:Program} {l:List Oper} {o:Oper} {a:Act} {w:World} {Q:Act→World→Prop} {k:Nat} {rest:List Nat} {ly:Nat} {args:Array Value} {Gs:List (World→Prop)} {bad:List (Nat × Nat)}
theorem Calm.yield {next:Value→World→Prop} (h:YieldAt Fence.wide 0 P ly args w fun e w'=>∃v,e = .returned v∧next v w') (ho:∀w,(execOp a.eval o).run P w=(Instr.yield ly args).run P w):Calm P o a w next:=by
 obtain⟨fn,tmps,asg,bd,hy,hR⟩:=h
 unfold Calm
 rw[ho,hy];exact hR
theorem tlY {a':Value→Act} (h:YieldAt Fence.wide 0 P ly args w fun e w'=>∃v,e = .returned v∧keepL bad k 0 Gs w'∧wpTail P l Gs bad Q rest (a' v) w') (ho:∀w,(execOp a.eval o).run P w=(Instr.yield ly args).run P w) (hi:nthO l k=some o:=by rfl) (hw:Region.wanted o (yielded l.toArray a.tmps)=true:=by kernel_rfl) (hp:∀v',a.put o.dst v'=a' v':=by intro v';unfold Act.put;simp only[List.setIfInBounds_toArray,List.set_cons_succ,List.set_cons_zero];rfl):wpTail P l Gs bad Q (k::rest) a w :=
 ⟨o,hi,by rw[if_pos hw];exact Calm.yield (h.mono fun e w' ⟨v,h1,h2,h3⟩=>⟨v,h1,.of_l h2,by rw[hp];exact h3⟩) ho⟩
theorem tlP (h:Stp P o a w bot (fun w'=>w'=w) (wpTail P l Gs bad Q rest)) (hi:nthO l k=some o:=by rfl) (hw:Region.wanted o (yielded l.toArray a.tmps)=true:=by kernel_rfl):wpTail P l Gs bad Q (k::rest) a w:=by
 refine⟨o,hi,?_⟩
 rw[if_pos hw]
 have h:=h (fun a' w'=>a'.defers=a.defers∧w'=w∧wpTail P l Gs bad Q rest a' w') (fun a' w' h1 h2 h3=>⟨h1,h2,h3⟩)
 unfold Oper.wp at h
 unfold Calm
 generalize (execOp a.eval o).run P w=r at *
 have hk:∀w',w'=w→Keeps Gs bad k w w':=fun w' e=>by subst e;exact Keeps.refl _ _ _ _
 cases r with
 | ok n w2 =>
  cases n <;> simp only[Oper.upon] at h ⊢
  case value=>exact⟨hk _ h.2.1,h.2.2⟩
  case skip=>exact⟨hk _ h.2.1,h.2.2⟩
  case defer =>
   have h1:=h.1
   unfold Act.put at h1
   split at h1 <;> simp at h1
  case enter =>
   refine h.mono fun e w'' he => ?_
   cases e with
   | returned v=>exact⟨v,rfl,hk _ he.2.1,he.2.2⟩
   | panicked c=>exact he.elim
   | outgrown=>obtain⟨_,_,hf⟩:=he;exact hf.elim
  case row=>exact Rows.mono h fun v w'' he=>⟨hk _ he.2.1,he.2.2⟩
 | halt x w2=>cases x <;> simp only[Oper.upon,bot] at h
end
def cg (cur:Array Value) (j:Nat):Value:=(cur[j]?).getD undef
theorem cg_eq {cur:Array Value} {j:Nat} {v:Value} (h:cur[j]? = some v):cg cur j=v:=by rw[cg,h];rfl
def enG (cur:Array Value) (off i:Nat):Value:=.agg #[cg cur (off+i*4),cg cur (off+i*4+1),cg cur (off+i*4+2),cg cur (off+i*4+3)]
def IsG (cur:Array Value) (off n:Nat):Prop:=∀i,i<n→∃n1 o1 k1 c1 n2 o2 k2 c2,cur[off+i*4]? = some (.bool n1)∧cur[off+i*4+1]? = some (.slice o1 k1 c1)∧cur[off+i*4+2]? = some (.bool n2)∧cur[off+i*4+3]? = some (.slice o2 k2 c2)
def IsS (cur:Array Value) (off n:Nat):Prop:=∀i,i<n→∃o k c,cur[off+i]? = some (.slice o k c)
section
variable {p1 p2 n m c1 c2 g1 g2 off1 off2:Nat} {cur1 cur2:Array Value} {t1 t2 t3 t4:TypeId} {fz1 fz2:Nat × Nat}
set_option maxHeartbeats 4000000 in
set_option maxRecDepth 20000 in
theorem besideGS (hn:0<n) (hl:n≤1000000000) (hnm:n≤m) (i1:IsG cur1 off1 n) (i2:IsS cur2 off2 n) :
  ItN Tryz.prog 152 #[.pointer (some ⟨p1,0,none⟩),.pointer (some ⟨p2,0,none⟩)] n (fun i=>#[enG cur1 off1 i,cg cur2 (off2+i)])
   fun W=>Bs W p1 #[.slice (some ⟨g1,off1,none⟩) n c1] 24∧Bs W p2 #[.slice (some ⟨g2,off2,none⟩) m c2] 22∧Bs W g1 cur1 t1 fz1∧Bs W g2 cur2 t2 fz2:=by
 intro l J Jx w hJ hJx hR hRx hY h0
 show Calls _ _ #[.func (.yield l) #[] #[],.pointer (some ⟨p1,0,none⟩),.pointer (some ⟨p2,0,none⟩)] w _
 obtain⟨x1,x2,y1,y2⟩:=hR _ _ h0
 have HY:=hide hY
 have HR:=hide hR
 have HX:=hide hRx
 have I1:=hide i1
 have I2:=hide i2
 have HJ:=hide hJ
 clear hY hR hRx i1 i2 hJ
 go_enter Tryz.func152,Tryz.ntmps152
 have hs:=St.nil w
 have lt_ba:=x1.lt
 have x1z:=x1
 have lt_bb:=x2.lt
 have x2z:=x2
 refine zk fun K1 hK1=>rg [0,1,2] ?_
 refine sq ?_
 refine .r1 x1.f1 ?_
 refine sr ?_
 refine sm (ze (hK1 _ _ ?_))
 refine wp_block ?_
 have hb:=hs.b
 have hd1:=hs.2.1
 go_loopg [8] n (fun kk s8 wr=>∃i:Nat,s8 = .int .i64 (i:Int)∧i+kk=n∧J i wr)
 case atStart=>exact⟨0,rfl,by omega,HJ.out _ _ _ h0 hb⟩
 case round =>
 clear x1 x2 hb hs
 obtain⟨i,rfl,hik,hJi⟩:=hrel
 have hs:=St.nil wr
 by_cases hi:i<n
 ·obtain⟨x1,x2,y1,y2⟩:=HR.out _ _ hJi
  have lt_ba:=x1.lt
  have lt_bb:=x2.lt
  have lt_kA:=y1.lt
  have lt_kB:=y2.lt
  obtain⟨n1,o1,k1,q1,n2,o2,k2,q2,e1,e2,e3,e4⟩:=I1.out i hi
  obtain⟨o3,k3,q3,e5⟩:=I2.out i hi
  have HYi:=hide (show ∀W1,J i W1→_ from fun W1 h=>HY.out i W1 hi h)
  simp only[enG,cg_eq e1,cg_eq e2,cg_eq e3,cg_eq e4,cg_eq e5] at HYi
  have hi2:i<m:=by omega
  refine zk fun K2 hK2=>rg [0] ?_
  refine sr (ze (hK2 _ _ ?_))
  refine zk fun K3 hK3 => ?_
  refine ct ?_
  refine wp_skip ?_
  refine hK3 _ _ ?_
  refine zk fun K4 hK4 => ?_
  refine wp_block ?_
  refine zk fun K5 hK5=>rg [0,1,2,3,4,5] ?_
  refine xmr ?_
  refine sq ?_
  refine .r4 ⟨y1.cell _ e1,y1.cell _ e2,y1.cell _ e3,y1.cell _ e4⟩ ?_
  refine sq ?_
  refine .al hs ?_;clear hs;intro p_b1 w_2 hs n2 kb_b1
  replace x1:=x1.bl n2;replace x2:=x2.bl n2;replace y1:=y1.bl n2;replace y2:=y2.bl n2
  refine sm ?_
  refine sq ?_
  refine .s4 hs.g0 (fun _=>hs.u0 kb_b1) ?_;clear hs;intro w_3 hs hd3 ho3
  replace x1:=x1.frame ho3 (Nat.ne_of_lt (Nat.lt_of_lt_of_le lt_ba kb_b1));replace x2:=x2.frame ho3 (Nat.ne_of_lt (Nat.lt_of_lt_of_le lt_bb kb_b1));replace y1:=y1.frame ho3 (Nat.ne_of_lt (Nat.lt_of_lt_of_le lt_kA kb_b1));replace y2:=y2.frame ho3 (Nat.ne_of_lt (Nat.lt_of_lt_of_le lt_kB kb_b1))
  refine ze (hK5 _ _ ?_)
  refine zk fun K6 hK6 => ?_
  refine wp_region_f4 [(0,false),(1,false),(2,false),(3,false),(4,false),(5,false)] [6,7] [] (fun _=>default) [99,0,1,99,99,2,99,99] [(6,0)] (.c hs.g0 (.c x2 (.c y2 .n))) fn fun w_4 n4 => ?_
  replace x1:=x1.bl n4;replace x2:=x2.bl n4;replace y1:=y1.bl n4;replace y2:=y2.bl n4;replace hs:=hs.bl n4
  refine fmv ?_
  refine f4 ?_
  refine f1 ?_
  refine fmv ?_
  refine f0 ?_
  apply wpFl_ld rfl rfl;(case h1=>intro w' hC K hK;have c0:=Bs.cell hC ((off2+i)) e5;go_big_op;exact hK);iterate 4 kernel_rfl
  refine e0 hs ?_;clear hs;intro w_5 hs n5
  replace x1:=x1.bl n5;replace x2:=x2.bl n5;replace y1:=y1.bl n5;replace y2:=y2.bl n5
  have hb:=hs.b
  refine tlY (YieldAt.mono ((HYi.out _ (HJ.out _ _ _ hJi hb))) fun e w_6 hY => ?_) (fun _=>by kernel_rfl)
  clear x1 x2 y1 y2 hb hs
  have hs:=St.nil w_6
  rcases hY with ⟨rfl,hJ1⟩ | ⟨rfl,hx⟩
  ·obtain⟨x1,x2,y1,y2⟩:=HR.out _ _ hJ1
   refine⟨_,rfl,(ai trivial (ai x2 (ai y2 trivial))),?_⟩
   refine tlP ?_
   refine .r0 ?_ (e:=rfl)
   apply wpTail_end
   refine hK6 _ _ ?_
   refine cf ?_
   refine wp_skip ?_
   refine hK4 _ _ ?_
   refine rg [0,1] ?_
   refine xrm ?_
   apply wpSq_end
   have hb:=hs.b
   refine ‹∀(a':Act) (w':World),Handed _ _ a' w'→_› _ _ ?_
   go_roundg (gk - 1)
   case rel=>exact⟨i+1,by rfl,by omega,HJ.out _ _ _ hJ1 hb⟩
   case measure=>omega
  ·obtain⟨x1,x2,y1,y2⟩:=HX.out _ _ hx
   refine⟨_,rfl,(ai trivial (ai x2 (ai y2 trivial))),?_⟩
   refine tlP ?_
   refine .r0 ?_ (e:=rfl)
   apply wpTail_end
   refine hK6 _ _ ?_
   refine ct ?_
   refine wp_ret ?_
   try dsimp only [Exit.then,Exit.inBlock]
   refine bodyPost_ret (results_none rfl _ _ _) rfl ?_
   have hb:=hs.b
   exact⟨⟨_,rfl⟩,.inr ⟨i,hi,hJx _ _ _ hx hb⟩⟩
 ·obtain rfl:n=i:=by omega
  have HX:=hide hi
  refine zk fun K2 hK2=>rg [0] ?_
  refine sr (ze (hK2 _ _ ?_))
  refine zk fun K3 hK3 => ?_
  refine cf ?_
  refine wp_exit ?_
  try simp only[Exit.then,Exit.inBlock,if_true]
  refine bodyPost_end (results_none rfl _ _ _) rfl ?_
  have hb:=hs.b
  exact⟨⟨_,rfl⟩,.inl (HJ.out _ _ _ hJi hb)⟩
end
section
variable {p1 p2 n m c1 c2 g1 g2 off1 off2:Nat} {cur1 cur2:Array Value} {t1 t2 t3 t4:TypeId} {fz1 fz2:Nat × Nat} {o1 o2:Option Addr} {w:World} {encs:Nat→Array Value}
theorem beside0GS:ItN Tryz.prog 152 #[.pointer (some ⟨p1,0,none⟩),.pointer (some ⟨p2,0,none⟩)] 0 encs fun W=>Bs W p1 #[.slice o1 0 c1] 24:=by
 intro l J Jx w hJ hJx hR hRx hY h0
 show Calls _ _ #[.func (.yield l) #[] #[],.pointer (some ⟨p1,0,none⟩),.pointer (some ⟨p2,0,none⟩)] w _
 have x1:=hR _ _ h0
 have HJ:=hide hJ
 clear hY hR hRx hJ
 go_enter Tryz.func152,Tryz.ntmps152
 have hs:=St.nil w
 have lt_ba:=x1.lt
 have x1z:=x1
 refine zk fun K1 hK1=>rg [0,1,2] ?_
 refine sq ?_
 refine .r1 x1.f1 ?_
 refine sr ?_
 refine sm (ze (hK1 _ _ ?_))
 refine wp_block ?_
 have hb:=hs.b
 have hd1:=hs.2.1
 go_loopg [8] 0 (fun kk s8 wr=>s8 = .int .i64 0∧J 0 wr)
 case atStart=>exact⟨rfl,HJ.out _ _ _ h0 hb⟩
 case round =>
 clear x1 hb hs
 obtain⟨rfl,hJi⟩:=hrel
 have hs:=St.nil wr
 refine zk fun K2 hK2=>rg [0] ?_
 refine sr (ze (hK2 _ _ ?_))
 refine zk fun K3 hK3 => ?_
 refine cf ?_
 refine wp_exit ?_
 try simp only[Exit.then,Exit.inBlock,if_true]
 refine bodyPost_end (results_none rfl _ _ _) rfl ?_
 have hb:=hs.b
 exact⟨⟨_,rfl⟩,.inl (HJ.out _ _ _ hJi hb)⟩
theorem mkBesideGS:Calls Tryz.prog 111 #[.slice o1 n c1,.slice o2 m c2] w fun e w'=>∃p1 p2,e = .returned (.func (.func 152) #[] #[.pointer (some ⟨p1,0,none⟩),.pointer (some ⟨p2,0,none⟩)])∧Hid (w.heap.size≤p1)∧Hid (w.heap.size≤p2) ∧
   St w [bx p1 #[.slice o1 n c1] 24,bx p2 #[.slice o2 m c2] 22] w'∧Below w.heap.size w w':=by
 go_enter Tryz.func111,Tryz.ntmps111
 have hs:=St.nil w
 refine zk fun K1 hK1=>rg [0,1,2] ?_
 refine sq ?_
 refine .al hs ?_;clear hs;intro p_b1 w_1 hs n1 kb_b1
 refine sq ?_
 refine .al hs ?_;clear hs;intro p_b2 w_2 hs n2 kb_b2
 refine sm (ze (hK1 _ _ ?_))
 refine zk fun K2 hK2=>rg [0,1] ?_
 refine sr ?_
 refine sm (ze (hK2 _ _ ?_))
 refine wp_ret ?_
 try dsimp only [Exit.then,Exit.inBlock]
 refine bodyPost_ret (v:=(.func (.func 152) #[] #[(.pointer (some ⟨p_b1,0,none⟩)),(.pointer (some ⟨p_b2,0,none⟩))])) (by simp[results,Tryz.results111,go_sem]) rfl ?_
 exact⟨_,_,rfl,kb_b1,kb_b2,hs.perm (List.Perm.swap _ _ _),hs.b⟩
theorem SV.blk {l:Nat} {o:Option Addr} {ps:List (Int × Int)} (h:SN l w o ps):∃g off cur ty fz,(0<ps.length→o=some ⟨g,off,none⟩∧Bs w g cur ty fz)∧Els (RN l) w cur off ps:=by
 rcases Nat.eq_zero_or_pos ps.length with h0 | h0
 ·exact⟨0,0,#[],0,(0,0),fun h=>absurd h (by omega),fun i hi=>absurd hi (by omega)⟩
 ·obtain⟨g,off,cur,ty,fz,e,x,d⟩:=h.box h0
  exact⟨g,off,cur,ty,fz,fun _=>⟨e,x⟩,d⟩
theorem MV.blk {l:Nat} {o:Option Addr} {Ms:List (List (Int × Int))} (h:MN l w o Ms):∃g off cur ty fz,(0<Ms.length→o=some ⟨g,off,none⟩∧Bs w g cur ty fz)∧Rws (RN l) w cur off Ms:=by
 rcases Nat.eq_zero_or_pos Ms.length with h0 | h0
 ·exact⟨0,0,#[],0,(0,0),fun h=>absurd h (by omega),fun i hi=>absurd hi (by omega)⟩
 ·obtain⟨g,off,cur,ty,fz,e,x,d⟩:=h.box h0
  exact⟨g,off,cur,ty,fz,fun _=>⟨e,x⟩,d⟩
theorem Els.isG {l off:Nat} {cur:Array Value} {ps:List (Int × Int)} (h:Els (RN l) w cur off ps):IsG cur off ps.length:=fun i hi=>by
 obtain⟨n1,o1,k1,c1,n2,o2,k2,c2,e1,e2,e3,e4,_,_⟩:=h i hi
 exact⟨n1,o1,k1,c1,n2,o2,k2,c2,e1,e2,e3,e4⟩
theorem Rws.isS {l off:Nat} {cur:Array Value} {Ms:List (List (Int × Int))} (h:Rws (RN l) w cur off Ms):IsS cur off Ms.length:=fun i hi=>by
 obtain⟨o,c,e,_⟩:=h i hi
 exact⟨o,_,c,e⟩
theorem itGS (hl:n≤1000000000) (i1:IsG cur1 off1 n) (i2:IsS cur2 off2 n) (h1:0<n→o1=some ⟨g1,off1,none⟩) (h2:0<n→o2=some ⟨g2,off2,none⟩) :
  ItN Tryz.prog 152 #[.pointer (some ⟨p1,0,none⟩),.pointer (some ⟨p2,0,none⟩)] n (fun i=>#[enG cur1 off1 i,cg cur2 (off2+i)])
   fun W=>Bs W p1 #[.slice o1 n c1] 24∧Bs W p2 #[.slice o2 n c2] 22∧(0<n→Bs W g1 cur1 t1 fz1∧Bs W g2 cur2 t2 fz2):=by
 rcases Nat.eq_zero_or_pos n with h0 | h0
 ·subst h0
  intro l J Jx w hJ hJx hR hRx hY hI
  exact beside0GS l J Jx w hJ hJx (fun k W h=>(hR k W h).1) (fun k W h=>(hRx k W h).1) hY hI
 ·obtain rfl:=h1 h0
  obtain rfl:=h2 h0
  intro l J Jx w hJ hJx hR hRx hY hI
  exact besideGS h0 hl nl i1 i2 l J Jx w hJ hJx (fun k W h=>⟨(hR k W h).1,(hR k W h).2.1,(hR k W h).2.2 h0⟩) (fun k W h=>⟨(hRx k W h).1,(hRx k W h).2.1,(hRx k W h).2.2 h0⟩) hY hI
end
theorem zlen_addM {x y:Int} {l:Nat} (hx:(dig x.natAbs).length≤l) (hy:(dig y.natAbs).length≤l):(dig (x+y).natAbs).length≤l+1:=by
 refine dig_length_le ?_
 have h1:=Nat.lt_of_lt_of_le (lt_pw_dig x.natAbs) (pw_mono hx)
 have h2:=Nat.lt_of_lt_of_le (lt_pw_dig y.natAbs) (pw_mono hy)
 have h3:(x+y).natAbs≤x.natAbs+y.natAbs:=Int.natAbs_add_le x y
 simp only[pw];omega
theorem zlen_subM {x y:Int} {l:Nat} (hx:(dig x.natAbs).length≤l) (hy:(dig y.natAbs).length≤l):(dig (x - y).natAbs).length≤l+1:=by
 rw[Int.sub_eq_add_neg]
 exact zlen_addM hx (by rw[Int.natAbs_neg];exact hy)
def sumP:Nat→(Nat→Int × Int)→Int × Int
 | 0,_=>(0,0)
 | k+1,f=>aP (sumP k f) (f k)
def zl (l:Nat) (p:Int × Int):Prop:=(dig p.1.natAbs).length≤l∧(dig p.2.natAbs).length≤l
theorem zl_mP {p q:Int × Int} {l m:Nat} (hp:zl l p) (hq:zl m q):zl (l+m+1) (mP p q) :=
 ⟨zlen_subM (zlen_mul hp.1 hq.1) (zlen_mul hp.2 hq.2),zlen_addM (zlen_mul hp.1 hq.2) (zlen_mul hp.2 hq.1)⟩
theorem zl_up {p:Int × Int} {l m:Nat} (hp:zl l p) (h:l≤m):zl m p:=⟨Nat.le_trans hp.1 h,Nat.le_trans hp.2 h⟩
theorem zl_aP {p q:Int × Int} {l:Nat} (hp:zl l p) (hq:zl l q):zl (l+1) (aP p q):=⟨zlen_addM hp.1 hq.1,zlen_addM hp.2 hq.2⟩
theorem zl_0 (l:Nat):zl l (0,0):=by
 have:(dig (Int.natAbs 0)).length≤l:=by rw[show dig (Int.natAbs 0)=[] from dig_eq_nil.2 rfl];exact Nat.zero_le _
 exact⟨this,this⟩
theorem zl_sum {f:Nat→Int × Int} {l:Nat}:∀ {k:Nat},(∀i,i<k→zl l (f i))→zl (l+k) (sumP k f)
 | 0,_=>zl_0 _
 | k+1,h=>zl_aP (l:=l+k) (zl_sum fun i hi=>h i (by omega)) (zl_up (h k (by omega)) (Nat.le_add_right l k))
theorem Bd.at1 {l i:Nat} {ps:List (Int × Int)} (h:Bd l ps):zl l (at1 ps i):=by
 rcases Nat.lt_or_ge i ps.length with hi | hi
 ·rw[at1_eq hi];exact h _ (List.getElem_mem hi)
 ·rw[Go.Proofs.YthmolpepinolkaaGreat.at1,List.getD,List.getElem?_eq_none hi];exact zl_0 _
theorem gd_row {A:List (List (Int × Int))} {i:Nat} (h:gd A) (hi:i<A.length):(rw_ A i).length=wd A:=by rw[rw_eq hi];exact h.2.2 _ (List.getElem_mem hi)
theorem BdM.at2 {l i j:Nat} {Ms:List (List (Int × Int))} (h:BdM l Ms):zl l (at2 Ms i j):=by
 rcases Nat.lt_or_ge i Ms.length with hi | hi
 ·rw[Go.Proofs.YthmolpepinolkaaGreat.at2,rw_eq hi];exact Bd.at1 (h _ (List.getElem_mem hi))
 ·rw[Go.Proofs.YthmolpepinolkaaGreat.at2,rw_,List.getD,List.getElem?_eq_none hi];exact Bd.at1 (ps:=[]) fun p hp=>by cases hp
section
variable {w:World} {lu lv n cu cv pv pm j:Nat} {ou ov:Option Addr} {V:List (Int × Int)} {M:List (List (Int × Int))}
set_option maxHeartbeats 4000000 in
set_option maxRecDepth 20000 in
theorem combined1 (xv:Bs w pv #[.slice ou n cu] 24) (xm:Bs w pm #[.slice ov n cv] 23) (hu:SN lu w ou V) (hv:MN lv w ov M) (hn:V.length=n) (hm:M.length=n) (hj:∀i,i<n→j<(rw_ M i).length) (hl:n≤2000000) (h1:lu≤10000000) (h2:lv≤10000000) (hj2:j≤1000000) :
  Calls Tryz.prog 110 (#[.int .i64 (j:Int)] ++ #[.pointer (some ⟨pv,0,none⟩),.pointer (some ⟨pm,0,none⟩)]) w fun e w'=>∃r,e = .returned r∧PC w' r (sumP n fun i=>mP (at1 V i) (at2 M i j)).1 (sumP n fun i=>mP (at1 V i) (at2 M i j)).2∧Below w.heap.size w w':=by
 show Calls _ _ #[.int .i64 (j:Int),.pointer (some ⟨pv,0,none⟩),.pointer (some ⟨pm,0,none⟩)] w _
 obtain⟨g1,off1,cur1,t1,z1,B1,D1⟩:=hu.blk
 obtain⟨g2,off2,cur2,t2,z2,B2,D2⟩:=hv.blk
 rw[hn] at B1
 rw[hm] at B2
 have HB:=hide (ai B1 B2)
 have I1:=D1.isG
 have I2:=D2.isS
 rw[hn] at I1
 rw[hm] at I2
 have HI:=hide (ai I1 I2)
 have HD:=hide (ai D1 D2)
 have HU:=hide (ai hu.bd hv.bd)
 have HJ:=hide hj
 obtain⟨f,hf⟩:∃f:Nat→Int × Int,f=fun i=>mP (at1 V i) (at2 M i j):=⟨_,rfl⟩
 rw[←hf]
 have HF:=hide hf
 clear B1 B2 I1 I2 D1 D2 hu hv hf hj
 refine calls_of_marks Tryz.func110 rfl ?_
 simp only[Tryz.ntmps110,List.size_toArray,List.length_cons,List.length_nil,Nat.reduceAdd,Nat.reduceSub,Array.replicate_succ,Array.replicate_zero,List.push_toArray,List.append_toArray,List.nil_append,List.cons_append]
 have hs:=St.nil w
 have lt_bv:=xv.lt
 have xvz:=xv
 have lt_bm:=xm.lt
 have xmz:=xm
 refine zk fun K1 hK1=>rg [0,1] ?_
 refine sq ?_
 refine .al hs ?_;clear hs;intro p_b1 w_1 hs n1 kb_b1
 replace xv:=xv.bl n1;replace xm:=xm.bl n1
 refine sq ?_
 refine .al hs ?_;clear hs;intro p_b2 w_2 hs n2 kb_b2
 replace xv:=xv.bl n2;replace xm:=xm.bl n2
 refine ze (hK1 _ _ ?_)
 refine zk fun K2 hK2=>rg [0,1,2] ?_
 refine sr ?_
 refine sq ?_
 refine .al hs ?_;clear hs;intro p_b3 w_3 hs n3 kb_b3
 replace xv:=xv.bl n3;replace xm:=xm.bl n3
 refine sq ?_
 refine .s4 hs.g0 (fun _=>hs.u0 kb_b3) ?_;clear hs;intro w_4 hs hd4 ho4
 replace xv:=xv.frame ho4 (Nat.ne_of_lt (Nat.lt_of_lt_of_le lt_bv kb_b3));replace xm:=xm.frame ho4 (Nat.ne_of_lt (Nat.lt_of_lt_of_le lt_bm kb_b3))
 refine ze (hK2 _ _ ?_)
 refine zk fun K3 hK3 => ?_
 refine zk fun K4 hK4=>rg [0,1,2] ?_
 refine sq ?_
 refine .r1 xv.f1 ?_
 refine sq ?_
 refine .r1 xm.f1 ?_
 refine sq ?_
 intro K hK
 go_big_op
 go_fit (mkBesideGS)
 rintro e w_5 ⟨p_ita,p_itb,rfl,kb_ita,kb_itb,hs_it,hb_5⟩
 have kz_it:=hs.k;replace hs:=hs.app2 hs_it kb_ita kb_itb;replace kb_ita:=Nat.le_trans kz_it kb_ita;replace kb_itb:=Nat.le_trans kz_it kb_itb
 refine hK _ _ rfl trivial ?_
 clear hK K
 refine ze (hK4 _ _ ?_)
 refine wp_block ?_
 refine wp_rangeN (X:=Nat × Value × Value × Value × Value) (fun k x=>x.1=k) (fun _ _ _=>False) (fun x=>[bx p_ita #[.slice ou n cu] 24,bx p_itb #[.slice ov n cv] 22,bx p_b3 #[x.2.1,x.2.2.1,x.2.2.2.1,x.2.2.2.2] 45,bx p_b2 #[.bool false,.slice none 0 0,.bool false,.slice none 0 0] 45,bx p_b1 #[.int .i64 (j:Int)] 3])
  (fun x W=>PC W (.agg #[x.2.1,x.2.2.1,x.2.2.2.1,x.2.2.2.2]) (sumP x.1 f).1 (sumP x.1 f).2) (itGS (c1:=cu) (c2:=cv) (t1:=t1) (t2:=t2) (fz1:=z1) (fz2:=z2) (by omega) HI.out.1 HI.out.2 (fun h=>(HB.out.1 h).1) (fun h=>(HB.out.2 h).1)) (0,.bool false,.slice none 0 0,.bool false,.slice none 0 0) rfl hs (.mk' (zc_zero _) (zc_zero _)) ?hR ?hF ?round ?done ?stop
 case hR=>exact fun x W hst _=>⟨hst.g0,hst.g1,fun h=>⟨(HB.out.1 h).2.bl hst.b,(HB.out.2 h).2.bl hst.b⟩⟩
 case hF=>exact fun x A B h c=>h.k c.kp
 case stop=>exact fun l D r c k x W hk hD hI=>hI.elim
 case round =>
  intro l D r d k x W hk hI hs hf
  obtain⟨k',c0,c1,c2,c3⟩:=x
  obtain rfl:k'=k:=hI
  obtain⟨n1,o1,k1,q1,n2,o2,k2,q2,hcs,s1,s2⟩:=hf
  simp only[Value.agg.injEq,Array.mk.injEq,List.cons.injEq,and_true] at hcs
  obtain⟨rfl,rfl,rfl,rfl⟩:=hcs
  obtain⟨a1,a2,a3,a4,a5,a6,a7,a8,e1,e2,e3,e4,x1,x2⟩:=HD.out.1 k' (by omega)
  obtain⟨o3,c3,e5,hrow⟩:=HD.out.2 k' (by omega)
  rw[←rw_eq (Ms:=M) (by omega)] at e5 hrow
  obtain⟨g3,off3,cur3,ty3,fz3,d1,d2,d3,d4,d5,d6,d7,d8,rfl,x3,e6,e7,e8,e9,y1,y2⟩:=hrow.op (HJ.out k' hk)
  have hj':=HJ.out k' hk
  obtain⟨m,hm'⟩:∃m,(rw_ M k').length=m:=⟨_,rfl⟩
  rw[hm'] at e5 hj'
  rw[←at1_eq (ps:=V) (by omega)] at x1 x2
  simp only[enG,cg_eq e1,cg_eq e2,cg_eq e3,cg_eq e4,cg_eq e5,List.zip_toArray,List.zip_cons_cons,List.zip_nil_right,List.foldl_toArray',List.foldl_cons,List.foldl_nil,List.setIfInBounds_toArray,List.set_cons_succ,List.set_cons_zero]
  replace x1:ZN W (.agg #[.bool a1,.slice a2 a3 a4]) (at1 V k').1 lu:=x1.bl hs.b
  replace x2:ZN W (.agg #[.bool a5,.slice a6 a7 a8]) (at1 V k').2 lu:=x2.bl hs.b
  replace y1:ZN W (.agg #[.bool d1,.slice d2 d3 d4]) (at2 M k' j).1 lv:=y1.bl hs.b
  replace y2:ZN W (.agg #[.bool d5,.slice d6 d7 d8]) (at2 M k' j).2 lv:=y2.bl hs.b
  have lt_kRM:=x3.lt
  replace x3:=x3.bl hs.b
  have hz:zl (lu+lv+1+k') (sumP k' f):=zl_sum fun i hi=>by rw[HF.out];exact zl_mP HU.out.1.at1 HU.out.2.at2
  have Ls1:=hide hz.1
  have Ls2:=hide hz.2
  have HE:=hide (show sumP (k'+1) f=aP (sumP k' f) (mP (at1 V k') (at2 M k' j)) from by rw[show f=fun i=>mP (at1 V i) (at2 M i j) from HF.out];rfl)
  generalize at1 V k'=u at *
  generalize at2 M k' j=v at *
  clear hz hrow hm'
  generalize sumP k' f=S at *
  refine wpIn_seq_k ?_
  intro K5 hK5
  refine rgR [0,1] ?_
  refine sq ?_
  refine .al hs ?_;clear hs;intro p_b4 w_6 hs n6 kb_b4
  replace x3:=x3.bl n6
  refine sq ?_
  refine .s4 hs.g0 (fun _=>hs.u0 kb_b4) ?_;clear hs;intro w_7 hs hd7 ho7
  replace x3:=x3.frame ho7 (Nat.ne_of_lt (Nat.lt_of_lt_of_le lt_kRM kb_b4))
  refine ze (hK5 _ _ ?_)
  refine rgR [0] ?_
  refine sm ?_
  apply wpSq_end
  try dsimp only [Exit.then,Exit.inBlock]
  refine⟨_,1,hs,rfl,?_⟩;clear hs;intro r_8 w_8 hs cm_8;simp only[List.set_cons_succ,List.set_cons_zero] at hs
  replace x3:=x3.cm cm_8
  refine wpIn_block ?_
  refine wp_region_f4R [(0,false),(1,false),(2,false),(3,false),(4,false),(5,false),(6,true),(7,true)] [8] [] (fun _=>default) [0,1,99,2,99,3,99,99,99] [(8,0)] (.c hs.g5 (.c hs.g0 (.c hs.g7 (.c x3 .n)))) fn fun w_9 n9 => ?_
  replace x3:=x3.bl n9;replace hs:=hs.bl n9
  refine f4 ?_
  refine f4 ?_
  refine fmv ?_
  refine f1 ?_
  refine f0 ?_
  apply wpFl_ld rfl rfl;(case h1=>intro w' hC K hK;have c0:=Bs.cell hC ((off3+j*4)) e6;have c1:=Bs.cell hC ((off3+j*4)+1) e7;have c2:=Bs.cell hC ((off3+j*4)+2) e8;have c3:=Bs.cell hC ((off3+j*4)+3) e9;go_big_op;exact hK);iterate 4 kernel_rfl
  refine fl fun w_10 n10 => ?_
  replace x3:=x3.bl n10;replace hs:=hs.bl n10
  intro K hK
  have k0_5:=((((kb n6).o hd7 ho7).t cm_8.kp).b n9).b n10
  replace x1:=x1.k k0_5
  replace x2:=x2.k k0_5
  replace y1:=y1.k k0_5
  replace y2:=y2.k k0_5
  go_big_op
  go_fit (gMul_any (PN.mk' x1 x2) (PN.mk' y1 y2) (by omega) (by omega) (by omega) (by omega) )
  rintro e w_11 ⟨_,rfl,⟨n_ba,o_ba,k_ba,c_ba,n_bb,o_bb,k_bb,c_bb,rfl,b1,b2⟩,hb_11⟩
  replace x3:=x3.bl hb_11;replace hs:=hs.bl hb_11
  have Lb1:=hide (b1.lenOf (zlen_sub (zlen_mul (x1.len) (y1.len)) (zlen_mul (x2.len) (y2.len))))
  have Lb2:=hide (b2.lenOf (zlen_add (zlen_mul (x1.len) (y2.len)) (zlen_mul (x2.len) (y1.len))))
  refine hK _ _ rfl ⟨hb_11,(ai hs.g5 (ai hs.g0 (ai hs.g7 (ai x3 trivial))))⟩ ?_
  clear hK K
  refine fl fun w_12 n12 => ?_
  replace x3:=x3.bl n12;replace hs:=hs.bl n12
  intro K hK
  have k0_7:=(k0_5.b hb_11).b n12
  replace s1:=s1.k k0_7
  replace s2:=s2.k k0_7
  have k6_7:=kb n12
  replace b1:=b1.k k6_7
  replace b2:=b2.k k6_7
  go_big_op
  go_fit (gAdd_any (PN.mk' (s1.zn Ls1.out) (s2.zn Ls2.out)) (PN.mk' (b1.zn Lb1.out) (b2.zn Lb2.out)) (by omega) (by omega) (by omega) (by omega) )
  rintro e w_13 ⟨_,rfl,⟨n_ca,o_ca,k_ca,c_ca,n_cb,o_cb,k_cb,c_cb,rfl,c1,c2⟩,hb_13⟩
  replace x3:=x3.bl hb_13;replace hs:=hs.bl hb_13
  refine hK _ _ rfl ⟨hb_13,(ai hs.g5 (ai hs.g0 (ai hs.g7 (ai x3 trivial))))⟩ ?_
  clear hK K
  refine e0 hs ?_;clear hs;intro w_14 hs n14
  replace x3:=x3.bl n14
  refine tl ?_
  refine .s4o hs.g5 (fun _=>hs.u5 kb_b3) ?_ (e:=fun _ hs hO=>(ai trivial (ai hs.g0 (ai hs.g7 (ai (x3.frame hO (Nat.ne_of_lt (Nat.lt_of_lt_of_le lt_kRM kb_b3))) trivial)))));clear hs;intro w_15 hs hd15 ho15
  replace x3:=x3.frame ho15 (Nat.ne_of_lt (Nat.lt_of_lt_of_le lt_kRM kb_b3))
  apply wpTail_end
  try dsimp only [Exit.then,Exit.inBlock]
  have k8_10:=(kb n14).o hd15 ho15
  replace c1:=c1.k k8_10
  replace c2:=c2.k k8_10
  exact⟨(k'+1,_,_,_,_),rfl,hs.sub (.cons _ (List.Sublist.refl _)),by show PC _ _ (sumP (k'+1) f).1 (sumP (k'+1) f).2;rw[HE.out];exact .mk' c1 c2⟩
 case done =>
  intro l D r x W hD hI hs hf
  obtain⟨k',c0,c1,c2,c3⟩:=x
  obtain rfl:k'=n:=hI
  obtain⟨n1,o1,k1,q1,n2,o2,k2,q2,hcs,s1,s2⟩:=hf
  simp only[Value.agg.injEq,Array.mk.injEq,List.cons.injEq,and_true] at hcs
  obtain⟨rfl,rfl,rfl,rfl⟩:=hcs
  try dsimp only [Exit.then,Exit.inBlock]
  refine hK3 _ _ ?_
  refine zk fun K5 hK5=>rg [0,1] ?_
  refine sq ?_
  refine .r4 hs.g4.f4 ?_
  refine sq ?_
  refine .s4 hs.g5 (fun _=>hs.u5 kb_b2) ?_;clear hs;intro w_6 hs hd6 ho6
  refine ze (hK5 _ _ ?_)
  refine wp_ret ?_
  try dsimp only [Exit.then,Exit.inBlock]
  refine ret_mark (hs.obj 1) fun w_7 e_7 => ?_
  have cm_7:=Cm.po (.deferred none) (hs.obj 1) rfl
  replace hs:=hs.po 1 (.deferred none) hD;rw[e_7] at hs cm_7;clear e_7;simp only[List.set_cons_succ,List.set_cons_zero] at hs
  obtain⟨r0_0,r0_1,r0_2,r0_3⟩:=hs.g5.f4
  refine⟨(.agg #[.bool n1,.slice o1 k1 q1,.bool n2,.slice o2 k2 q2]),by simp[results,Tryz.results110,go_sem,r0_0,r0_1,r0_2,r0_3],?_⟩
  have k0_2:=(ko hd6 ho6).t cm_7.kp
  replace s1:=s1.k k0_2
  replace s2:=s2.k k0_2
  exact⟨_,rfl,.mk' s1 s2,hs.b⟩
end
def one2 (i j:Nat):Int × Int:=if i=j then (1,0) else (0,0)
section
variable {w:World} {l la lb n na nb cm ca cb i j:Nat} {om oa ob:Option Addr} {Ms A B:List (List (Int × Int))} {vg:Value} {u v:Int}
theorem ident1 (hi:i≤1000) (hj:j≤1000) :
  Calls Tryz.prog 116 (#[.int .i64 (i:Int),.int .i64 (j:Int)] ++ #[]) w fun e w'=>∃v,e = .returned v∧PC w' v (one2 i j).1 (one2 i j).2∧Below w.heap.size w w':=by
 show Calls _ _ #[.int .i64 (i:Int),.int .i64 (j:Int)] w _
 by_cases h:i=j
 ·have e:one2 i j=(1,0):=if_pos h
  have t1:((i:Int)==(j:Int))=true:=by rw[h];simp
  rw[e]
  clear e h
  go_enter Tryz.func116,Tryz.ntmps116
  have hs:=St.nil w
  refine zk fun K1 hK1=>rg [0] ?_
  refine sq ?_
  refine .al hs ?_;clear hs;intro p_b1 w_1 hs n1 kb_b1
  refine ze (hK1 _ _ ?_)
  refine zk fun K2 hK2 => ?_
  refine zk fun K3 hK3=>rg [0,1,2] ?_
  refine xmm ?_
  refine sr (ze (hK3 _ _ ?_))
  refine ct ?_
  refine zk fun K4 hK4=>rg [0,1] ?_
  refine sq ?_
  intro K hK
  go_big_op
  go_fit (gFrom_any 1 0 _ (by omega) (by omega) (by omega) (by omega))
  rintro e w_2 ⟨_,rfl,⟨n_ga,o_ga,k_ga,c_ga,n_gb,o_gb,k_gb,c_gb,rfl,g1,g2⟩,hb_2⟩
  replace hs:=hs.bl hb_2
  refine hK _ _ rfl trivial ?_
  clear hK K
  refine sq ?_
  refine .s4 hs.g0 (fun _=>hs.u0 kb_b1) ?_;clear hs;intro w_3 hs hd3 ho3
  refine ze (hK4 _ _ ?_)
  refine wp_ret ?_
  try dsimp only [Exit.then,Exit.inBlock]
  obtain⟨r0_0,r0_1,r0_2,r0_3⟩:=hs.g0.f4
  refine bodyPost_ret (v:=(.agg #[.bool n_ga,.slice o_ga k_ga c_ga,.bool n_gb,.slice o_gb k_gb c_gb])) (by simp[results,Tryz.results116,go_sem,r0_0,r0_1,r0_2,r0_3]) rfl ?_
  have k2_3:=ko hd3 ho3
  replace g1:=g1.k k2_3
  replace g2:=g2.k k2_3
  exact⟨_,rfl,.mk' g1 g2,hs.b⟩
 ·have e:one2 i j=(0,0):=if_neg h
  have t1:((i:Int)==(j:Int))=false:=beq_eq_false_iff_ne.2 (by omega)
  rw[e]
  clear e
  go_enter Tryz.func116,Tryz.ntmps116
  have hs:=St.nil w
  refine zk fun K1 hK1=>rg [0] ?_
  refine sq ?_
  refine .al hs ?_;clear hs;intro p_b1 w_1 hs n1 kb_b1
  refine ze (hK1 _ _ ?_)
  refine zk fun K2 hK2 => ?_
  refine zk fun K3 hK3=>rg [0,1,2] ?_
  refine xmm ?_
  refine sr (ze (hK3 _ _ ?_))
  refine cf ?_
  refine wp_skip ?_
  refine hK2 _ _ ?_
  refine zk fun K4 hK4=>rg [0,1] ?_
  refine sr ?_
  refine sq ?_
  refine .s4 hs.g0 (fun _=>hs.u0 kb_b1) ?_;clear hs;intro w_2 hs hd2 ho2
  refine ze (hK4 _ _ ?_)
  refine wp_ret ?_
  try dsimp only [Exit.then,Exit.inBlock]
  obtain⟨r0_0,r0_1,r0_2,r0_3⟩:=hs.g0.f4
  refine bodyPost_ret (v:=(.agg #[.bool false,.slice none 0 0,.bool false,.slice none 0 0])) (by simp[results,Tryz.results116,go_sem,r0_0,r0_1,r0_2,r0_3]) rfl ?_
  exact⟨_,rfl,.mk' (zc_zero w_2) (zc_zero w_2),hs.b⟩
theorem mIdent_ok (hn:n≤64) :
  Calls Tryz.prog 57 #[.int .i64 (n:Int)] w fun e w'=>∃o c rs,e = .returned (.tuple #[.slice o n c,.int .i64 0])∧rs.length=n∧St w (Mx w.heap.size (.slice o n c) rs) w'∧RD w' rs (mkM n n one2)∧Below w.heap.size w w':=by
 go_enter Tryz.func57,Tryz.ntmps57
 have hs:=St.nil w
 refine zk fun K1 hK1=>rg [0,1] ?_
 refine sm ?_
 refine sm (ze (hK1 _ _ ?_))
 refine zk fun K2 hK2 => ?_
 refine zk fun K3 hK3=>rg [0,1] ?_
 refine sm ?_
 refine sr (ze (hK3 _ _ ?_))
 refine cf ?_
 refine wp_skip ?_
 refine hK2 _ _ ?_
 refine zk fun K4 hK4 => ?_
 refine zk fun K5 hK5=>rg [0,1] ?_
 refine sm ?_
 refine sr (ze (hK5 _ _ ?_))
 refine cf ?_
 refine wp_skip ?_
 refine hK4 _ _ ?_
 refine zk fun K6 hK6=>rg [0,1,2,3,4] ?_
 refine xmm ?_
 refine sq ?_
 intro K hK
 go_big_op
 go_fit (matrix_any (F:=one2) (fun _ _ _↦by kernel_rfl) (fun i j w1 hi hj h1↦ident1 (by omega) (by omega)) (by omega) (by omega))
 rintro e w_1 ⟨o_r,c_r,rs_r,rfl,hl_r,hs_r,d_r,hb_1⟩
 replace hs:=hs.mx hl_r hs_r;simp only[List.nil_append] at hs
 refine hK _ _ rfl trivial ?_
 clear hK K
 refine sm ?_
 refine sm (ze (hK6 _ _ ?_))
 refine wp_ret ?_
 try dsimp only [Exit.then,Exit.inBlock]
 refine bodyPost_ret (v:=(.tuple #[(.slice o_r n c_r),(.int .i64 0)])) (by simp[results,Tryz.results57,go_sem]) rfl ?_
 exact⟨_,_,_,rfl,hl_r,(by unfold Mx;rw[hl_r];exact hs),d_r,hs.b⟩
theorem mSize_ok (ha:MN la w oa A) (hna:A.length=na) (h:gd A) {k:Nat} (hk:wd A=k) :
  Calls Tryz.prog 19 #[.slice oa na ca] w fun e w'=>e = .returned (.tuple #[.int .i64 (na:Int),.int .i64 (k:Int),.int .i64 0])∧Below w.heap.size w w':=by
 have HA:=hide ha
 have hn64:na≤64:=by have:=h.1;omega
 clear ha
 go_enter Tryz.func19,Tryz.ntmps19
 have hs:=St.nil w
 refine zk fun K1 hK1=>rg [0,1,2] ?_
 refine xmm ?_
 refine sm (ze (hK1 _ _ ?_))
 refine zk fun K2 hK2 => ?_
 refine zk fun K3 hK3=>rg [0,1,2] ?_
 refine sm ?_
 refine sq ?_
 intro K hK
 have hb:=hs.b
 go_big_op
 go_fit (good_yes (HA.out.bl stab_n hb) hna (by omega) h)
 rintro e w_1 ⟨rfl,hb_1⟩
 clear hb
 replace hs:=hs.bl hb_1
 refine hK _ _ rfl trivial ?_
 clear hK K
 refine sr (ze (hK3 _ _ ?_))
 refine cf ?_
 refine wp_skip ?_
 refine hK2 _ _ ?_
 refine zk fun K4 hK4=>rg [0,1,2,3,4,5,6] ?_
 refine xmr ?_
 refine sm ?_
 refine sq ?_
 intro K hK
 have hb:=hs.b
 go_big_op
 go_fit (width_any (HA.out.bl stab_n hb) hna hk)
 rintro e w_2 ⟨rfl,hb_2⟩
 clear hb
 replace hs:=hs.bl hb_2
 refine hK _ _ rfl trivial ?_
 clear hK K
 refine xmm ?_
 refine sm (ze (hK4 _ _ ?_))
 refine wp_ret ?_
 try dsimp only [Exit.then,Exit.inBlock]
 refine bodyPost_ret (v:=(.tuple #[(.int .i64 ((na:Nat):Int)),(.int .i64 (k:Int)),(.int .i64 0)])) (by simp[results,Tryz.results19,go_sem]) rfl ?_
 exact⟨rfl,hs.b⟩
theorem mSize_bad (ha:MN la w oa A) (hna:A.length=na) (h:¬gd A) (hla:na≤1000000000) :
  Calls Tryz.prog 19 #[.slice oa na ca] w fun e w'=>e = .returned (.tuple #[.int .i64 0,.int .i64 0,.int .i64 4])∧Below w.heap.size w w':=by
 have HA:=hide ha
 clear ha
 go_enter Tryz.func19,Tryz.ntmps19
 have hs:=St.nil w
 refine zk fun K1 hK1=>rg [0,1,2] ?_
 refine xmm ?_
 refine sm (ze (hK1 _ _ ?_))
 refine zk fun K2 hK2 => ?_
 refine zk fun K3 hK3=>rg [0,1,2] ?_
 refine sm ?_
 refine sq ?_
 intro K hK
 have hb:=hs.b
 go_big_op
 go_fit (good_no (HA.out.bl stab_n hb) hna hla h)
 rintro e w_1 ⟨rfl,hb_1⟩
 clear hb
 replace hs:=hs.bl hb_1
 refine hK _ _ rfl trivial ?_
 clear hK K
 refine sr (ze (hK3 _ _ ?_))
 refine ct ?_
 refine zk fun K4 hK4=>rg [0,1,2] ?_
 refine xmm ?_
 refine sm (ze (hK4 _ _ ?_))
 refine wp_ret ?_
 try dsimp only [Exit.then,Exit.inBlock]
 refine bodyPost_ret (v:=(.tuple #[(.int .i64 0),(.int .i64 0),(.int .i64 4)])) (by simp[results,Tryz.results19,go_sem]) rfl ?_
 exact⟨rfl,hs.b⟩
end
end Go.Proofs.YthmolpepinolkaaGreat
