/- 'GdetSolves' holds for every input of bulk at most 1048576, whatever the world about it. The walk: YthmolpepinolkaaGreatVGdetSolves. -/
import Derived.JoinedCond
import Derived.ProofKit
import Derived.OpenShut
import Derived.ShutString
import Derived.Deep.DeepHandedRow
import Derived.Lib.LaidTab
import Derived.Lib.SmallJoins
import Derived.Test.YthmolpepinolkaaGreatVGdetSolves
namespace Go.Proofs.YthmolpepinolkaaGreat.gdetSolves
open Go.ChangeShapes Go.WideShapes Go.ChangeAt Go.RowKit
set_option maxHeartbeats 800000
set_option maxRecDepth 100000
open Go.ChangeMaps (open_string shut_string)
set_option linter.unusedVariables false
theorem own:ownKnob Tryz.prog.godebug=none:=by kernel_rfl
theorem laidOut:laidOutB Tryz.prog=true:=by kernel_rfl
theorem one_le {H:Type} (d:DataW H):1≤Rows.uptoBulk d:=by
 cases d with
 | lit l=>cases l <;> simp[Rows.uptoBulk]
 | nil=>simp[Rows.uptoBulk]
 | ptr d=>simp[Rows.uptoBulk]
 | slice elems spare=>simp[Rows.uptoBulk]
 | agg parts=>simp[Rows.uptoBulk]
 | iface t d=>simp[Rows.uptoBulk]
 | map entries=>simp[Rows.uptoBulk]
 | held h=>simp[Rows.uptoBulk]
theorem part_le {H:Type} {d:DataW H} {l:List (DataW H)} (h:d ∈ l):Rows.uptoBulk d≤Rows.uptoBulkAll l:=by
 induction l with
 | nil=>cases h
 | cons x r ih =>
  simp only[Rows.uptoBulkAll]
  cases List.mem_cons.1 h with
  | inl e=>subst e;omega
  | inr e=>have:=ih e;omega
theorem length_le {H:Type} (l:List (DataW H)):l.length≤Rows.uptoBulkAll l:=by
 induction l with
 | nil=>simp[Rows.uptoBulkAll]
 | cons x r ih=>have:=one_le x;simp only[Rows.uptoBulkAll,List.length_cons];omega
theorem slice_le {H:Type} (elems spare:List (DataW H)):elems.length+spare.length+1≤Rows.uptoBulk (.slice elems spare):=by
 have h1:=length_le elems
 have h2:=length_le spare
 simp only[Rows.uptoBulk]
 omega
theorem lits_len {H:Type} (k:IntKind) (zs:List Int):(lits (H:=H) k zs).length=zs.length:=by simp[lits]
theorem bound {H:Type} {l:List (DataW H)} (hk:Rows.uptoSmall H l=true):Rows.uptoBulkAll l≤1048576:=of_decide_eq_true hk
theorem rd_of {W:World} {x:Addr} {len cap:Nat} {zs:List Int} (hl:len≤cap) (hz:zs.length=cap) (hcell:∀i,i<zs.length→W.cell? (x.add i)=some (.int .u32 (zs.getD i 0))) (hwz:∀n ∈ zs,(Lit.int .u32 n).wf=true) :
  Rd W (.slice (some x) len cap) ((zs.take len).map Int.toNat):=by
 have hlen:((zs.take len).map Int.toNat).length=len:=by rw[List.length_map,List.length_take];omega
 have hnn:∀i,i<zs.length→0≤zs.getD i 0∧zs.getD i 0<4294967296:=fun i hi=>by
  have hm:zs.getD i 0 ∈ zs:=by simp[List.getD,List.getElem?_eq_getElem hi]
  have h:=bounds_u32 (hwz _ hm)
  omega
 refine⟨some x,cap,by rw[hlen],by rw[hlen];exact hl,?_,?_⟩
 ·intro d hd
  obtain⟨z,hz',rfl⟩:=List.mem_map.1 hd
  obtain⟨i,hi,e⟩:=List.getElem_of_mem (List.mem_of_mem_take hz')
  have:=hnn i hi
  have e2:zs.getD i 0=z:=by simp[List.getD,List.getElem?_eq_getElem hi,e]
  omega
 ·by_cases h0:len=0
  ·subst h0;exact .inl rfl
  ·have hsp:x.spot=none:=by
    have:=hcell 0 (by omega)
    have e:x.add 0=x:=by simp[Addr.add]
    rw[e] at this
    cases hx:x.spot with
    | none=>rfl
    | some s =>
     simp only[World.cell?,hx] at this
     split at this <;> simp at this
   obtain⟨b,off,sp⟩:=x
   simp only at hsp
   subst hsp
   refine .inr ⟨b,off,rfl,fun i hi => ?_⟩
   rw[hlen] at hi
   have:=hcell i (by omega)
   rw[Lib.add_plain] at this
   rw[this]
   have h1:=hnn i (by omega)
   have e:((zs.take len).map Int.toNat)[i]?.getD 0=(zs.getD i 0).toNat:=by
    simp[List.getD,List.getElem?_take_of_lt hi,List.getElem?_eq_getElem (show i<zs.length by omega)]
   rw[e,Int.toNat_of_nonneg h1.1]
theorem pick_list {α:Type} {Q:Nat→α→Prop}:∀n,(∀i,i<n→∃a,Q i a)→∃l:List α,l.length=n∧∀i (hi:i<l.length),Q i l[i]
 | 0,_=>⟨[],rfl,fun i hi=>absurd hi (Nat.not_lt_zero _)⟩
 | n+1,h=>by
  obtain⟨l,hl,hq⟩:=pick_list n fun i hi=>h i (by omega)
  obtain⟨a,ha⟩:=h n (by omega)
  refine⟨l++[a],by simp[hl],fun i hi => ?_⟩
  by_cases h0:i<l.length
  ·rw[List.getElem_append_left h0];exact hq i h0
  ·have h1:i=n:=by simp at hi;omega
   subst h1
   have:(l++[a])[i]=a:=by simp[←hl]
   rw[this];exact ha
theorem plain_of {W:World} {x:Addr} {v:Value} (h:W.cell? x=some v):∃b off cur ty fz,x=⟨b,off,none⟩∧Bs W b cur ty fz∧cur[off]? = some v:=by
 obtain⟨b,off,sp⟩:=x
 unfold World.cell? at h
 split at h
 ·rename_i c ty fz hc
  cases sp with
  | none=>exact⟨b,off,c,ty,fz,rfl,hc,by simpa using h⟩
  | some s=>simp at h
 ·cases h
theorem cell_of {W:World} {b off:Nat} {cur:Array Value} {ty:TypeId} {fz:Nat × Nat} (x:Bs W b cur ty fz):W.cell? ⟨b,off,none⟩=cur[off]?:=by
 unfold World.cell?
 have:W.heap[b]? = some (.cells cur ty fz):=x
 simp only[this]
 rfl
section
variable {H:Type} {enc:TypeId × Value→H} {W:World} {fuel:Nat} {cs:List Value} {x:DataW H × List MemPlace}
theorem zOf {B:Nat} (h:DataW.trod enc Tryz.prog W 0 (fun _=>true) true fuel 37 cs=some x) (hb:Rows.uptoBulk x.1≤B):∃b o k c z,cs=[.bool b,.slice o k c]∧ZN W (.agg #[.bool b,.slice o k c]) z B:=by
 obtain⟨y0,y1,n,hx,hl,h0,h1⟩:=Go.ChangeShapes.trod_struct2 Tryz.underlying37 h
 simp only[show Tryz.prog.cellsOf 4=1 by kernel_rfl] at h0
 simp only[show Tryz.prog.cellsOf 35=1 by kernel_rfl] at h1
 rw[show Tryz.prog.cellsOf 37=2 by kernel_rfl] at hl
 match cs,hl with
 | [c0,c1],_ =>
  simp only[List.drop,List.take] at h0 h1
  obtain⟨b,hb0,_⟩:=DataW.trod_bool Tryz.underlying4 h0
  obtain rfl:c0 = .bool b:=by simpa using hb0
  have bs:Rows.uptoBulk y1.1≤B:=by
   rw[hx] at hb
   simp only[Rows.uptoBulk,Rows.uptoBulkAll] at hb
   omega
  rcases open_ints Tryz.underlying35 Tryz.underlying119 (by kernel_rfl) h1 with ⟨hcs,_⟩ | ⟨x,l,c,zs,hcs,_,hl,hm,hz,hx,hcell,hwz⟩
  ·obtain rfl:c1 = .slice none 0 0:=by simpa using hcs
   exact⟨b,none,0,0,_,rfl,b,_,[],rfl,⟨none,0,rfl,Nat.le_refl _,Dig.OK.nil,.inl rfl⟩,rfl,by simp⟩
  ·obtain rfl:c1 = .slice (some x) l c:=by simpa using hcs
   have hz':zs.length=c:=by simpa using hz
   refine⟨b,some x,l,c,_,rfl,b,_,_,rfl,rd_of hl hz' hcell hwz,rfl,?_⟩
   have hd:y1.1 = .slice (lits .u32 (zs.take l)) (lits .u32 (zs.drop l)):=congrArg Prod.fst hx
   rw[hd] at bs
   have h1:=slice_le (lits (H:=H) .u32 (zs.take l)) (lits .u32 (zs.drop l))
   simp only[lits_len] at h1
   simp only[List.length_map]
   omega
theorem gOf {B:Nat} (h:DataW.trod enc Tryz.prog W 0 (fun _=>true) true fuel 45 cs=some x) (hb:Rows.uptoBulk x.1≤B) :
  ∃b1 o1 k1 c1 b2 o2 k2 c2 p,cs=[.bool b1,.slice o1 k1 c1,.bool b2,.slice o2 k2 c2]∧ZN W (.agg #[.bool b1,.slice o1 k1 c1]) (p:Int × Int).1 B∧ZN W (.agg #[.bool b2,.slice o2 k2 c2]) p.2 B:=by
 obtain⟨y0,y1,n,hx,hl,h0,h1⟩:=Go.ChangeShapes.trod_struct2 Tryz.underlying45 h
 simp only[show Tryz.prog.cellsOf 37=2 by kernel_rfl] at h0 h1
 rw[show Tryz.prog.cellsOf 45=4 by kernel_rfl] at hl
 match cs,hl with
 | [c0,c1,c2,c3],_ =>
  simp only[List.drop,List.take] at h0 h1
  have bs:Rows.uptoBulk y0.1≤B∧Rows.uptoBulk y1.1≤B:=by
   rw[hx] at hb
   simp only[Rows.uptoBulk,Rows.uptoBulkAll] at hb
   omega
  obtain⟨b1,o1,k1,d1,z1,e1,hz1⟩:=zOf h0 bs.1
  obtain⟨b2,o2,k2,d2,z2,e2,hz2⟩:=zOf h1 bs.2
  simp only[List.cons.injEq,and_true] at e1 e2
  obtain⟨rfl,rfl⟩:=e1
  obtain⟨rfl,rfl⟩:=e2
  exact⟨b1,o1,k1,d1,b2,o2,k2,d2,(z1,z2),rfl,hz1,hz2⟩
theorem svOf {B:Nat} (h:DataW.trod enc Tryz.prog W 0 (fun _=>true) true fuel 24 cs=some x) (hb:Rows.uptoBulk x.1≤B) :
  ∃o c ps,cs=[.slice o (ps:List (Int × Int)).length c]∧SN B W o ps∧ps.length≤B:=by
 rcases DataW.trod_slice Tryz.underlying24 h with ⟨rfl,_⟩ | ⟨a,len,cap,elems,rest,n,_,rfl,rfl,_,hlc,_,hlen,hel,_⟩
 ·exact⟨none,0,[],rfl,.inl rfl,by simp⟩
 simp only[show Tryz.prog.cellsOf 45=4 by kernel_rfl] at hel
 have hall:Rows.uptoBulkAll (elems.map (·.1))≤B:=by simp only[Rows.uptoBulk] at hb;omega
 have hn:len≤B:=by have:=length_le (elems.map (·.1));simp only[List.length_map] at this;omega
 rcases Nat.eq_zero_or_pos len with h0 | h0
 ·exact⟨some a,cap,[],by rw[h0];rfl,.inl rfl,by simp⟩
 have key:∀i,i<len→∃b1 o1 k1 c1 b2 o2 k2 c2 p,(∀q,q<4→W.cell? ((a.add (i*4)).add q)=[Value.bool b1,.slice o1 k1 c1,.bool b2,.slice o2 k2 c2][q]?)∧ZN W (.agg #[.bool b1,.slice o1 k1 c1]) (p:Int × Int).1 B∧ZN W (.agg #[.bool b2,.slice o2 k2 c2]) p.2 B:=by
  intro i hi
  have h1:=hel i hi
  rw[List.getElem?_eq_getElem (by omega)] at h1
  obtain⟨cs,h2,h3⟩:=Option.bind_eq_some_iff.1 h1
  obtain⟨b1,o1,k1,c1,b2,o2,k2,c2,p,rfl,hz⟩:=gOf h3 (Nat.le_trans (part_le (List.mem_map.2 ⟨_,List.getElem_mem (show i<elems.length by omega),rfl⟩)) hall)
  exact⟨b1,o1,k1,c1,b2,o2,k2,c2,p,(World.cells?_some h2).2.2,hz⟩
 obtain⟨b1,o1,k1,c1,b2,o2,k2,c2,p,hc,_⟩:=key 0 h0
 have hc0:=hc 0 (by decide)
 rw[show ((a.add (0*4)).add 0)=a by simp[Addr.add]] at hc0
 obtain⟨g,off,cur,ty,fz,rfl,xb,_⟩:=plain_of hc0
 obtain⟨ps,hps,hq⟩:=pick_list (Q:=fun i p=>El (RN B) W cur (off+i*4) p) len fun i hi=>by
  obtain⟨b1,o1,k1,c1,b2,o2,k2,c2,p,hc,hz1,hz2⟩:=key i hi
  have f:=fun q hq=>hc q hq
  simp only[Lib.add_plain,cell_of xb] at f
  exact⟨p,b1,o1,k1,c1,b2,o2,k2,c2,f 0 (by decide),f 1 (by decide),f 2 (by decide),f 3 (by decide),hz1,hz2⟩
 exact⟨some ⟨g,off,none⟩,cap,ps,by rw[hps],.inr ⟨g,off,cur,ty,fz,rfl,xb,hq⟩,by omega⟩
end
theorem up_sum {H:Type}:∀l:List (DataW H),sN l.length (fun i=>(l[i]?.map Rows.uptoBulk).getD 0)≤Rows.uptoBulkAll l
 | []=>Nat.zero_le _
 | x::r=>by
  have:=up_sum r
  rw[List.length_cons,sN_head]
  simp only[Rows.uptoBulkAll,List.getElem?_cons_zero,Option.map_some,Option.getD_some,List.getElem?_cons_succ]
  omega
theorem mvOf {H:Type} {enc:TypeId × Value→H} {W:World} {fuel:Nat} {cs:List Value} {x:DataW H × List MemPlace} (h:DataW.trod enc Tryz.prog W 0 (fun _=>true) true fuel 23 cs=some x) (hb:Rows.uptoBulk x.1≤1048576) :
  ∃o c Ms,cs=[.slice o (Ms:List (List (Int × Int))).length c]∧MN 1048576 W o Ms∧Ms.length≤1048576∧(∀r ∈ Ms,r.length≤1048576)∧Tot 1048576 Ms:=by
 rcases DataW.trod_slice Tryz.underlying23 h with ⟨rfl,_⟩ | ⟨a,len,cap,elems,rest,n,_,rfl,rfl,_,hlc,_,hlen,hel,_⟩
 ·exact⟨none,0,[],rfl,.inl rfl,by simp,by simp,⟨fun _=>0,by simp[sN],fun i hi=>absurd hi (Nat.not_lt_zero _)⟩⟩
 simp only[show Tryz.prog.cellsOf 24=1 by kernel_rfl,Nat.mul_one] at hel
 have hall:Rows.uptoBulkAll (elems.map (·.1))≤1048576:=by simp only[Rows.uptoBulk] at hb;omega
 have hn:len≤1048576:=by have:=length_le (elems.map (·.1));simp only[List.length_map] at this;omega
 rcases Nat.eq_zero_or_pos len with h0 | h0
 ·exact⟨some a,cap,[],by rw[h0];rfl,.inl rfl,by simp,by simp,⟨fun _=>0,by simp[sN],fun i hi=>absurd hi (Nat.not_lt_zero _)⟩⟩
 let up:Nat→Nat:=fun i=>((elems.map (·.1))[i]?.map Rows.uptoBulk).getD 0
 have key:∀i,i<len→∃o c ps,W.cell? (a.add i)=some (.slice o (ps:List (Int × Int)).length c)∧SN 1048576 W o ps∧ps.length≤1048576∧Bd (up i) ps:=by
  intro i hi
  have h1:=hel i hi
  rw[List.getElem?_eq_getElem (by omega)] at h1
  obtain⟨cs,h2,h3⟩:=Option.bind_eq_some_iff.1 h1
  have hle:=Nat.le_trans (part_le (List.mem_map.2 ⟨_,List.getElem_mem (show i<elems.length by omega),rfl⟩)) hall
  obtain⟨o,c,ps,rfl,hz⟩:=svOf h3 (Nat.le_refl _)
  have hup:up i=Rows.uptoBulk elems[i].1:=by simp[up,show i<elems.length by omega]
  have:=(World.cells?_some h2).2.2 0 (by decide)
  rw[show (a.add i).add 0=a.add i by simp[Addr.add]] at this
  exact⟨o,c,ps,this,hz.1.up hle,Nat.le_trans hz.2 hle,by rw[hup];exact hz.1.bd⟩
 obtain⟨o,c,ps,hc,_⟩:=key 0 h0
 rw[show a.add 0=a by simp[Addr.add]] at hc
 obtain⟨g,off,cur,ty,fz,rfl,xb,_⟩:=plain_of hc
 obtain⟨Ms,hps,hq⟩:=pick_list (Q:=fun i (r:List (Int × Int))=>(∃o c,cur[off+i]? = some (.slice o r.length c)∧SN 1048576 W o r)∧r.length≤1048576∧Bd (up i) r) len fun i hi=>by
  obtain⟨o,c,ps,hc,hz1,hz2⟩:=key i hi
  rw[Lib.add_plain,cell_of xb] at hc
  exact⟨ps,⟨o,c,hc,hz1⟩,hz2⟩
 exact⟨some ⟨g,off,none⟩,cap,Ms,by rw[hps],.inr ⟨g,off,cur,ty,fz,rfl,xb,fun i hi=>(hq i hi).1⟩,by omega,fun r hr=>by
  obtain⟨i,hi,rfl⟩:=List.getElem_of_mem hr
  exact(hq i hi).2.1,⟨up,by rw[hps];refine Nat.le_trans (Nat.le_of_eq ?_) (Nat.le_trans (up_sum (elems.map (·.1))) hall);rw[List.length_map,show elems.length=len by omega],fun i hi=>(hq i hi).2.2⟩⟩
theorem contract (H:Type) (enc:TypeId × Value→H) (W:World) (base:Nat) (args:Array Value) (ds gs:List (DataW H)) (before:List MemPlace)
  (hval0:∀(j:Nat) t v,Tryz.f3.params[j]? = some t→args[j]? = some v→Value.okWide Tryz.prog W .any base t v)
  (hW:DataW.Whole enc Tryz.prog Tryz.f3.params.toList Rows.gdetSolvesSpec.vars false W args.toList ds gs before) (hk:Rows.uptoSmall H (ds++gs)=true) :
  Calls Tryz.prog 3 args W fun e W'=>∃v,e = .returned v∧Rows.gdetSolvesSpec.post enc Tryz.prog Tryz.f3 false true false false W args v W':=by
 have hval:=hval0
 have hW':=hW
 obtain⟨p,q,hA0,hV,rfl,hfz,hnd⟩:=hW
 have hA:DataW.TrodAll enc Tryz.prog W 0 (fun _=>true) true Tryz.f3.params.toList args.toList ds p:=hA0
 rw[Tryz.params3] at hA hval
 obtain⟨v0,vs0,d0,ds0,p0,q0,hargs,rfl,rfl,h0,r0⟩:=trodAll_cons hA
 obtain⟨v1,vs1,d1,ds1,p1,q1,rfl,rfl,rfl,h1,r1⟩:=trodAll_cons r0
 obtain⟨rfl,rfl,rfl⟩:=trodAll_nil r1
 obtain rfl:args = #[v0,v1]:=by cases args;simp_all
 obtain⟨rfl,rfl⟩:=trodVars_none hV
 have hbulk:=bound hk
 obtain⟨a0,len0,cap0,rfl⟩:=okWide_slice Tryz.underlying23 (hval 0 23 v0 rfl rfl)
 have k0:=h0
 have lt0:∀x ∈ p0,x.block<W.heap.size:=by obtain⟨m,hm⟩:=k0;exact DataW.trod_lt m _ _ _ hm
 have bk0:Rows.uptoBulk d0≤1048576:=Nat.le_trans (part_le (by simp)) hbulk
 obtain⟨fl0,hf0⟩:=h0
 obtain⟨o0,c0,L0,he0,hm0,hn0,hr0,ht0⟩:=mvOf hf0 bk0
 simp[Value.cells] at he0
 obtain⟨rfl,rfl,rfl⟩:=he0
 obtain⟨a1,len1,cap1,rfl⟩:=okWide_slice Tryz.underlying24 (hval 1 24 v1 rfl rfl)
 have k1:=h1
 have lt1:∀x ∈ p1,x.block<W.heap.size:=by obtain⟨m,hm⟩:=k1;exact DataW.trod_lt m _ _ _ hm
 have bk1:Rows.uptoBulk d1≤1048576:=Nat.le_trans (part_le (by simp)) hbulk
 obtain⟨fl1,hf1⟩:=h1
 obtain⟨o1,c1,L1,he1,hm1,hn1⟩:=svOf hf1 bk1
 simp[Value.cells] at he1
 obtain⟨rfl,rfl,rfl⟩:=he1
 clear hA0 hval0
 refine(walk_GdetSolves W _ _ _ L0 hm0 rfl hn0 ht0 _ _ _ L1 hm1 rfl hn1).mono fun e W' ⟨he,bel⟩ => ?_
 subst he
 exact⟨_,rfl,_,_,_,[],_,[],hW',trodAll_mk1 (shut_bool Tryz.underlying4 _),(trodAll_cons_mk (Below.trod laidOut (by kernel_rfl) (of_decide_eq_true (by kernel_rfl)) k0 bel lt0) (trodAll_cons_mk (Below.trod laidOut (by kernel_rfl) (of_decide_eq_true (by kernel_rfl)) k1 bel lt1) trodAll_mk0)),rfl,bel.frame _,fun h=>by cases h⟩
theorem liftedUpto (os:Os) (started:os.Started) (H:Type) (enc:TypeId × Value→H) (F:Stop.Interp) :
  ReturnsInHanded {} Tryz.checked os 3 .any ((Rows.OpenSpec.upto Rows.gdetSolvesSpec).pre6 enc Tryz.prog Tryz.f3 Rows.gdetSolvesUptoRow.domain false) (((Rows.OpenSpec.upto Rows.gdetSolvesSpec).at F).post enc Tryz.prog Tryz.f3 false true false false):=by
 refine returnsInHanded_of_cond (C:=Tryz.checked) (s:=Rows.OpenSpec.upto Rows.gdetSolvesSpec) (k:=Rows.uptoSmall) rfl own started (by kernel_rfl) Tryz.func3
  (OpenSpec.witness (enc:=enc) (C:=Tryz.checked) (s:=Rows.OpenSpec.upto Rows.gdetSolvesSpec) (k:=Rows.uptoSmall) rfl false ⟨#[],#[.slice none 0 0,.slice none 0 0],[]⟩ 8 (by kernel_rfl) (by kernel_rfl) (by kernel_rfl)
   (x:=([.nil,.nil],[],[])) (by kernel_rfl) rfl (by kernel_rfl)) ?_
 intro W base args ds gs before hval hW _ hk _
 exact contract H enc W base args ds gs before hval hW hk
/-! What the row says of the program, piece by piece (all at once the kernel's look takes more memory than there is). -/
theorem j1:(Rows.gdetSolvesUptoRow.inPlace==Tryz.checked.prog.inPlace 3)=true:=by kernel_rfl
theorem j2:(Rows.gdetSolvesUptoRow.unfollowed==Tryz.checked.prog.unfollowed 3)=true:=by kernel_rfl
theorem j3:(Rows.gdetSolvesUptoRow.recurses==Tryz.checked.prog.recurses 3)=true:=by kernel_rfl
theorem j4:(Rows.gdetSolvesUptoRow.named==Tryz.checked.prog.varsNamed 3)=true:=by kernel_rfl
theorem j5:(Rows.gdetSolvesUptoRow.lifted==Tryz.checked.prog.liftsFinal)=true:=by kernel_rfl
theorem facts:joinedFacts Tryz.checked.prog 3 Tryz.f3 (Rows.OpenSpec.upto Rows.gdetSolvesSpec).bare Rows.gdetSolvesUptoRow=true:=by
 unfold joinedFacts
 rw[j1,j2,j3,j4,j5]
 kernel_rfl
theorem saidUpto:Rows.GdetSolvesUptoSaid :=
 OpenClaim.holds_of_cond 3 Tryz.f3 rfl rfl rfl rfl rfl rfl rfl ⟨rfl,rfl,rfl,rfl,rfl⟩ rfl rfl rfl rfl rfl (by kernel_rfl) Tryz.func3 facts
  (of_decide_eq_true (by kernel_rfl)) (by unfold Func.isWrapper;first | (rw[if_pos (by decide +kernel)];kernel_rfl) | (rw[if_neg (by decide +kernel)];exact⟨rfl,rfl⟩))
  (fun os started H enc _ F=>liftedUpto os started H enc F)
end Go.Proofs.YthmolpepinolkaaGreat.gdetSolves
