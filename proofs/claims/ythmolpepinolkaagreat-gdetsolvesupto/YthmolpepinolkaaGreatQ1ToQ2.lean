/- frac.Make: lowest terms. -/
import Derived.Test.YthmolpepinolkaaGreatWkToM1
namespace Go.Proofs.YthmolpepinolkaaGreat
open Go Go.RowKit Dig
set_option maxHeartbeats 4000000
set_option maxRecDepth 20000
set_option linter.unusedVariables false
def qg (x y:Int):Int:=if y<0 then -(Int.gcd x y:Int) else (Int.gcd x y:Int)
def qN (x y:Int):Int:=x.fdiv (qg x y)
def qD (x y:Int):Int:=y.fdiv (qg x y)
theorem gcd_ne {x y:Int} (h:y≠0):(Int.gcd x y:Int)≠0:=by
 intro h0
 have:=Int.gcd_eq_zero_iff.1 (by exact_mod_cast h0)
 exact h this.2
theorem qg_ne {x y:Int} (h:y≠0):qg x y≠0:=by
 have:=gcd_ne (x:=x) h
 unfold qg;split <;> omega
theorem qg_dvd (x y:Int):qg x y ∣ x∧qg x y ∣ y:=by
 unfold qg;split
 ·exact ⟨Int.neg_dvd.2 (Int.gcd_dvd_left x y),Int.neg_dvd.2 (Int.gcd_dvd_right x y)⟩
 ·exact ⟨Int.gcd_dvd_left x y,Int.gcd_dvd_right x y⟩
theorem fmod_dvd {x g:Int} (h:g ∣ x):x.fmod g=0:=Int.fmod_eq_zero_of_dvd h
theorem qN_eq {x y:Int}:x=qN x y*qg x y:=by
 have:=fmod_eq x (qg x y)
 rw [fmod_dvd (qg_dvd x y).1,Int.add_zero] at this
 exact this
theorem qD_eq {x y:Int}:y=qD x y*qg x y:=by
 have:=fmod_eq y (qg x y)
 rw [fmod_dvd (qg_dvd x y).2,Int.add_zero] at this
 exact this
theorem qD_pos {x y:Int} (h:y≠0):0<qD x y:=by
 have h1:=qD_eq (x:=x) (y:=y)
 have h2:=gcd_ne (x:=x) h
 generalize qD x y=d at *
 unfold qg at h1
 have h3:0≤(Int.gcd x y:Int):=by omega
 split at h1
 ·rename_i hy
  by_cases hd:0<d
  ·exact hd
  ·exfalso
   have:=Int.mul_nonneg (show 0 ≤ -d by omega) h3
   rw [Int.mul_neg] at h1
   rw [Int.neg_mul] at this
   omega
 ·rename_i hy
  by_cases hd:0<d
  ·exact hd
  ·exfalso
   have:=Int.mul_nonneg (show 0 ≤ -d by omega) h3
   rw [Int.neg_mul] at this
   omega
theorem zlen_qg {x y:Int} {l m:Nat} (hx:(dig x.natAbs).length≤l) (hy:(dig y.natAbs).length≤m):(dig (qg x y).natAbs).length≤l+m:=by
 unfold qg;split
 ·exact zlen_neg (zlen_gcd hx hy)
 ·exact zlen_gcd hx hy
theorem fmake_pos {w:World} {va vb:Value} {x y:Int} {l m:Nat} (ha:ZN w va x l) (hq:ZN w vb y m) (hl:l≤100000000) (hm:m≤100000000) (h0:0<y) :
  Calls Tryz.prog 93 #[va,vb] w fun e w'=>∃v,e = .returned (.tuple #[v,.int .i64 0])∧PC w' v (qN x y) (qD x y)∧Below w.heap.size w w':=by
 have hg:qg x y=(Int.gcd x y:Int):=by unfold qg;rw [if_neg (by omega)]
 have HG:=hide (qg_ne (x:=x) (y:=y) (by omega))
 have HX:=hide (fmod_dvd (qg_dvd x y).1)
 have HY:=hide (fmod_dvd (qg_dvd x y).2)
 have HS:=hide (show y.sign=1 from Int.sign_eq_one_of_pos h0)
 have EG:=hide hg
 clear hg
 obtain ⟨n_0,o_0,k_0,c_0,rfl⟩:=ha.open2
 obtain ⟨n_1,o_1,k_1,c_1,rfl⟩:=hq.open2
 go_enter Tryz.func93,Tryz.ntmps93
 have hs:=St.nil w
 refine wp_seq_k fun K1 hK1=>rg [0,1,2,3] ?_
 refine sq ?_
 refine .al hs ?_;clear hs;intro p_b1 w_1 hs n1 kb_b1
 refine sq ?_
 refine .al hs ?_;clear hs;intro p_b2 w_2 hs n2 kb_b2
 refine sq ?_
 refine .al hs ?_;clear hs;intro p_b3 w_3 hs n3 kb_b3
 refine sm ?_
 apply wpSq_end
 refine hK1 _ _ ?_
 refine wp_seq_k ?_
 intro K2 hK2
 refine wp_seq_k fun K3 hK3=>rg [0,1,2] ?_
 refine sq ?_
 refine .r2 hs.g1.f2 ?_
 refine sq ?_
 intro K hK
 have k0_3:=((kb n1).b n2).b n3
 replace hq:=hq.k k0_3
 go_big_op
 go_fit (zsign_any hq (by omega) )
 rintro e w_4 ⟨rfl,hb_4⟩
 replace hs:=hs.bl hb_4
 rw [HS.out]
 refine hK _ _ rfl trivial ?_
 clear hK K
 refine sr ?_
 apply wpSq_end
 refine hK3 _ _ ?_
 refine cf ?_
 refine wp_skip ?_
 refine hK2 _ _ ?_
 refine wp_seq_k fun K4 hK4=>rg [0,1,2,3,4] ?_
 refine sq ?_
 refine .r2 hs.g2.f2 ?_
 refine sq ?_
 refine .r2 hs.g1.f2 ?_
 refine sq ?_
 intro K hK
 have k0_4:=k0_3.b hb_4
 replace ha:=ha.k k0_4
 have k3_4:=kb hb_4
 replace hq:=hq.k k3_4
 go_big_op
 go_fit (zgcd_any ha hq (by omega) (by omega) )
 rintro e w_5 ⟨v_g1,rfl,g1,hb_5⟩
 replace hs:=hs.bl hb_5
 replace g1:=g1.rd
 obtain ⟨n_g1,o_g1,k_g1,c_g1,rfl⟩:=g1.open2
 have Lg1:=hide (g1.lenOf (zlen_gcd (ha.len) (hq.len)))
 rw [←EG.out] at g1
 refine hK _ _ rfl trivial ?_
 clear hK K
 refine sq ?_
 refine .al hs ?_;clear hs;intro p_b4 w_6 hs n6 kb_b4
 refine sq ?_
 refine .s2 hs.g0 (fun _=>hs.u0 kb_b4) ?_;clear hs;intro w_7 hs hd7 ho7
 apply wpSq_end
 refine hK4 _ _ ?_
 refine wp_seq_k ?_
 intro K5 hK5
 refine wp_seq_k fun K6 hK6=>rg [0,1,2] ?_
 refine sq ?_
 refine .r2 hs.g2.f2 ?_
 have Lg1:=hide (g1.lenOf (zlen_qg ha.len hq.len))
 refine sq ?_
 intro K hK
 have k4_7:=((kb hb_5).b n6).o hd7 ho7
 replace hq:=hq.k k4_7
 go_big_op
 go_fit (zsign_any hq (by omega) )
 rintro e w_8 ⟨rfl,hb_8⟩
 replace hs:=hs.bl hb_8
 rw [HS.out]
 refine hK _ _ rfl trivial ?_
 clear hK K
 refine sr ?_
 apply wpSq_end
 refine hK6 _ _ ?_
 refine cf ?_
 refine wp_skip ?_
 refine hK5 _ _ ?_
 refine wp_seq_k fun K7 hK7=>rg [0,1,2,3,4,5,6,7,8] ?_
 refine sq ?_
 refine .r2 hs.g3.f2 ?_
 refine sq ?_
 refine .r2 hs.g0.f2 ?_
 refine sq ?_
 intro K hK
 have k4_8:=k4_7.b hb_8
 replace ha:=ha.k k4_8
 have k5_8:=((kb n6).o hd7 ho7).b hb_8
 replace g1:=g1.k k5_8
 go_big_op
 go_fit (exact_any ha (g1.zn Lg1.out) (by omega) (by omega) HG.out HX.out)
 rintro e w_9 ⟨v_g2,rfl,g2,hb_9⟩
 replace hs:=hs.bl hb_9
 replace g2:=g2.rd
 obtain ⟨n_g2,o_g2,k_g2,c_g2,rfl⟩:=g2.open2
 refine hK _ _ rfl trivial ?_
 clear hK K
 refine sm ?_
 refine sr ?_
 refine sr ?_
 refine sq ?_
 refine .al hs ?_;clear hs;intro p_b5 w_10 hs n10 kb_b5
 refine sq ?_
 refine .s2 hs.g0 (fun _=>hs.u0 kb_b5) ?_;clear hs;intro w_11 hs hd11 ho11
 refine sm ?_
 apply wpSq_end
 refine hK7 _ _ ?_
 refine wp_seq_k fun K8 hK8=>rg [0,1,2,3,4,5,6,7,8] ?_
 refine sq ?_
 refine .r2 hs.g3.f2 ?_
 refine sq ?_
 refine .r2 hs.g1.f2 ?_
 refine sq ?_
 intro K hK
 have k7_11:=(((kb hb_8).b hb_9).b n10).o hd11 ho11
 replace hq:=hq.k k7_11
 have k8_11:=((kb hb_9).b n10).o hd11 ho11
 replace g1:=g1.k k8_11
 go_big_op
 go_fit (exact_any hq (g1.zn Lg1.out) (by omega) (by omega) HG.out HY.out)
 rintro e w_12 ⟨v_g3,rfl,g3,hb_12⟩
 replace hs:=hs.bl hb_12
 replace g3:=g3.rd
 obtain ⟨n_g3,o_g3,k_g3,c_g3,rfl⟩:=g3.open2
 refine hK _ _ rfl trivial ?_
 clear hK K
 refine sm ?_
 refine sr ?_
 refine sr ?_
 refine sq ?_
 refine .al hs ?_;clear hs;intro p_b6 w_13 hs n13 kb_b6
 refine sq ?_
 refine .s2 hs.g0 (fun _=>hs.u0 kb_b6) ?_;clear hs;intro w_14 hs hd14 ho14
 refine sm ?_
 apply wpSq_end
 refine hK8 _ _ ?_
 refine wp_seq_k fun K9 hK9=>rg [0,1,2,3,4] ?_
 refine sq ?_
 refine .r2 hs.g1.f2 ?_
 refine sq ?_
 refine .r2 hs.g0.f2 ?_
 refine sr ?_
 refine sq ?_
 refine .s4 hs.g3 (fun _=>hs.u3 kb_b3) ?_;clear hs;intro w_15 hs hd15 ho15
 refine sm ?_
 apply wpSq_end
 refine hK9 _ _ ?_
 refine wp_ret ?_
 try dsimp only [Exit.then,Exit.inBlock]
 obtain ⟨r0_0,r0_1,r0_2,r0_3⟩:=hs.g3.f4
 refine bodyPost_ret (v:=(.tuple #[(.agg #[.bool n_g2,.slice o_g2 k_g2 c_g2,.bool n_g3,.slice o_g3 k_g3 c_g3]),(.int .i64 0)])) (by simp [results,Tryz.results93,go_sem,r0_0,r0_1,r0_2,r0_3]) rfl ?_
 have k9_15:=(((((kb n10).o hd11 ho11).b hb_12).b n13).o hd14 ho14).o hd15 ho15
 replace g2:=g2.k k9_15
 have k12_15:=((kb n13).o hd14 ho14).o hd15 ho15
 replace g3:=g3.k k12_15
 exact ⟨_,rfl,.mk' g2 g3,hs.b⟩
theorem fmake_neg {w:World} {va vb:Value} {x y:Int} {l m:Nat} (ha:ZN w va x l) (hq:ZN w vb y m) (hl:l≤100000000) (hm:m≤100000000) (h0:y<0) :
  Calls Tryz.prog 93 #[va,vb] w fun e w'=>∃v,e = .returned (.tuple #[v,.int .i64 0])∧PC w' v (qN x y) (qD x y)∧Below w.heap.size w w':=by
 have hg:qg x y = -(Int.gcd x y:Int):=by unfold qg;rw [if_pos h0]
 have HG:=hide (qg_ne (x:=x) (y:=y) (by omega))
 have HX:=hide (fmod_dvd (qg_dvd x y).1)
 have HY:=hide (fmod_dvd (qg_dvd x y).2)
 have HS:=hide (show y.sign = -1 from Int.sign_eq_neg_one_of_neg h0)
 have EG:=hide hg
 clear hg
 obtain ⟨n_0,o_0,k_0,c_0,rfl⟩:=ha.open2
 obtain ⟨n_1,o_1,k_1,c_1,rfl⟩:=hq.open2
 go_enter Tryz.func93,Tryz.ntmps93
 have hs:=St.nil w
 refine wp_seq_k fun K1 hK1=>rg [0,1,2,3] ?_
 refine sq ?_
 refine .al hs ?_;clear hs;intro p_b1 w_1 hs n1 kb_b1
 refine sq ?_
 refine .al hs ?_;clear hs;intro p_b2 w_2 hs n2 kb_b2
 refine sq ?_
 refine .al hs ?_;clear hs;intro p_b3 w_3 hs n3 kb_b3
 refine sm ?_
 apply wpSq_end
 refine hK1 _ _ ?_
 refine wp_seq_k ?_
 intro K2 hK2
 refine wp_seq_k fun K3 hK3=>rg [0,1,2] ?_
 refine sq ?_
 refine .r2 hs.g1.f2 ?_
 refine sq ?_
 intro K hK
 have k0_3:=((kb n1).b n2).b n3
 replace hq:=hq.k k0_3
 go_big_op
 go_fit (zsign_any hq (by omega) )
 rintro e w_4 ⟨rfl,hb_4⟩
 replace hs:=hs.bl hb_4
 rw [HS.out]
 refine hK _ _ rfl trivial ?_
 clear hK K
 refine sr ?_
 apply wpSq_end
 refine hK3 _ _ ?_
 refine cf ?_
 refine wp_skip ?_
 refine hK2 _ _ ?_
 refine wp_seq_k fun K4 hK4=>rg [0,1,2,3,4] ?_
 refine sq ?_
 refine .r2 hs.g2.f2 ?_
 refine sq ?_
 refine .r2 hs.g1.f2 ?_
 refine sq ?_
 intro K hK
 have k0_4:=k0_3.b hb_4
 replace ha:=ha.k k0_4
 have k3_4:=kb hb_4
 replace hq:=hq.k k3_4
 go_big_op
 go_fit (zgcd_any ha hq (by omega) (by omega) )
 rintro e w_5 ⟨v_g1,rfl,g1,hb_5⟩
 replace hs:=hs.bl hb_5
 replace g1:=g1.rd
 obtain ⟨n_g1,o_g1,k_g1,c_g1,rfl⟩:=g1.open2
 have Lg1:=hide (g1.lenOf (zlen_gcd (ha.len) (hq.len)))
 refine hK _ _ rfl trivial ?_
 clear hK K
 refine sq ?_
 refine .al hs ?_;clear hs;intro p_b4 w_6 hs n6 kb_b4
 refine sq ?_
 refine .s2 hs.g0 (fun _=>hs.u0 kb_b4) ?_;clear hs;intro w_7 hs hd7 ho7
 apply wpSq_end
 refine hK4 _ _ ?_
 refine wp_seq_k ?_
 intro K5 hK5
 refine wp_seq_k fun K6 hK6=>rg [0,1,2] ?_
 refine sq ?_
 refine .r2 hs.g2.f2 ?_
 refine sq ?_
 intro K hK
 have k4_7:=((kb hb_5).b n6).o hd7 ho7
 replace hq:=hq.k k4_7
 go_big_op
 go_fit (zsign_any hq (by omega) )
 rintro e w_8 ⟨rfl,hb_8⟩
 replace hs:=hs.bl hb_8
 rw [HS.out]
 refine hK _ _ rfl trivial ?_
 clear hK K
 refine sr ?_
 apply wpSq_end
 refine hK6 _ _ ?_
 refine ct ?_
 refine rg [0,1,2] ?_
 refine sq ?_
 refine .r2 hs.g0.f2 ?_
 refine sq ?_
 intro K hK
 have k5_8:=((kb n6).o hd7 ho7).b hb_8
 replace g1:=g1.k k5_8
 go_big_op
 go_fit (zneg_any (g1.zn Lg1.out) (by omega) )
 rintro e w_9 ⟨v_g4,rfl,g4,hb_9⟩
 replace hs:=hs.bl hb_9
 replace g4:=g4.rd
 obtain ⟨n_g4,o_g4,k_g4,c_g4,rfl⟩:=g4.open2
 have Lg4:=hide (g4.lenOf (zlen_neg (Lg1.out)))
 rw [←EG.out] at g4
 refine hK _ _ rfl trivial ?_
 clear hK K
 refine sq ?_
 refine .s2 hs.g0 (fun _=>hs.u0 kb_b4) ?_;clear hs;intro w_10 hs hd10 ho10
 apply wpSq_end
 refine hK5 _ _ ?_
 refine wp_seq_k fun K7 hK7=>rg [0,1,2,3,4,5,6,7,8] ?_
 refine sq ?_
 refine .r2 hs.g3.f2 ?_
 refine sq ?_
 refine .r2 hs.g0.f2 ?_
 have Lg4:=hide (g4.lenOf (zlen_qg ha.len hq.len))
 refine sq ?_
 intro K hK
 have k4_10:=((k4_7.b hb_8).b hb_9).o hd10 ho10
 replace ha:=ha.k k4_10
 have k9_10:=ko hd10 ho10
 replace g4:=g4.k k9_10
 go_big_op
 go_fit (exact_any ha (g4.zn Lg4.out) (by omega) (by omega) HG.out HX.out)
 rintro e w_11 ⟨v_g2,rfl,g2,hb_11⟩
 replace hs:=hs.bl hb_11
 replace g2:=g2.rd
 obtain ⟨n_g2,o_g2,k_g2,c_g2,rfl⟩:=g2.open2
 refine hK _ _ rfl trivial ?_
 clear hK K
 refine sm ?_
 refine sr ?_
 refine sr ?_
 refine sq ?_
 refine .al hs ?_;clear hs;intro p_b5 w_12 hs n12 kb_b5
 refine sq ?_
 refine .s2 hs.g0 (fun _=>hs.u0 kb_b5) ?_;clear hs;intro w_13 hs hd13 ho13
 refine sm ?_
 apply wpSq_end
 refine hK7 _ _ ?_
 refine wp_seq_k fun K8 hK8=>rg [0,1,2,3,4,5,6,7,8] ?_
 refine sq ?_
 refine .r2 hs.g3.f2 ?_
 refine sq ?_
 refine .r2 hs.g1.f2 ?_
 refine sq ?_
 intro K hK
 have k7_13:=(((((kb hb_8).b hb_9).o hd10 ho10).b hb_11).b n12).o hd13 ho13
 replace hq:=hq.k k7_13
 have k10_13:=((kb hb_11).b n12).o hd13 ho13
 replace g4:=g4.k k10_13
 go_big_op
 go_fit (exact_any hq (g4.zn Lg4.out) (by omega) (by omega) HG.out HY.out)
 rintro e w_14 ⟨v_g3,rfl,g3,hb_14⟩
 replace hs:=hs.bl hb_14
 replace g3:=g3.rd
 obtain ⟨n_g3,o_g3,k_g3,c_g3,rfl⟩:=g3.open2
 refine hK _ _ rfl trivial ?_
 clear hK K
 refine sm ?_
 refine sr ?_
 refine sr ?_
 refine sq ?_
 refine .al hs ?_;clear hs;intro p_b6 w_15 hs n15 kb_b6
 refine sq ?_
 refine .s2 hs.g0 (fun _=>hs.u0 kb_b6) ?_;clear hs;intro w_16 hs hd16 ho16
 refine sm ?_
 apply wpSq_end
 refine hK8 _ _ ?_
 refine wp_seq_k fun K9 hK9=>rg [0,1,2,3,4] ?_
 refine sq ?_
 refine .r2 hs.g1.f2 ?_
 refine sq ?_
 refine .r2 hs.g0.f2 ?_
 refine sr ?_
 refine sq ?_
 refine .s4 hs.g3 (fun _=>hs.u3 kb_b3) ?_;clear hs;intro w_17 hs hd17 ho17
 refine sm ?_
 apply wpSq_end
 refine hK9 _ _ ?_
 refine wp_ret ?_
 try dsimp only [Exit.then,Exit.inBlock]
 obtain ⟨r0_0,r0_1,r0_2,r0_3⟩:=hs.g3.f4
 refine bodyPost_ret (v:=(.tuple #[(.agg #[.bool n_g2,.slice o_g2 k_g2 c_g2,.bool n_g3,.slice o_g3 k_g3 c_g3]),(.int .i64 0)])) (by simp [results,Tryz.results93,go_sem,r0_0,r0_1,r0_2,r0_3]) rfl ?_
 have k11_17:=(((((kb n12).o hd13 ho13).b hb_14).b n15).o hd16 ho16).o hd17 ho17
 replace g2:=g2.k k11_17
 have k14_17:=((kb n15).o hd16 ho16).o hd17 ho17
 replace g3:=g3.k k14_17
 exact ⟨_,rfl,.mk' g2 g3,hs.b⟩
theorem fmake_any {w:World} {va vb:Value} {x y:Int} {l m:Nat} (ha:ZN w va x l) (hq:ZN w vb y m) (hl:l≤100000000) (hm:m≤100000000) (h0:y≠0) :
  Calls Tryz.prog 93 #[va,vb] w fun e w'=>∃v,e = .returned (.tuple #[v,.int .i64 0])∧PC w' v (qN x y) (qD x y)∧Below w.heap.size w w':=by
 by_cases h:0<y
 ·exact fmake_pos ha hq hl hm h
 ·exact fmake_neg ha hq hl hm (by omega)
theorem qN_len {x y:Int} {l:Nat} (h0:y≠0) (h:(dig x.natAbs).length≤l):(dig (qN x y).natAbs).length≤l:=fdiv_len (qg_ne h0) h
theorem qD_len {x y:Int} {l:Nat} (h0:y≠0) (h:(dig y.natAbs).length≤l):(dig (qD x y).natAbs).length≤l:=fdiv_len (qg_ne h0) h
end Go.Proofs.YthmolpepinolkaaGreat
