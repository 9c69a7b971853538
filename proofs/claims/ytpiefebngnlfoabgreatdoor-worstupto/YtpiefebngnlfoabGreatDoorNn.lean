import Derived.Test.YtpiefebngnlfoabGreatDoorNm
set_option maxRecDepth 100000
set_option maxHeartbeats 16000000
set_option linter.unusedVariables false
set_option linter.unusedSimpArgs false
namespace Go.Proofs.YtpiefebngnlfoabGreatDoor
open Go.RowKit Go.Conc Go.Vw
section
variable {w w' v:World}{S:Nat→Prop}
theorem ztN(t:TypeId)(e:Value)(hg0:v.cell? ⟨0,0,none⟩=some (.iface t e))(hg:Tryz.prog.globals.size≤v.heap.size)(n b:Int)(hn1:-9223372036854775808≤n)(hn2:n≤9223372036854775807)(hb1:-9223372036854775808≤b)(hb2:b≤9223372036854775807)(p:Option Addr)(na cap:Nat)(A:Nat→Ac)(hA:zwG v.heap.size v p na A)(hna:na≤1048576)(q:Option Addr)(nl capq:Nat)(Q:Nat→Dm)(hQ:zwF v.heap.size v q nl Q)(hnl:nl<2 ^ 62) :
  ∀ (Stop:Goroutine→(Nat→Prop)→World→Prop) (cs:List Frame),(∀ f' todo S' v',f' 8=.bool true→Kp v (fun _=>False) v'→Vw.Reach Tryz.prog Stop (G {(base 3).at ⟨TA 158 f',[]⟩ todo with mode:=.returning} cs) S' v')→
   Vw.Reach Tryz.prog Stop (G ((base 3).at ⟨TA 158 (argF #[.int .i64 n,.int .i64 b,.slice p na cap,.slice q nl capq]),[]⟩ [.code (Tryz.f3.body.getD .skip)]) cs) S v:=by
 intro Stop cs ret;simp only[Tryz.f3,Option.getD_some];have g0:argF #[.int .i64 n,.int .i64 b,.slice p na cap,.slice q nl capq] 0=.int .i64 n:=rfl;have g1:argF #[.int .i64 n,.int .i64 b,.slice p na cap,.slice q nl capq] 1=.int .i64 b:=rfl;have g2:argF #[.int .i64 n,.int .i64 b,.slice p na cap,.slice q nl capq] 2=.slice p na cap:=rfl;have g3:argF #[.int .i64 n,.int .i64 b,.slice p na cap,.slice q nl capq] 3=.slice q nl capq:=rfl;generalize argF #[.int .i64 n,.int .i64 b,.slice p na cap,.slice q nl capq]=f at g0 g1 g2 g3;repeat (first|refine rQ rfl ?_|refine rY zaA ?_|refine rW ?_)
 (refine zaC rfl (by first|rfl|simp[Region.wanted,yielded,zaG, *]) rfl Tryz.func7 (by kernel_rfl) rfl (by simp[Act.eval, *];try rfl) (yhF t e hg0 hg n b hn1 hn2 hb1 hb2 p na cap A hA hna) ?_)
 rintro _ S1 w1 _ ⟨hK1,X,D,DB,DA,M,RB,RA,turn,s,L,T,sv,rfl,hH,hSo,hI,hTL⟩;simp only[stO_some];have hp5:=zeX n (n:=5) (by omega);have hp12:=zeX b (n:=12) (by omega);obtain⟨nd,hnd⟩:∃ nd,nd=14+zdI n 5:=⟨_,rfl⟩;obtain⟨nb,hnb⟩:∃ nb,nb=4+zdI b 12:=⟨_,rfl⟩;rw[←hnd,←hnb]at hH;have n14:14≤nd:=by omega
 have n18:nd≤18:=by omega
 have b4:4≤nb:=by omega
 have b15:nb≤15:=by omega
 clear hnd hnb hp5 hp12 g0 g1 g2;have htu:=hH.turn;repeat (first|refine rQ rfl ?_|refine rY zaA ?_|refine rW ?_)
 (refine zaB (t:=false) (by simp[Act.eval]) ?_;simp only[if_true,if_false,reduceIte,Bool.false_eq_true]);repeat (first|refine rQ rfl ?_|refine rY zaA ?_|refine rW ?_)
 (refine zaC rfl (by first|rfl|simp[Region.wanted,yielded,zaG, *]) rfl Tryz.func10 (by kernel_rfl) rfl (by simp[Act.eval, *];try rfl) (yhK b4 n14 n18 (by omega) hH.st) ?_)
 rintro _ S2 w2 _ ⟨e1,hE2,gd,rfl,hgd,hTx⟩;subst S2;simp only[stO_some];have hK2:=hK1.ext hE2;repeat (first|refine rQ rfl ?_|refine rY zaA ?_|refine rW ?_)
 (refine zaC rfl (by first|rfl|simp[Region.wanted,yielded,zaG, *]) rfl Tryz.func9 (by kernel_rfl) rfl (by simp[Act.eval, *];try rfl) (ydX v.heap.size nd nb gd nd (fun d=>txt nb (s.a d)) n14 n18 b4 (by omega) hTx (fun d _=>zwL _ _) q nl capq Q hnl (hQ.kp (zbZ _ v) hK2)) ?_)
 rintro _ S2 w3 _ ⟨e1,hE3,gd',cd',T',HH,rfl,hTx',hHarm⟩;subst S2;simp only[stO_some];have hK3:=hK2.ext hE3;obtain⟨hSl,hten⟩:=hH.slots (wr:=1099511627776) hSo (by omega) n14 hHarm;repeat (first|refine rQ rfl ?_|refine rY zaA ?_|refine rW ?_)
 (refine zaC rfl (by first|rfl|simp[Region.wanted,yielded,zaG, *]) rfl Tryz.func8 (by kernel_rfl) rfl (by simp[Act.eval, *];try rfl) (zoX t e (hK3.cell (fun h=>h) hg0) (Nat.le_trans hg hK3.size) gd' cd' 1099511627776 T' (lbAt L) (gdAt L (zdO T' 1099511627776).c) (Nat.le_refl _) b4 n14 n18 (by omega) (hHarm.texts n14 fun d _=>zwL _ _) hTx' hSl) ?_)
 rintro _ S2 w4 _ ⟨hK4,X',D',DB',DA',M',RB',RA',L',turn',rfl,hSv,hX',hown'⟩;simp only[stO_some];obtain⟨hH4,hLL⟩:=hH.remount (n':=549755813888+1000) (N':=v.heap.size) hSo (by omega) n14 hHarm hSv hX' (fun b hb=>Nat.le_trans hK3.size (hown' b hb)) (by omega);have hI4:Its v.heap.size v.heap.size w4 sv T:=((hI.kp0 (zcI hE2)).kp0 (zcI hE3)).kp0 hK4;have hKv4:=hK3.trans hK4;have hL6:=hH4.few6;have htu4:=hH4.turn;generalize zdY (zdO T' 1099511627776) (takB L') nb=s4 at hH4;clear hX' hSv hSl hten hHarm hTx' hTx hE2 hE3 hK4 hI hH hSo hown' hK1 hK2 hK3;repeat (first|refine rQ rfl ?_|refine rY zaA ?_|refine rW ?_)
 (refine zaB (t:=false) (by simp[Act.eval]) ?_;simp only[if_true,if_false,reduceIte,Bool.false_eq_true]);repeat (first|refine rQ rfl ?_|refine rY zaA ?_|refine rW ?_)
 (refine zaC rfl (by first|rfl|simp[Region.wanted,yielded,zaG, *]) rfl Tryz.func11 (by kernel_rfl) rfl (by simp[Act.eval, *];try rfl) (zqQ (by omega) hH4.st) ?_)
 rintro _ S3 w5 _ ⟨e1,k,g,h,rfl,hl⟩;subst S3;simp only[stO_some];have hTl:=hl.tells hH4.st.ids;have Hk:=hide hl.len;have hk6:k≤6:=by rw[Hk.out];exact hL6
 have hr5:=hl.row;have hH5:=hH4.kp0 hl.kp;have hI5:=hI4.kp0 hl.kp;have hKv5:=hKv4.trans hl.kp;have hb14:∀ i,i<k→(h i).bad≤14:=fun i hi=>hTl.bad14 hi
 clear hl hH4 hI4 hKv4;repeat (first|refine rQ rfl ?_|refine rY zaA ?_|refine rW ?_)
 (refine zaC rfl (by first|rfl|simp[Region.wanted,yielded,zaG, *]) rfl Tryz.func12 (by kernel_rfl) rfl (by simp[Act.eval, *];try rfl) (ylG g k k h (by omega) hb14 hr5) ?_)
 rintro _ S3 w6 _ ⟨rfl,e1,e2⟩;subst S3 w6;simp only[stO_some];obtain⟨ps,cv,hsv⟩:∃ ps cv,sv=.slice ps T.length cv:=by
  obtain⟨Qs,hQT,hQs⟩:=hI5;obtain⟨ps,cv,e⟩:=hQs.form;exact⟨ps,cv,by rw[e,←hQT,List.length_map]⟩
 have hb4':∀ i,i<k→(h i).bad≤4:=fun i hi=>by
  obtain⟨e',he',q'⟩:=hTl.yes i hi;have:=(hH5.st.ent e' he').ten;rw[q'];show 14 - cntG e'.good 14≤4;omega
 have hbd4:sumB h k≤k*4:=zmG k hb4';have hkT:k≤T.length:=by rw[Hk.out,hTL];exact hLL
 have hT6:=hH5.rep.len6 hH5.few;obtain⟨bd,hbd⟩:∃ bd,bd=sumB h k:=⟨_,rfl⟩;obtain⟨mx,hmx⟩:∃ mx,mx=mxB h k:=⟨_,rfl⟩;rw[←hbd,←hmx];rw[←hbd]at hbd4;have Hbd:=hide hbd;have Hmx:=hide hmx;clear hbd hmx hb4';have hbT:bd≤4*T.length:=by omega
 have hbTI:¬(4:Int)*((T.length:Nat):Int)<((bd:Nat):Int):=by omega
 have HTL:=hide hTL;clear hTL;obtain⟨tl,htl⟩:∃ tl,tl=T.length:=⟨_,rfl⟩;rw[←htl]at hsv hbTI hbT hkT hT6;have Htl:=hide htl;clear htl;subst hsv;have hm4:(4:Int)*(tl:Int)≤24:=by omega
 repeat (first|refine rQ rfl ?_|refine rY zaA ?_|refine rW ?_)
 (refine zaC rfl (by first|rfl|simp[Region.wanted,yielded,zaG, *]) rfl Tryz.func13 (by kernel_rfl) rfl (by simp[Act.eval, *];try rfl) (zqC 0 (by omega) (by omega) (by omega) (Nat.le_trans hg hKv5.size) (by omega) n14 n18 (by omega) hH5.st) ?_)
 rintro _ S3 w6 _ ⟨k2,h2,hT2,hk2,rfl,hK6,hX6⟩;obtain⟨rfl,e2⟩:=hTl.uniq hT2;rw[←zdP e2,←Hbd.out,show min (0:Int).toNat bd=0 from Nat.zero_min _]at hX6;rw[←zdP e2,←Hbd.out,show min (0:Int).toNat bd=0 from Nat.zero_min _,Nat.sub_zero];simp only[stO_some];have hr6:=hK6.cells _ _ _ _ (hH5.st.gnew hr5) hr5;have hH6:Hv v.heap.size nd nb (549755813888+1000) 2097152 X' D' DB' DA' M' RB' RA' turn' s4 L' T w6:=⟨hX6,hH5.own,hH5.neat,hH5.few,hH5.len,hH5.kept,hH5.turn,hH5.rep⟩;have hI6:=hI5.kp hH5.off hK6;have hKv6:Kp v (fun _=>False) w6:=ziZ ((hKv5.mono fun _ h=>h.elim).trans hK6) hH5.own
 clear hK6 hX6 hr5 hH5 hI5 hKv5 hT2 e2 hk2;repeat (first|refine rQ rfl ?_|refine rY zaA ?_|refine rW ?_)
 (refine zaC rfl (by first|rfl|simp[Region.wanted,yielded,zaG, *]) rfl Tryz.func13 (by kernel_rfl) rfl (by simp[Act.eval, *];try rfl) (zqC (-5) (by omega) (by omega) (by omega) (Nat.le_trans hg hKv6.size) (by omega) n14 n18 (by omega) hH6.st) ?_)
 rintro _ S4 w7 _ ⟨k2,h2,hT2,hk2,rfl,hK7,hX7⟩;obtain⟨rfl,e2⟩:=hTl.uniq hT2;rw[←zdP e2,←Hbd.out,show min (-5:Int).toNat bd=0 from Nat.zero_min _]at hX7;rw[←zdP e2,←Hbd.out,show min (-5:Int).toNat bd=0 from Nat.zero_min _,Nat.sub_zero];simp only[stO_some];have hr7:=hK7.cells _ _ _ _ (hH6.st.gnew hr6) hr6;have hH7:Hv v.heap.size nd nb (549755813888+bd) 2097152 X' D' DB' DA' M' RB' RA' turn' s4 L' T w7:=⟨hX7,hH6.own,hH6.neat,hH6.few,hH6.len,hH6.kept.le (by omega),hH6.turn,hH6.rep⟩;have hI7:=hI6.kp hH6.off hK7;have hKv7:Kp v (fun _=>False) w7:=ziZ ((hKv6.mono fun _ h=>h.elim).trans hK7) hH6.own
 clear hK7 hX7 hr6 hH6 hI6 hKv6 hT2 e2 hk2;repeat (first|refine rQ rfl ?_|refine rY zaA ?_|refine rW ?_)
 (refine zaB (t:=false) (by simp[Act.eval]) ?_;simp only[if_true,if_false,reduceIte,Bool.false_eq_true]);repeat (first|refine rQ rfl ?_|refine rY zaA ?_|refine rW ?_)
 refine yaE T (.slice ps tl cv) k g h hg n14 n18 b4 b15 hKv7 (by rw[←Hbd.out];exact hH7) hI7 hTl hk6 hr7 (by simp) (by simp) (by simp) (by simp[Hbd.out]) (by simp[Hmx.out]) fun f8 S8 w8 s8 L8 hKv8 hH8 hI8 q9 q10=>?_
 clear g3 f hH7 hI7 hKv7 hr7 hTl Hbd Hmx;have hR8:=hH8.rep;have hl6:=hH8.few6;have htu8:=hH8.turn;repeat (first|refine rQ rfl ?_|refine rY zaA ?_|refine rW ?_)
 (refine zaC rfl (by first|rfl|simp[Region.wanted,yielded,zaG, *]) rfl Tryz.func14 (by kernel_rfl) rfl (by simp[Act.eval, *];try rfl) (zpF v.heap.size hKv8.size (by omega) (Nat.le_trans hg hKv8.size) (by omega) n14 n18 (by omega) hH8.st) ?_)
 rintro _ S9 w9 _ ⟨hK9,sv9,T9,rfl,hR9,hl9,hI9⟩;simp only[stO_some];obtain rfl:=hR9.uniq hR8;have hz:=hR9.size hH8.st.ent;have hT9:=hR9.len6 hH8.few;have hI':=hI8.kp0 hK9;have hal:alkB T9 T9=true:=zlW.2 (.refl _);repeat (first|refine rQ rfl ?_|refine rY zaA ?_|refine rW ?_)
 (refine zaC rfl (by first|rfl|simp[Region.wanted,yielded,zaG, *]) rfl Tryz.func15 (by kernel_rfl) rfl (by simp[Act.eval, *];try rfl) (yeP v.heap.size v.heap.size w8.heap.size v.heap.size sv9 (.slice ps tl cv) T9 T9 hI9 hI' hz hz (by omega) (by omega)) ?_)
 rintro _ S3 w3 _ ⟨rfl,eS,eW⟩;subst S3 w3;rw[hal];simp only[stO_some];repeat (first|refine rQ rfl ?_|refine rY zaA ?_|refine rW ?_)
 refine zaH fun todo=>?_
 exact ret _ _ _ w9 (by simp) (hKv8.trans hK9)
end
end Go.Proofs.YtpiefebngnlfoabGreatDoor
