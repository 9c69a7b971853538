import Derived.Test.YtpiefebngnlfoaaGreatDoorNl
set_option maxRecDepth 100000
set_option maxHeartbeats 16000000
set_option linter.unusedVariables false
set_option linter.unusedSimpArgs false
namespace Go.Proofs.YtpiefebngnlfoaaGreatDoor
open Go.RowKit Go.Conc Go.Vw
section
variable {w w' v:World}{S:Nat→Prop}
theorem zzM(t:TypeId)(e:Value)(hg0:v.cell? ⟨0,0,none⟩=some (.iface t e))(hg:Tryz.prog.globals.size≤v.heap.size)(n b:Int)(hn1:-9223372036854775808≤n)(hn2:n≤9223372036854775807)(hb1:-9223372036854775808≤b)(hb2:b≤9223372036854775807)(p:Option Addr)(na cap:Nat)(A:Nat→Ac)(hA:znY v.heap.size v p na A)(hna:na≤1048576)(q:Option Addr)(nl capq:Nat)(Q:Nat→Dm)(hQ:ztN v.heap.size v q nl Q)(hnl:nl<2 ^ 62)(p2:Option Addr)(na2 cap2:Nat)(A2:Nat→Ac)(hA2:znY v.heap.size v p2 na2 A2)(hna2:na2≤1048576) :
  ∀ (Stop:Goroutine→(Nat→Prop)→World→Prop) (cs:List Frame),(∀ f' todo S' v',f' 10=.bool true→Kp v (fun _=>False) v'→Vw.Reach Tryz.prog Stop (G {(base 5).at ⟨TA 129 f',[]⟩ todo with mode:=.returning} cs) S' v')→
   Vw.Reach Tryz.prog Stop (G ((base 5).at ⟨TA 129 (argF #[.int .i64 n,.int .i64 b,.slice p na cap,.slice q nl capq,.slice p2 na2 cap2]),[]⟩ [.code (Tryz.f5.body.getD .skip)]) cs) S v:=by
 intro Stop cs ret;simp only[Tryz.f5,Option.getD_some];have g0:argF #[.int .i64 n,.int .i64 b,.slice p na cap,.slice q nl capq,.slice p2 na2 cap2] 0=.int .i64 n:=rfl;have g1:argF #[.int .i64 n,.int .i64 b,.slice p na cap,.slice q nl capq,.slice p2 na2 cap2] 1=.int .i64 b:=rfl;have g2:argF #[.int .i64 n,.int .i64 b,.slice p na cap,.slice q nl capq,.slice p2 na2 cap2] 2=.slice p na cap:=rfl;have g3:argF #[.int .i64 n,.int .i64 b,.slice p na cap,.slice q nl capq,.slice p2 na2 cap2] 3=.slice q nl capq:=rfl;have g4:argF #[.int .i64 n,.int .i64 b,.slice p na cap,.slice q nl capq,.slice p2 na2 cap2] 4=.slice p2 na2 cap2:=rfl;generalize argF #[.int .i64 n,.int .i64 b,.slice p na cap,.slice q nl capq,.slice p2 na2 cap2]=f at g0 g1 g2 g3 g4;repeat (first|refine rQ rfl ?_|refine rY zaA ?_|refine rW ?_)
 (refine zaC rfl (by first|rfl|simp[Region.wanted,yielded,zaG, *]) rfl Tryz.func14 (by kernel_rfl) rfl (by simp[Act.eval, *];try rfl) (yhG t e hg0 hg n b hn1 hn2 hb1 hb2 p na cap A hA hna) ?_)
 rintro _ S1 w1 _ ⟨hK1,X,D,DB,DA,M,RB,RA,turn,s,L,T,sv,rfl,hH,hSo,hI,hTL⟩;simp only[stO_some];have hp5:=zeW n (n:=5) (by omega);have hp12:=zeW b (n:=12) (by omega);obtain⟨nd,hnd⟩:∃ nd,nd=14+zdJ n 5:=⟨_,rfl⟩;obtain⟨nb,hnb⟩:∃ nb,nb=4+zdJ b 12:=⟨_,rfl⟩;rw[←hnd,←hnb]at hH;have n14:14≤nd:=by omega
 have n18:nd≤18:=by omega
 have b4:4≤nb:=by omega
 have b15:nb≤15:=by omega
 clear hnd hnb hp5 hp12 g0 g1 g2 hTL;have htu:=hH.turn;repeat (first|refine rQ rfl ?_|refine rY zaA ?_|refine rW ?_)
 (refine zaB (t:=false) (by simp[Act.eval]) ?_;simp only[if_true,if_false,reduceIte,Bool.false_eq_true]);repeat (first|refine rQ rfl ?_|refine rY zaA ?_|refine rW ?_)
 (refine zaC rfl (by first|rfl|simp[Region.wanted,yielded,zaG, *]) rfl Tryz.func16 (by kernel_rfl) rfl (by simp[Act.eval, *];try rfl) (zxN b4 n14 n18 (by omega) hH.st) ?_)
 rintro _ S2 w2 _ ⟨e1,hE2,gd,rfl,hgd,hTx⟩;subst S2;simp only[stO_some];have hK2:=hK1.ext hE2;repeat (first|refine rQ rfl ?_|refine rY zaA ?_|refine rW ?_)
 (refine zaC rfl (by first|rfl|simp[Region.wanted,yielded,zaG, *]) rfl Tryz.func15 (by kernel_rfl) rfl (by simp[Act.eval, *];try rfl) (yeA v.heap.size nd nb gd nd (fun d=>txt nb (s.a d)) n14 n18 b4 (by omega) hTx (fun d _=>zpV _ _) q nl capq Q hnl (hQ.kp (zbW _ v) hK2)) ?_)
 rintro _ S2 w3 _ ⟨e1,hE3,gd',cd',T',HH,rfl,hTx',hHarm⟩;subst S2;simp only[stO_some];have hK3:=hK2.ext hE3;obtain⟨hSl,hten⟩:=hH.slots (wr:=1099511627776) hSo (by omega) n14 hHarm;repeat (first|refine rQ rfl ?_|refine rY zaA ?_|refine rW ?_)
 (refine zaC rfl (by first|rfl|simp[Region.wanted,yielded,zaG, *]) rfl Tryz.func17 (by kernel_rfl) rfl (by simp[Act.eval, *];try rfl) (zkT t e (hK3.cell (fun h=>h) hg0) (Nat.le_trans hg hK3.size) gd' cd' 1099511627776 T' (lbAt L) (gdAt L (zdF T' 1099511627776).c) (Nat.le_refl _) b4 n14 n18 (by omega) (hHarm.texts n14 fun d _=>zpV _ _) hTx' hSl) ?_)
 rintro _ S2 w4 _ ⟨hK4,X',D',DB',DA',M',RB',RA',L',turn',rfl,hSv,hX',hown'⟩;simp only[stO_some];obtain⟨hH4,hLL⟩:=hH.remount (n':=549755813888+42*na2) (N':=v.heap.size) hSo (by omega) n14 hHarm hSv hX' (fun b hb=>Nat.le_trans hK3.size (hown' b hb)) (by omega);have hI4:Its v.heap.size v.heap.size w4 sv T:=((hI.kp0 (zcA hE2)).kp0 (zcA hE3)).kp0 hK4;have hKv4:=hK3.trans hK4;generalize zdP (zdF T' 1099511627776) (takB L') nb=s4 at hH4;clear hX' hSv hSl hten hHarm hTx' hTx hE2 hE3 hK4 hI hH hSo hown' hK1 hK2 hK3 hLL;repeat (first|refine rQ rfl ?_|refine rY zaA ?_|refine rW ?_)
 (refine zaB (t:=false) (by simp[Act.eval]) ?_;simp only[if_true,if_false,reduceIte,Bool.false_eq_true]);repeat (first|refine rQ rfl ?_|refine rY zaA ?_|refine rW ?_)
 refine ydP T sv hg n14 n18 b4 b15 hKv4 p2 na2 cap2 A2 hA2 hna2 hH4 hI4 (by simp[g4]) (by simp) (by simp) (by simp) fun f5 S5 w5 turn5 s5 L5 T5 sv5 hKv5 hH5 hI5 q11 q12=>?_
 clear g3 g4 f hH4 hI4 hKv4;have hl6:=hH5.few6;have htu5:=hH5.turn;repeat (first|refine rQ rfl ?_|refine rY zaA ?_|refine rW ?_)
 (refine zaC rfl (by first|rfl|simp[Region.wanted,yielded,zaG, *]) rfl Tryz.func18 (by kernel_rfl) rfl (by simp[Act.eval, *];try rfl) (zlA v.heap.size hKv5.size (by omega) (Nat.le_trans hg hKv5.size) (by omega) n14 n18 (by omega) hH5.st) ?_)
 rintro _ S6 w6 _ ⟨hK6,sv6,T6,rfl,hR6,hl66,hI6⟩;simp only[stO_some];obtain rfl:=hR6.uniq hH5.rep;have hz:=hR6.size hH5.st.ent;have hT6:=hR6.len6 hH5.few;have hI5':=hI5.kp0 hK6;have hal:alkB T6 T6=true:=zlY.2 (.refl _);repeat (first|refine rQ rfl ?_|refine rY zaA ?_|refine rW ?_)
 (refine zaC rfl (by first|rfl|simp[Region.wanted,yielded,zaG, *]) rfl Tryz.func19 (by kernel_rfl) rfl (by simp[Act.eval, *];try rfl) (zwH v.heap.size v.heap.size w5.heap.size v.heap.size sv6 sv5 T6 T6 hI6 hI5' hz hz (by omega) (by omega)) ?_)
 rintro _ S7 w7 _ ⟨rfl,eS,eW⟩;subst S7 w7;rw[hal];simp only[stO_some];have hH6:=hH5.kp0 hK6;have hKv6:=hKv5.trans hK6;clear hH5 hI5 hI6 hK6 hKv5;repeat (first|refine rQ rfl ?_|refine rY zaA ?_|refine rW ?_)
 (refine zaC rfl (by first|rfl|simp[Region.wanted,yielded,zaG, *]) rfl Tryz.func20 (by kernel_rfl) rfl (by simp[Act.eval, *];try rfl) (yfS 1000 (by omega) (by omega) (by omega) (Nat.le_trans hg hKv6.size) (by omega) n14 n18 (by omega) hH6.st) ?_)
 rintro _ S8 w8 _ ⟨k2,h2,hT2,hk2,rfl,hK8,hX8⟩;have hsm:sumB h2 k2≤k2*14:=zpX k2 fun i hi=>hT2.bad14 hi
 have hmin:min (1000:Int).toNat (sumB h2 k2)=sumB h2 k2:=by
  show min 1000 (sumB h2 k2)=_;omega
 rw[hmin]at hX8;rw[hmin,Nat.sub_self];simp only[stO_some];have hH8:=(hH6.le (n':=549755813000+sumB h2 k2) (by omega) (Nat.le_refl _)).scrub (h:=h2) (k:=k2) (j:=sumB h2 k2) hT2 (Nat.le_refl _) hX8;have hSc:=scrd (nb:=nb) (x0:=⟨h2,s5,L5⟩) hH6.st.ids hH6.st.slots hT2 (sumB h2 k2) (Nat.le_refl _)
 have hSo8:zgM (scrubN k2 (sumB h2 k2) ⟨h2,s5,L5⟩).L:=hSc.tells.sound (by
  have h1:=hSc.sum;have h2':sumB (Scb.mk h2 s5 L5).h k2=sumB h2 k2:=rfl
  omega)
 have hI8:=hI5'.kp hH6.off hK8;have hKv8:Kp v (fun _=>False) w8:=zkU ((hKv6.mono fun _ h=>h.elim).trans hK8) hH6.own
 generalize (scrubN k2 (sumB h2 k2) ⟨h2,s5,L5⟩).L=L8 at hH8 hSo8;generalize (scrubN k2 (sumB h2 k2) ⟨h2,s5,L5⟩).s=s8 at hH8;clear hSc hX8 hmin hsm hT2 hk2 hH6 hI5' hK8 hKv6 h2 k2;repeat (first|refine rQ rfl ?_|refine rY zaA ?_|refine rW ?_)
 (refine zaC rfl (by first|rfl|simp[Region.wanted,yielded,zaG, *]) rfl Tryz.func16 (by kernel_rfl) rfl (by simp[Act.eval, *];try rfl) (zxN b4 n14 n18 (by omega) hH8.st) ?_)
 rintro _ S9 w9 _ ⟨e1,hE9,gd9,rfl,hgd9,hTx9⟩;subst S9;simp only[stO_some];have hK9:=hKv8.ext hE9;have hHn:=ydM (nd:=nd) (nb:=nb) fun d=>txt nb (s8.a d)
 obtain⟨hSl9,_⟩:=hH8.slots (wr:=1099511627776) hSo8 (by omega) n14 hHn;repeat (first|refine rQ rfl ?_|refine rY zaA ?_|refine rW ?_)
 (refine zaC rfl (by first|rfl|simp[Region.wanted,yielded,zaG, *]) rfl Tryz.func17 (by kernel_rfl) rfl (by simp[Act.eval, *];try rfl) (zkT t e (hK9.cell (fun h=>h) hg0) (Nat.le_trans hg hK9.size) gd9 nd 1099511627776 (fun d=>txt nb (s8.a d)) (lbAt L8) (gdAt L8 (zdF (fun d=>txt nb (s8.a d)) 1099511627776).c) (Nat.le_refl _) b4 n14 n18 (by omega) (hHn.texts n14 fun d _=>zpV _ _) hTx9 hSl9) ?_)
 rintro _ S10 w10 _ ⟨hK10,X9,D9,DB9,DA9,M9,RB9,RA9,L9,turn9,rfl,hSv9,hX9,hown9⟩;simp only[stO_some];obtain⟨hH10,hLL9⟩:=hH8.remount (n':=549755813888) (N':=v.heap.size) hSo8 (by omega) n14 hHn hSv9 hX9 (fun b hb=>Nat.le_trans hK9.size (hown9 b hb)) (by omega);have hSo9:=hH8.resound hSo8 (by omega) n14 hHn hSv9 fun _ _=>rfl
 have hI10:Its v.heap.size v.heap.size w10 sv5 T6:=(hI8.kp0 (zcA hE9)).kp0 hK10;have hKv10:=hK9.trans hK10;generalize zdP (zdF (fun d=>txt nb (s8.a d)) 1099511627776) (takB L9) nb=s9 at hH10;have htu10:=hH10.turn;have hl10:=hH10.few6;clear hX9 hSv9 hSl9 hHn hTx9 hE9 hK10 hI8 hH8 hSo8 hown9 hKv8 hK9 hLL9;repeat (first|refine rQ rfl ?_|refine rY zaA ?_|refine rW ?_)
 (refine zaB (t:=false) (by simp[Act.eval]) ?_;simp only[if_true,if_false,reduceIte,Bool.false_eq_true]);repeat (first|refine rQ rfl ?_|refine rY zaA ?_|refine rW ?_)
 (refine zaC rfl (by first|rfl|simp[Region.wanted,yielded,zaG, *]) rfl Tryz.func18 (by kernel_rfl) rfl (by simp[Act.eval, *];try rfl) (zlA v.heap.size hKv10.size (by omega) (Nat.le_trans hg hKv10.size) (by omega) n14 n18 (by omega) hH10.st) ?_)
 rintro _ S11 w11 _ ⟨hK11,sv11,T11,rfl,hR11,hl11,hI11⟩;simp only[stO_some];obtain rfl:=hR11.uniq hH10.rep;have hz':=hR11.size hH10.st.ent;have hT11:=hR11.len6 hH10.few;have hI10':=hI10.kp0 hK11;repeat (first|refine rQ rfl ?_|refine rY zaA ?_|refine rW ?_)
 (refine zaC rfl (by first|rfl|simp[Region.wanted,yielded,zaG, *]) rfl Tryz.func19 (by kernel_rfl) rfl (by simp[Act.eval, *];try rfl) (zwH v.heap.size v.heap.size w10.heap.size v.heap.size sv11 sv5 T11 T11 hI11 hI10' hz' hz' (by omega) (by omega)) ?_)
 rintro _ S12 w12 _ ⟨rfl,eS,eW⟩;subst S12 w12;rw[hal];simp only[stO_some];have hH11:=hH10.kp0 hK11;repeat (first|refine rQ rfl ?_|refine rY zaA ?_|refine rW ?_)
 (refine zaC rfl (by first|rfl|simp[Region.wanted,yielded,zaG, *]) rfl Tryz.func21 (by kernel_rfl) rfl (by simp[Act.eval, *];try rfl) (yjH (by omega) hSo9 hH11.st) ?_)
 rintro _ S13 w13 _ ⟨rfl,eS,hK13⟩;subst S13;simp only[stO_some];repeat (first|refine rQ rfl ?_|refine rY zaA ?_|refine rW ?_)
 refine zaH fun todo=>?_
 exact ret _ _ _ w13 (by simp) ((hKv10.trans hK11).trans hK13)
end
end Go.Proofs.YtpiefebngnlfoaaGreatDoor
