import Derived.Test.YtpiefebngnlfoaaGreatDoorLg
import Derived.Conc.WgGenN3
import Derived.Conc.MuWords
set_option maxRecDepth 99999
set_option maxHeartbeats 0
set_option linter.unusedVariables false
set_option linter.unusedSimpArgs false
namespace Go.Vw
open Go.Conc Go.ConcN Go.RowKit Go.Conc.Lib Go.ConcR.Gen Go.ConcN.Gen
open Go.ConcR (KK wgBlock WgAt stA smA rd wr mk DC0)
section
variable {L:WgLink}{P:Program}{Wg:Nat}{b₀ : Frame}{a₀ : Act}{ops₀ : Array Oper}{i₀ : Nat}{rest₀ : List Nat}{k₀ : List Item}{cs:List Frame}
def Ab(L:WgLink)(Wg:Nat)(c:Frame)(cs:List Frame):Goroutine->World->Prop:=AnchWN L (λ_=>True) Wg c cs
theorem Mw(H:WgLib P L)(g:Goroutine)(w:World)(h:Ab L Wg (b₀.at a₀ (.inRegion ops₀ (i₀::rest₀)::k₀)) cs g w):∃m,Goes P true (RL L.tWg Wg) DC0 (uH P L.tWg Wg (G (b₀.at (a₀.put ((ops₀[i₀]?).bind (·.dst)) (.tuple #[])) (.inRegion ops₀ rest₀::k₀)) cs) (Ab L Wg (b₀.at a₀ (.inRegion ops₀ (i₀::rest₀)::k₀)) cs)) m g w:=by
 lib_facts;obtain⟨T,rfl,j_,t0,_,hF⟩:=h;obtain⟨v0,v1,v2,v3,v4,v5,v6,v7,v8,v9,v10,v11,v12,v13,v14,v15,v16,v17,v18,v19,v20,v21,v22,v23,v24,v25,v26,v27,v28,v29,v30,v31,v32,v33,v34,v35,v36,v37,v38,v39,v40,v41,v42,v43,v44,v45,v46,v47,v48,v49,v50,v51,v52,v53,v54,v55,v56,v57,v58,v59,v60,v61,v62,v63,v64,v65,v66,v67,v68,v69,v70,v71,v72,v73,v74,v75,v76,v77,v78,v79,v80,v81,v82,v83,rfl⟩:=array84 T j_;simp only[List.getElem?_toArray,List.getElem?_cons_zero,cr]at t0;subst t0;refine⟨40,?_⟩;simp only[L7,body_wait,waitFn,ao];repeat w_go (λh r=>r h)
 u_call H.f_uLoad (nm_uLoad L) uLoadFn (λh r=>r h) hF;repeat w_go (λh r=>r h)
 refine Goes.stop (λw₁ h₁=>?_);clear h₁ hF;refine⟨rfl,λv hv hw=>?_⟩;rcases Nat.eq_zero_or_pos v with rfl|E2
 .replace hw:WgAt L.tWg Wg w₁ 0 0:=by simpa using hw
  refine⟨_,stepG_load_atomic (v:=0) rfl rfl (by k_ne) rfl H.f_loadU64 (x_loadU64_n L) (x_loadU64_b L) (x_loadU64_x L) .u64 (x_loadU64_f L) rfl hw.cellSt,λ_=>⟨80,?_⟩,λh=>absurd rfl h⟩;have hF:WgLive L.tWg Wg w₁:=⟨_,_,hw⟩;clear hw;walk_nrm;repeat w_go (λh r=>r h)
  u_leave1 H.f_uLoad (λh r=>r h) hF;repeat w_go (λh r=>r h)
  refine Goes.stop (λw₅ h₅=>?_);replace hF:=h₅ hF;clear h₅;refine⟨rfl,_,stepG_mark0 .enable (by simp) rfl rfl (by k_ne) rfl H.f_enable (x_enable_n L) (x_enable_b L) (x_enable_x L) (x_enable_f L),20,?_⟩;walk_nrm;repeat w_go (λh r=>r h)
  u_conv H.underlying_tWgP H.room_tWg (WgLive.cell0 hF).choose_spec (λh r=>r h) hF;refine Goes.stop (λw₆ h₆=>?_);clear h₆ hF;refine⟨rfl,_,stepG_markAt .acquire (by simp) rfl rfl (by k_ne) rfl H.f_acquire (x_acquire_n L) (x_acquire_b L) (x_acquire_x L) (x_acquire_f L) (by simp[Act.eval,stA]),rfl,40,?_⟩;have hF:True:=trivial;walk_nrm;repeat w_go (λ_ _=>trivial)
  u_leave0 H.f_wait (λ_ _=>trivial) hF;exact Goes.stop (λ_ _=>rfl)
 .obtain⟨S,hS⟩:∃S:Int,(v:Int)*KK=S:=⟨_,rfl⟩;have a1:S/4294967296=(v:Int):=by rw[<-hS];simp only[KK];omega
  have b1:bits .and .u64 S 2147483648=0:=by rw[<-hS];have:=st_flag v 0 (by omega) (by omega);simpa [KK] using this
  have b2:bits .and .u64 S 2147483647=0:=by rw[<-hS];have:=st_waiters v 0 (by omega) (by omega);simpa [KK] using this
  have c1:IntKind.i32.wrap (v:Int)=(v:Int):=by rw[IntKind.wrap_i32];omega
  have w1:IntKind.u64.wrap (S+1)=S+1:=by rw[IntKind.wrap_u64,<-hS];simp only[KK];omega
  have q3:decide ((v:Int)<0)=false:=decide_eq_false (by omega);have q4:decide (0<(v:Int))=true:=decide_eq_true (by omega);have q5:((v:Int)==0)=false:=by simp;omega
  have q6:decide ((v:Int)=0)=false:=decide_eq_false (by omega);rw[hS]at hw;refine⟨_,stepG_load_atomic (v:=S) rfl rfl (by k_ne) rfl H.f_loadU64 (x_loadU64_n L) (x_loadU64_b L) (x_loadU64_x L) .u64 (x_loadU64_f L) rfl hw.cellSt,λh0=>absurd h0 (by omega),λ_=>⟨90,?_⟩⟩;have hF:WgLive L.tWg Wg w₁:=⟨_,_,hw⟩;clear hw;walk_nrm;repeat w_go (λh r=>r h)
  u_leave1 H.f_uLoad (λh r=>r h) hF;repeat w_go (λh r=>r h)
  u_call H.f_uCas (nm_uCas L) uCasFn (λh r=>r h) hF;repeat w_go (λh r=>r h)
  refine Goes.stop (λw₂ h₂=>?_);clear h₂ hF;refine⟨rfl,λv' KW hw=>⟨λe=>?_,λe=>?_⟩⟩
  .subst e;rw[hS]at hw⊢;refine⟨_,(stepG_cas_hit (v:=S) (n:=S+1) rfl rfl (by k_ne) rfl H.f_casU64 (x_casU64_n L) (x_casU64_b L) (x_casU64_x L) .u64 (x_casU64_f L) rfl rfl rfl hw.cellSt (hw.thaw 0)).trans (by rfl),80,?_⟩;have hF:WgLive L.tWg Wg (w₂.setCell (stA Wg) (.int .u64 (S+1))):=⟨_,_,hw.setSt _⟩;clear hw;walk_nrm;repeat w_go (λh r=>r h)
   u_leave1 H.f_uCas (λh r=>r h) hF;repeat w_go (λh r=>r h)
   u_conv H.underlying_tPU32 H.room_tU32 (WgLive.cell1 hF).choose_spec (λh r=>r h) hF;refine Goes.stop (λw₃ h₃=>?_);replace hF:=h₃ hF;clear h₃;refine⟨rfl,_,stepG_markAt .write (by simp) rfl rfl (by k_ne) rfl H.f_raceWrite (x_raceWrite_n L) (x_raceWrite_b L) (x_raceWrite_x L) (x_raceWrite_f L) (ad:=⟨Wg,1,none⟩) (by simp[Act.eval]),60,?_⟩;walk_nrm;repeat w_go (λh r=>r h)
   refine Goes.stop (λw₃ h₃=>?_);clear h₃ hF;refine⟨rfl,rfl,λ⟨st,hw⟩=>stepG_semacquire_wait rfl rfl rfl H.f_semacquire (x_semacquire_n L) (x_semacquire_b L) (x_semacquire_x L) (x_semacquire_f L) (by simp[Act.eval,smA]) hw.cellSm,λhf=>?_⟩;refine⟨_,(stepG_semacquire (n:=1) rfl rfl (by k_ne) rfl H.f_semacquire (x_semacquire_n L) (x_semacquire_b L) (x_semacquire_x L) (x_semacquire_f L) (by simp[Act.eval,smA]) hf.cellSm (by k_ne) (hf.thaw 1)).trans (by rfl),40,?_⟩;have hF:WgLive L.tWg Wg (w₃.setCell (smA Wg) (.int .u32 0)):=⟨_,_,hf.setSm 0⟩;clear hf;walk_nrm;repeat w_go (λh r=>r h)
   u_call H.f_uLoad (nm_uLoad L) uLoadFn (λh r=>r h) hF;repeat w_go (λh r=>r h)
   refine Goes.stop (λw₄ h₄=>?_);clear h₄ hF;refine⟨rfl,λhw=>⟨_,stepG_load_atomic (v:=0) rfl rfl (by k_ne) rfl H.f_loadU64 (x_loadU64_n L) (x_loadU64_b L) (x_loadU64_x L) .u64 (x_loadU64_f L) rfl hw.cellSt,50,?_⟩⟩;have hF:WgLive L.tWg Wg w₄:=⟨_,_,hw⟩;clear hw;walk_nrm;repeat w_go (λh r=>r h)
   u_leave1 H.f_uLoad (λh r=>r h) hF;repeat w_go (λh r=>r h)
   refine Goes.stop (λw₅ h₅=>?_);replace hF:=h₅ hF;clear h₅;refine⟨rfl,_,stepG_mark0 .enable (by simp) rfl rfl (by k_ne) rfl H.f_enable (x_enable_n L) (x_enable_b L) (x_enable_x L) (x_enable_f L),20,?_⟩;walk_nrm;repeat w_go (λh r=>r h)
   u_conv H.underlying_tWgP H.room_tWg (WgLive.cell0 hF).choose_spec (λh r=>r h) hF;refine Goes.stop (λw₆ h₆=>?_);clear h₆ hF;refine⟨rfl,_,stepG_markAt .acquire (by simp) rfl rfl (by k_ne) rfl H.f_acquire (x_acquire_n L) (x_acquire_b L) (x_acquire_x L) (x_acquire_f L) (by simp[Act.eval,stA]),rfl,40,?_⟩;have hF:True:=trivial;walk_nrm;repeat w_go (λ_ _=>trivial)
   u_leave0 H.f_wait (λ_ _=>trivial) hF;exact Goes.stop (λ_ _=>rfl)
  .refine⟨_,stepG_cas_miss (v:=(v':Int)*KK) (old:=S) (n:=S+1) rfl rfl (by k_ne) rfl H.f_casU64 (x_casU64_n L) (x_casU64_b L) (x_casU64_x L) .u64 (x_casU64_f L) rfl rfl rfl hw.cellSt (hw.thaw 0) (by rw[<-hS];simp only[KK];omega),40,?_⟩;have hF:WgLive L.tWg Wg w₂:=⟨_,_,hw⟩;clear hw;walk_nrm;repeat w_go (λh r=>r h)
   u_leave1 H.f_uCas (λh r=>r h) hF;repeat w_nl (λh r=>r h)
   u_c stepG_inLoop (λh r=>r h) hF;exact Goes.stop (λw₃ h₃=>⟨_,rfl,by simp,by simp,trivial,h₃ hF⟩)
end
section
variable {L:WgLink}{P:Program}{Wg:Nat}{b₀ : Frame}{a₀ : Act}{ops₀ : Array Oper}{i₀ : Nat}{rest₀ : List Nat}{k₀ : List Item}{cs:List Frame}
theorem Mv(H:WgLib P L)(w:World)(hF:WgLive L.tWg Wg w):Goes P true (RL L.tWg Wg) DC0 (zY P L.tWg Wg (Ab L Wg (b₀.at a₀ (.inRegion ops₀ (i₀::rest₀)::k₀)) cs)) 10
   (G ((base L.wait).at ⟨#[.pointer (some ⟨Wg,0,none⟩)]++Array.replicate 83 undef,[]⟩ [.code (body_wait L)]) (b₀.at a₀ (.inRegion ops₀ (i₀::rest₀)::k₀)::cs)) w:=by
 lib_facts;simp only[body_wait,waitFn,ao,Array.replicate_succ,Array.replicate_zero,List.push_toArray,List.append_toArray,List.nil_append,List.cons_append];repeat w_go (λh r=>r h)
 refine Goes.stop (λw₁ h₁=>?_);replace hF:=h₁ hF;clear h₁;refine⟨rfl,_,stepG_mark0 .disable (by simp) rfl rfl (by k_ne) rfl H.f_disable (x_disable_n L) (x_disable_b L) (x_disable_x L) (x_disable_f L),5,?_⟩;walk_nrm;u_c stepG_region_end (λh r=>r h) hF;u_c stepG_block (λh r=>r h) hF;u_c stepG_loop (λh r=>r h) hF;exact Goes.stop (λw₂ h₂=>⟨_,rfl,by simp,by simp,trivial,h₂ hF⟩)
end
