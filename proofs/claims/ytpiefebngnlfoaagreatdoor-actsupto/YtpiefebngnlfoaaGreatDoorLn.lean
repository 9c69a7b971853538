import Derived.Test.YtpiefebngnlfoaaGreatDoorLf
import Derived.Conc.WgGenN3
import Derived.Conc.MuWords
set_option maxRecDepth 99999
set_option maxHeartbeats 0
set_option linter.unusedVariables false
set_option linter.unusedSimpArgs false
namespace Go.Vw
open Go.Conc Go.ConcN Go.RowKit Go.Conc.Lib Go.ConcR.Gen Go.ConcN.Gen
open Go.ConcR (KK wgBlock WgAt stA smA rd wr mk DC0)
section
variable {L:WgLink}{P:Program}{Wg:Nat}{b₀ : Frame}{a₀ : Act}{ops₀ : Array Oper}{i₀ : Nat}{rest₀ : List Nat}{k₀ : List Item}{cs:List Frame}
theorem We(H:WgLib P L)(w:World)(hF:WgLive L.tWg Wg w):Goes P true (RL L.tWg Wg) DC0 (Ad P L.tWg Wg (G (b₀.at (a₀.put ((ops₀[i₀]?).bind (·.dst)) (.tuple #[])) (.inRegion ops₀ rest₀::k₀)) cs)) 30
   (G ((base L.add).at ⟨#[.pointer (some ⟨Wg,0,none⟩),.int .i64 1]++Array.replicate 115 undef,[]⟩ [.code (body_add L)]) (b₀.at a₀ (.inRegion ops₀ (i₀::rest₀)::k₀)::cs)) w:=by
 lib_facts;simp only[body_add,addFn,ao,Array.replicate_succ,Array.replicate_zero,List.push_toArray,List.append_toArray,List.nil_append,List.cons_append];repeat (first|w_go (λh r=>r h)|u_conv H.underlying_tWgP H.room_tWg (WgLive.cell0 hF).choose_spec (λh r=>r h) hF)
 refine Goes.stop (λw₁ h₁=>?_);replace hF:=h₁ hF;clear h₁;refine⟨rfl,_,stepG_mark0 .disable (by simp) rfl rfl (by k_ne) rfl H.f_disable (x_disable_n L) (x_disable_b L) (x_disable_x L) (x_disable_f L),60,?_⟩;walk_nrm;repeat w_go (λh r=>r h)
 u_defer (λh r=>r h) hF;repeat w_go (λh r=>r h)
 u_bub (λh r=>r h) hF;repeat w_go (λh r=>r h)
 u_call H.f_uAdd (nm_uAdd L) uAddFn (λh r=>r h) hF;repeat w_go (λh r=>r h)
 refine Goes.stop (λw₂ h₂=>?_);replace hF:=h₂ hF;clear h₂;refine⟨rfl,λv hv hw=>?_⟩
 obtain⟨S,hS⟩:∃S:Int,((v:Int)+1)*KK=S:=⟨_,rfl⟩;have a1:S/4294967296=(v:Int)+1:=by rw[<-hS];simp only[KK];omega
 have b1:bits .and .u64 S 2147483648=0:=by rw[<-hS];have:=st_flag (v+1) 0 (by omega) (by omega);simpa [KK] using this
 have b2:bits .and .u64 S 2147483647=0:=by rw[<-hS];have:=st_waiters (v+1) 0 (by omega) (by omega);simpa [KK] using this
 have c1:IntKind.i32.wrap ((v:Int)+1)=(v:Int)+1:=by rw[IntKind.wrap_i32];omega
 have w1:IntKind.u64.wrap ((v:Int)*KK+4294967296)=S:=by rw[IntKind.wrap_u64,<-hS];simp only[KK];omega
 have q3:decide ((v:Int)+1<0)=false:=decide_eq_false (by omega);have q4:decide (0<(v:Int)+1)=true:=decide_eq_true (by omega);rw[hS];refine⟨_,(stepG_add_atomic rfl rfl (by k_ne) rfl H.f_addU64 (x_addU64_n L) (x_addU64_b L) (x_addU64_x L) .u64 (x_addU64_f L) rfl rfl hw.cellSt (hw.thaw 0)).trans (by rw[w1];rfl),110,?_⟩;replace hF:WgLive L.tWg Wg (w₂.setCell (stA Wg) (.int .u64 S)):=⟨_,_,hw.setSt _⟩;clear hw;walk_nrm;repeat w_go (λh r=>r h)
 u_leave1 H.f_uAdd (λh r=>r h) hF;repeat w_go (λh r=>r h)
 have q6:decide ((v:Int)+1=0)=false:=decide_eq_false (by omega);have q7:((v:Int)+1==0)=false:=by simp;omega
 rcases Nat.eq_zero_or_pos v with rfl|E2
 .u_cnd true (λh r=>r h) hF;repeat w_go (λh r=>r h)
  u_conv H.underlying_tPU32 H.room_tU32 (WgLive.cell1 hF).choose_spec (λh r=>r h) hF;refine Goes.stop (λw₃ h₃=>.inl ?_);replace hF:=h₃ hF;clear h₃;refine⟨rfl,_,stepG_markAt .read (by simp) rfl rfl (by k_ne) rfl H.f_raceRead (x_raceRead_n L) (x_raceRead_b L) (x_raceRead_x L) (x_raceRead_f L) (ad:=⟨Wg,1,none⟩) (by simp[Act.eval]),60,?_⟩;walk_nrm;repeat w_go (λh r=>r h)
  refine Goes.stop (λw₄ h₄=>?_);replace hF:=h₄ hF;clear h₄;refine⟨rfl,_,stepG_unwind_entry (v:=.tuple #[]) (evs:=#[mk .enable]) rfl H.f_enable (x_enable_n L) (x_enable_b L) (x_enable_x L) (x_enable_f L) (by simp[Extern.Race.none_]) (by simp[mk]) (by simp[mk]),3,?_⟩;u_leave0 H.f_add (λh r=>r h) hF;exact Goes.stop (λ_ _=>rfl)
 .u_cnd false (λh r=>r h) hF;repeat w_go (λh r=>r h)
  refine Goes.stop (λw₄ h₄=>.inr ?_);replace hF:=h₄ hF;clear h₄;refine⟨rfl,_,stepG_unwind_entry (v:=.tuple #[]) (evs:=#[mk .enable]) rfl H.f_enable (x_enable_n L) (x_enable_b L) (x_enable_x L) (x_enable_f L) (by simp[Extern.Race.none_]) (by simp[mk]) (by simp[mk]),3,?_⟩;u_leave0 H.f_add (λh r=>r h) hF;exact Goes.stop (λ_ _=>rfl)
end
