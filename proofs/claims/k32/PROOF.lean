import PyProof.Rows.All
import Wide.All
import OpenK.AllK
import Wide.FinOn
import Lean
import PyProof.EqAt
import PyProof.EqKinds
import PyProof.TupleCall
import PyProof.NeKinds
import KE.KSortTup
import KE.KItemsList
import KE.KDictSum
import KE.KTryMore
import KE.KRevIter
import PyProof.SetKind
import PyProof.Rows.SetFrom
import KE.KDictLaws
import PyProof.DictUpdate
import PyProof.MinMaxWalk
import PyProof.WalkInts
import KE.KDictOf
import PyProof.EnumFor
import PyProof.EnumStmt
import PyProof.EnumMake
import PyProof.Rows.EnumRows
import PyProof.Rows.FactsT2
import PyProof.P3Eq
import PyProof.DictRoadsH
import PyProof.FactsAll.NoneType
import PyProof.ZipIter
import KE.KPairComp
import PyProof.TupleOfSeq
import PySem.Challenge.RW_fairdraw_k32_laid_out
set_option maxHeartbeats 4000000
local macro_rules
|`('b')=>`(by first | exact Or.inl rfl | exact Or.inr rfl)
|`('c')=>`(⟨rfl,rfl,rfl,by decide +kernel,rfl,by decide +kernel,by decide +kernel⟩)
|`('d')=>`(by first|lia|omega)
|`('f')=>`(by decide)
|`('g')=>`(by rfl)
|`('j')=>`(by simp)
local macro_rules|`(tactic|omega)=>`(tactic|lia)
def k7:=@PySem.wpAny_bind
def k8:=@PySem.wpAny_pure
def k9:=@if_neg
def ke:=@if_pos
def kf:=@decide_eq_true
def kg:=@decide_eq_false
def kh:=@PySem.wpAny_ite_split
def ki:=@PySem.wpAny_callSpecial?_slot
def kj:=@PySem.wpAny_call_entry
def kq:=@PySem.wpAny_newObj_type
def ku:=@PySem.wpAny_field
def kx:=@PySem.wpAny_mono
def kK:=@PySem.wpAny_setState_of
def kL:=@PySem.wpAny_setField
def kM:=@PySem.wpAny_holding
def kN:=@congrArg
def kO:=@PySem.wpAny_askSetting
def kP:=@or_false
def kQ:=@PySem.wpAny_setEntries_of
def kR:=@PySem.sizeLine_eq
def kS:=@of_decide_eq_true
def kT:=@PySem.wpAny_seqItems
def kU:=@PySem.wpAny_isInstance
def kW:=@PySem.wpAny_typeNameOfWhole_keyiter
def kX:=@PySem.wpAny_of_eq
def kY:=@PySem.wpAny_Call_Name_kw
def kZ:=@PySem.wpAny_passesOwn
def q8:=@PySem.wpAny_dictEntries
def qd:=@PySem.wpAny_setField_rec
def qg:=@decide_eq_true_iff
def qh:=@PySem.codeAny_builtin
def qi:=@PySem.wpAny_attempt
def qj:=@PySem.wpAny_rule
abbrev qk:=PySem.Value->PySem.Shared->Prop
abbrev qm:=PySem.Str->Option PySem.Value
abbrev qr:=List (PySem.Addr×PySem.Obj)
abbrev qu:=PySem.W.Frag
abbrev qv:=Option PySem.Value
abbrev qz:=Array PySem.Value
abbrev qA:=List PySem.Value
abbrev qB:=List PySem.Str
abbrev qC:=List Nat
abbrev qD:=List Int
abbrev qY:=PySem.Value
abbrev qZ:=PySem.Shared
abbrev xb:=PySem.Addr
abbrev xf:=PySem.Program
abbrev xh:=PySem.World
def jA:=@List.mem_singleton
def jB:=@List.mem_cons
def jC:=@List.length_map
def jD:=@List.getElem?_eq_getElem
def jE:=@List.mem_cons_of_mem
def jF:=@PySem.Heap.get?_push_of_some
def jG:=@Nat.le_refl
def jH:=@List.mem_cons_self
def jI:=@List.mem_append
def jJ:=@List.getElem?_map
def jK:=@List.size_toArray
def jL:=@PySem.Heap.lt_size
def jM:=@List.mem_append_right
def jN:=@List.getD_eq_getElem?_getD
def jO:=@PySem.Heap.get?_push_size
def jP:=@List.nodup_cons
def jQ:=@Bool.false_ne_true
def jR:=@List.append_nil
def jS:=@Nat.zero_le
def jT:=@Option.map_eq_some_iff
def jU:=@List.length_cons
def jV:=@List.getElem?_eq_some_iff
def jW:=@Array.length_toList
def jX:=@Nat.lt_of_lt_of_le
def jY:=@List.length_append
def jZ:=@Nat.ne_of_lt
def ja:=@Int.toNat_natCast
def jb:=@List.not_mem_nil
def jc:=@List.flatMap_cons
def jd:=@List.map_append
def je:=@Nat.le_trans
def jf:=@Array.getElem?_eq_getElem
def jg:=@List.map_cons
def jh:=@PySem.Heap.get?_update_self
def ji:=@List.mem_append_left
def jj:=@Bool.and_eq_true
def jk:=@Nat.lt_of_le_of_lt
def jl:=@Option.isSome_iff_exists
def jm:=@PySem.Heap.get?_update_other
def jn:=@List.mem_map
def jo:=@List.length_take
def jp:=@List.getElem_mem
def jq:=@List.mem_of_getElem?
def jr:=@List.mem_flatMap
def js:=@Nat.lt_irrefl
def jt:=@List.take_succ_eq_append_getElem
def ju:=@Nat.le_add_right
def jv:=@Nat.succ_le_succ
def jw:=@List.append_assoc
def jx:=@List.reverse_cons
def jy:=@List.find?_cons
def jz:=@Array.getElem?_eq_none
def j0:=@List.nil_append
def j3:=@List.nodup_append
def j4:=@List.nodup_nil
def j5:=@Array.getElem?_eq_some_iff
def j6:=@List.mem_filter
def j7:=@Nat.le_succ
def j8:=@List.length_drop
def j9:=@List.take_length
def kA:=@List.pairwise_cons
def kB:=@PySem.Heap.size_push
def kC:=@List.foldl_cons
def kE:=@List.take_of_length_le
def kF:=@List.drop_eq_nil_of_le
def kG:=@Array.getElem?_toList
def kH:=@Nat.not_lt_zero
def kI:=@Nat.ne_of_gt
def kJ:=@List.length_range
set_option autoImplicit true
set_option Elab.async false
set_option linter.all false
set_option maxRecDepth 100000
namespace FdE
open PySem PySem.W PySem.Calls PyProof.Rows
def dR{p q:xf}{loose:qB}{Xt:qZ->Bool}{α:Type}{Yf:qZ->α}{Ya:xh->α}{N:Nat}(e:opening p=plainProg p.main.scope.names)(hN:Nat.ble 600 N=true)(f:∀s,fenceModules? p s=some s)
 (h:∀(w:xh) (os:OsState),(topRun treeTable p w 11 (some (.ref 6)) N ⟨boot_heap w.params,Array.mk [],boot_drawn,boot_toks,os⟩ (topStub p)).map (λs =>
  ((staticsOk (importedModules p.main.body) (boot_heap w.params) s.heap&&namesBound p s.heap&&gensDone s&&laidKept (boot_heap w.params) s.heap),openSeen q loose (importedModules p.main.body) Xt true s,Yf s))=some (true,openGood q loose,Ya w)):LeftO p q loose Xt Yf Ya N:=λw=>by
 obtain⟨⟨hp,gs,d,k,os⟩,e1,e2⟩:=jT.mp (boot_open e hN f w);simp only[Prod.mk.injEq]at e2;obtain⟨rfl,rfl,rfl,rfl⟩:=e2;have size:((boot_heap w.params).isNs mainGlobals&&(Array.mk ([]:List GenState)).size==0)=true/\(boot_heap w.params).objs.size=11/\(boot_heap w.params).nsMap mainGlobals "__annotations__" = some (.ref 6):=⟨by kernel_rfl,by kernel_rfl,by kernel_rfl⟩;obtain⟨z1,z2,z3⟩:=size;obtain⟨s,r,l⟩:=jT.mp (h w os);simp only[Prod.mk.injEq]at l;obtain⟨l1,l2,l3⟩:=l
 have t:topFrom treeTable p w N ⟨boot_heap w.params,Array.mk [],boot_drawn,boot_toks,os⟩=some s:=by
  unfold topFrom;dsimp only;rw[z1,z2,z3,r];show(match staticsOk (importedModules p.main.body) (boot_heap w.params) s.heap&&namesBound p s.heap&&gensDone s&&laidKept (boot_heap w.params) s.heap with|true=>_|false=>_)=_;rw[l1]
 unfold openEnds;rw[e1];show(topFrom treeTable p w N _).map _=_;rw[t];exact kN some (Prod.ext l2 l3)
abbrev dS (p q : xf) (loose : List Str) (Xt : qZ -> Bool) {α : Type} (Yf : qZ -> α) (Ya : xh -> α) (N : Nat) (w : xh) (os : OsState) : Prop := (topRun treeTable p w 11 (some (.ref 6)) N ⟨boot_heap w.params, Array.mk [], boot_drawn, boot_toks, os⟩ (topStub p)).map (fun s =>
      ((staticsOk (importedModules p.main.body) (boot_heap w.params) s.heap&&namesBound p s.heap&&gensDone s&&laidKept (boot_heap w.params) s.heap),openSeen q loose (importedModules p.main.body) Xt true s,Yf s))=some (true,openGood q loose,Ya w)
abbrev aL(p:xf)(N:Nat)(w:xh)(os:OsState):Prop:=(topRun treeTable p w 11 (some (.ref 6)) N ⟨boot_heap w.params,Array.mk [],boot_drawn,boot_toks,os⟩ (topStub p)).map (λs=>staticsOk (importedModules p.main.body) (boot_heap w.params) s.heap&&namesBound p s.heap&&gensDone s&&laidKept (boot_heap w.params) s.heap)=some true
abbrev aM(p q:xf)(loose:qB)(Xt:qZ->Bool)(N:Nat)(w:xh)(os:OsState):Prop:=(topRun treeTable p w 11 (some (.ref 6)) N ⟨boot_heap w.params,Array.mk [],boot_drawn,boot_toks,os⟩ (topStub p)).map (λs=>openSeen q loose (importedModules p.main.body) Xt true s)=some (openGood q loose)
abbrev aN(p:xf){α:Type}(Yf:qZ->α)(Ya:xh->α)(N:Nat)(w:xh)(os:OsState):Prop:=(topRun treeTable p w 11 (some (.ref 6)) N ⟨boot_heap w.params,Array.mk [],boot_drawn,boot_toks,os⟩ (topStub p)).map (λs=>Yf s)=some (Ya w)
def mU{p q:xf}{loose:qB}{Xt:qZ->Bool}{α:Type}{Yf:qZ->α}{Ya:xh->α}{N:Nat}{w:xh}{os:OsState}(h1:aL p N w os)(h2:aM p q loose Xt N w os)(h3:aN p Yf Ya N w os):dS p q loose Xt Yf Ya N w os:=by
 unfold dS;unfold aL at h1;unfold aM at h2;unfold aN at h3;obtain⟨s,r,l1⟩:=jT.mp h1;obtain⟨s2,r2,l2⟩:=jT.mp h2;obtain⟨s3,r3,l3⟩:=jT.mp h3;rw[r]at r2 r3
 cases r2;cases r3
 rw[r];show some (_,_,_)=some _;rw[l1,l2,l3]
noncomputable def aO(st:SharedT->Thread->Option (SharedT×Thread))(ok:Thread->Bool):Nat->SharedT->Thread->Option SharedT :=
 @Nat.rec (λ_=>SharedT->Thread->Option SharedT) (λ_ _=>none) (λ_ ih s t =>
  @Bool.rec (λ_=>Option SharedT) (@Bool.rec (λ_=>Option SharedT) none (@Option.rec (SharedT×Thread) (λ_=>Option SharedT) none (λr=>ih r.1 r.2) (st s t)) (ok t)) (some s) (through t))
theorem dU{tb:String->Option Builtin}{p:xf}{w:xh}{n₀:Nat}{ann:qv}:∀{n:Nat}{s s':SharedT}{t:Thread},aO (stepT (denote tb) p w) (stepOk n₀ ann) n s t=some s'->topRun tb p w n₀ ann n s.abs t=some s'.abs
 |0,_,_,_,h=>by cases h
 |n+1,s,s',t,h=>by
  have h:@Bool.rec (λ_=>Option SharedT) (@Bool.rec (λ_=>Option SharedT) none (@Option.rec (SharedT×Thread) (λ_=>Option SharedT) none (λr=>aO (stepT (denote tb) p w) (stepOk n₀ ann) n r.1 r.2) (stepT (denote tb) p w s t)) (stepOk n₀ ann t)) (some s) (through t)=some s':=h;unfold topRun
  cases he:through t with
  |true=>rw[he]at h;cases h;rfl
  |false =>
   rw[he]at h
   cases hk:stepOk n₀ ann t with
   |false=>rw[hk]at h;cases h
   |true =>
    rw[hk]at h
    cases hs:stepT (denote tb) p w s t with
    |none=>rw[hs]at h;cases h
    |some r=>obtain⟨s₂,t₂⟩:=r;rw[hs]at h;rw[stepT_spec hs];exact dU h
noncomputable def mV(P:Params):BT := .node (boot_o_0 P) (.node (boot_o_1 P) (.node (boot_o_3 P) (.node (boot_o_7 P) .nil .nil) .nil) (.node (boot_o_5 P) (.node (boot_o_9 P) .nil .nil) .nil)) (.node (boot_o_2 P) (.node (boot_o_4 P) (.node (boot_o_8 P) .nil .nil) .nil) (.node (boot_o_6 P) (.node (boot_o_10 P) .nil .nil) .nil))
noncomputable def dX(w:xh)(os:OsState):SharedT:=⟨mV w.params,11,(boot_heap w.params).life,Array.mk [],boot_drawn,boot_toks,os⟩
def mW(w:xh)(os:OsState):(dX w os).abs=⟨boot_heap w.params,Array.mk [],boot_drawn,boot_toks,os⟩:=rfl
def aP{p:xf}{α:Type}{f:qZ->α}{a:α}{N:Nat}{w:xh}{os:OsState}(h:(aO (stepT (denote treeTable) p w) (stepOk 11 (some (.ref 6))) N (dX w os) (topStub p)).map (λs=>f s.abs)=some a):(topRun treeTable p w 11 (some (.ref 6)) N ⟨boot_heap w.params,Array.mk [],boot_drawn,boot_toks,os⟩ (topStub p)).map f=some a:=by
 obtain⟨s,r,l⟩:=jT.mp h;rw[<- mW,dU r];exact kN some l
end FdE
namespace FdE
open PySem
def top(i:Nat):Stmt:=PySem.Challenge.pw_fairdraw_k32_laid_out.main.body.getD i (.Pass ⟨0,0,0,0⟩)
end FdE
section FdEarly
open PySem PySem.W PyProof.Rows
def FdE.viewQ:xf:={ PySem.Challenge.pw_fairdraw_k32_laid_out with main:={ PySem.Challenge.pw_fairdraw_k32_laid_out.main with body:=[FdE.top 1,FdE.top 3,FdE.top 4,FdE.top 6,FdE.top 7,FdE.top 8,FdE.top 9,FdE.top 10,FdE.top 11,FdE.top 12,FdE.top 13,FdE.top 14,FdE.top 15,FdE.top 16,FdE.top 17,FdE.top 18,FdE.top 19,FdE.top 20,FdE.top 21,FdE.top 22,FdE.top 23,FdE.top 24,FdE.top 25,FdE.top 26,FdE.top 27,FdE.top 28,FdE.top 29,FdE.top 30,FdE.top 31] } }
local macro_rules | `(tactic| o_head $H:term) => `(tactic| (refine holds_open (q := FdE.viewQ) (loose := []) (Xt := fun s => xlAt FdE.viewQ [] s && recOk (RowW.records (OpenRow.toRowW (OpenLaw.row PySem.Challenge.rw_fairdraw_k32_laid_out))) s) (XP := XL FdE.viewQ []) (Yf := Hook.obs $H) (Ya := Hook.val $H) (YP := Hook.says $H) (N := 2928) ?_ (Hook.of $H) (Hook.keeps $H) (fun s e => xl_of s (Bool.and_eq_true_iff.mp e).1) XL.keeps (by rfl) (by rfl) (by rfl) (fun s e => recFacts_of (Bool.and_eq_true_iff.mp e).2) (by rfl) (by first | assumption | decide +kernel) (by decide +kernel) ⟨rfl, rfl, rfl, rfl, rfl, by decide +kernel⟩ ?_ ?_))
def FdE.P0:PySem.Params:={ strHash:=λ_=>0,shareClass:=λ_=>0,mergeTok:=λt=>t,idOf:=λ_=>0,idOfShared:=λ_ _=>0,followText:=λ_=>false,idOfImm:=λ_=>0 }
set_option maxHeartbeats 0 in
theorem FdE.pre(h:False):PySem.Challenge.rw_fairdraw_k32_laid_out.Holds:=by
 w_on;refine holds_law h.elim λsaid=>?_;k_head<;>exact h.elim
set_option maxHeartbeats 0 in
theorem FdE.run1(w:xh)(os:OsState):FdE.aL PySem.Challenge.pw_fairdraw_k32_laid_out 2928 w os:=by
 refine FdE.aP ?_;rw[PySem.W.Fast.te10156331382660048174,PySem.W.Fast.te11892475500146522536,PySem.W.Fast.te14364793385576792824,PySem.W.Fast.te6613529449190102663];kernel_rfl
set_option maxHeartbeats 0 in
theorem FdE.run2(w:xh)(os:OsState):FdE.aM PySem.Challenge.pw_fairdraw_k32_laid_out FdE.viewQ [] (λs=>xlAt FdE.viewQ [] s&&recOk (RowW.records (OpenRow.toRowW (OpenLaw.row PySem.Challenge.rw_fairdraw_k32_laid_out))) s) 2928 w os:=by
 refine FdE.aP ?_;rw[PySem.W.Fast.te10156331382660048174,PySem.W.Fast.te11892475500146522536,PySem.W.Fast.te14364793385576792824,PySem.W.Fast.te6613529449190102663,PySem.W.Fast.te4187177175401517315];kernel_rfl
set_option maxHeartbeats 0 in
theorem FdE.run3(w:xh)(os:OsState):FdE.aN PySem.Challenge.pw_fairdraw_k32_laid_out (Hook.obs (kHook FdE.pre.heap_1 ((FdE.pre.heap_1 FdE.P0).map (·.1)) (λ_=>by kernel_rfl))) (Hook.val (kHook FdE.pre.heap_1 ((FdE.pre.heap_1 FdE.P0).map (·.1)) (λ_=>by kernel_rfl))) 2928 w os:=by
 refine FdE.aP ?_;rw[PySem.W.Fast.te10156331382660048174,PySem.W.Fast.te11892475500146522536,PySem.W.Fast.te14364793385576792824,PySem.W.Fast.te6613529449190102663];kernel_rfl
theorem FdE.left:LeftO PySem.Challenge.pw_fairdraw_k32_laid_out FdE.viewQ [] (λs=>xlAt FdE.viewQ [] s&&recOk (RowW.records (OpenRow.toRowW (OpenLaw.row PySem.Challenge.rw_fairdraw_k32_laid_out))) s) (Hook.obs (kHook FdE.pre.heap_1 ((FdE.pre.heap_1 FdE.P0).map (·.1)) (λ_=>by kernel_rfl))) (Hook.val (kHook FdE.pre.heap_1 ((FdE.pre.heap_1 FdE.P0).map (·.1)) (λ_=>by kernel_rfl))) 2928:=FdE.dR (by kernel_rfl) rfl (λs=>by kernel_rfl) (λw os=>FdE.mU (FdE.run1 w os) (FdE.run2 w os) (FdE.run3 w os))
end FdEarly
set_option Elab.async false
set_option linter.all false
set_option maxRecDepth 100000
namespace L2
open PySem PySem.Spec PyProof.Rows
abbrev Key:=Sum Int Str
def QG:Key->qY->Bool
 |.inl k,v=>Value.isInt k v
 |.inr x,v=>Value.isStrOf x v
def mX(w:xh):Key->Int
 |.inl k=>hashInt k
 |.inr x=>hashStr w x
theorem Q3:∀{k:Key}{v:qY},QG k v=true->(∃i t,k=Sum.inl i/\v=Value.int i t)\/(∃x t,k=Sum.inr x/\v=Value.str x t)
 |.inl i,v,h=>by
  obtain⟨t,e⟩:=Value.isInt_shape (k:=i) (v:=v) h;exact .inl ⟨i,t,rfl,e⟩
 |.inr x,v,h=>by
  obtain⟨t,e⟩:=Value.isStrOf_shape (x:=x) (v:=v) h;exact .inr ⟨x,t,rfl,e⟩
def mY(i:Int)(t:Tok):QG (.inl i) (.int i t)=true:=by simp[QG,Value.isInt]
def mZ(x:Str)(t:Tok):QG (.inr x) (.str x t)=true:=by simp[QG,Value.isStrOf]
def nc(a b:Int):decide ((Sum.inl a:Key)=Sum.inl b)=(a==b):=by
 by_cases e:a=b
 . subst e;simp
 . have h:¬(Sum.inl a:Key)=Sum.inl b:=λq=>e (Sum.inl.inj q);rw[kg h];exact(beq_eq_false_iff_ne.mpr e).symm
def nj(a b:Str):decide ((Sum.inr a:Key)=Sum.inr b)=decide (a=b):=by
 by_cases e:a=b
 . subst e;simp
 . have h:¬(Sum.inr a:Key)=Sum.inr b:=λq=>e (Sum.inr.inj q);rw[kg h,kg e]
def nk(a:Int)(b:Str):decide ((Sum.inl a:Key)=Sum.inr b)=false:=kg (λq=>nomatch q)
def nn(a:Str)(b:Int):decide ((Sum.inr a:Key)=Sum.inl b)=false:=kg (λq=>nomatch q)
def Jf(prog:xf)(w:xh):PySem.KeyKind prog w Key where
 is:=QG
 hash:=mX w
 inj:=λv a b ha hb=>by
  rcases Q3 ha with ⟨i,t,rfl,rfl⟩|⟨x,t,rfl,rfl⟩
  . rcases Q3 hb with ⟨j,u,rfl,e⟩ | ⟨y,u,rfl,e⟩
    . injection e with e1 _;rw[e1]
    . exact nomatch e
  . rcases Q3 hb with ⟨j,u,rfl,e⟩ | ⟨y,u,rfl,e⟩
    . exact nomatch e
    . injection e with e1 _;rw[e1]
 byValue:=λk v h=>by
  rcases Q3 h with ⟨i,t,rfl,rfl⟩|⟨x,t,rfl,rfl⟩<;>rfl
 pyHash:=λhv h=>by
  rcases Q3 hv with ⟨i,t,rfl,rfl⟩|⟨x,t,rfl,rfl⟩
  . exact wpAny_pyHash_int h
  . exact wpAny_pyHash_str h
 eqBool:=λhu hv h=>by
  rcases Q3 hu with ⟨i,t,rfl,rfl⟩|⟨x,t,rfl,rfl⟩
  . rcases Q3 hv with ⟨j,u,rfl,rfl⟩ | ⟨y,u,rfl,rfl⟩
    . rw[nc]at h;exact wpAny_eqBool_int h
    . rw[nk]at h;exact SeqAt.EqAt.int_str i t y u _ _ _ _ h
  . rcases Q3 hv with ⟨j,u,rfl,rfl⟩ | ⟨y,u,rfl,rfl⟩
    . rw[nn]at h;exact SeqAt.EqAt.str_int x t j u _ _ _ _ h
    . rw[nj]at h;exact wpAny_eqBool_str h
 «strs»:=λk x t v h=>by
  rcases Q3 h with ⟨i,u,rfl,e⟩|⟨y,u,rfl,e⟩
  . exact nomatch e
  . injection e with e1 _
    subst e1
    cases v<;>rfl
def nv(prog:xf)(w:xh)(k:Key)(v:qY):(Jf prog w).is k v=QG k v:=rfl
def ny(prog:xf)(w:xh)(i:Int)(t:Tok):(Jf prog w).is (.inl i) (.int i t)=true:=mY i t
def nA(prog:xf)(w:xh)(x:Str)(t:Tok):(Jf prog w).is (.inr x) (.str x t)=true:=mZ x t
inductive V where
 |non|bl (b:Bool)|int (i:Int)|str (x:Str)|byt (b:Array UInt8)|flt (b:UInt64)|ref (a:xb)|ty (n:String)
 deriving DecidableEq
def RelV:V->qY->Prop
 |.non,u=>u=Value.none
 |.bl b,u=>u=Value.bool b
 |.int i,u=>∃t,u=Value.int i t
 |.str x,u=>∃t,u=Value.str x t
 |.byt b,u=>∃t,u=Value.bytes b t
 |.flt b,u=>∃t,u=Value.float b t
 |.ref a,u=>u=Value.ref a
 |.ty n,u=>u=Value.type n
abbrev Vals:List V->qA->Prop:=Paired RelV
theorem Vals.length(r:Vals xs us):xs.length=us.length:=Paired.length r
theorem Vals.get:∀{xs:List V}{us:qA}{i:Nat}{x:V},Vals xs us->xs[i]?=some x->∃u,us[i]?=some u/\RelV x u
 |_,_,_,_,.nil,e=>by simp at e
 |_,_,0,_,.cons r _,e=>by simp at e;subst e;exact⟨_,rfl,r⟩
 |_,_,i+1,x,.cons _ t,e=>by
  obtain⟨u,h1,h2⟩:=Vals.get (i:=i) (x:=x) t (by simpa using e);exact⟨u,by simpa using h1,h2⟩
theorem Vals.set(r:RelV x u):∀{xs:List V}{us:qA} (i:Nat),Vals xs us->Vals (xs.set i x) (us.set i u)
 |_,_,_,.nil => .nil
 |_,_,0,.cons _ t => .cons r t
 |_,_,i+1,.cons q t => .cons q (Vals.set r i t)
theorem Vals.append:∀{xs ys:List V}{us ws:qA},Vals xs us->Vals ys ws->Vals (xs++ys) (us++ws)
 |_,_,_,_,.nil,s=>s
 |_,_,_,_,.cons r t,s => .cons r (Vals.append t s)
theorem Vals.take:∀{xs:List V}{us:qA} (n:Nat),Vals xs us->Vals (xs.take n) (us.take n)
 |_,_,0,_ => .nil
 |_,_,_+1,.nil => .nil
 |_,_,n+1,.cons r t => .cons r (Vals.take n t)
theorem Vals.drop:∀{xs:List V}{us:qA} (n:Nat),Vals xs us->Vals (xs.drop n) (us.drop n)
 |_,_,0,r=>r
 |_,_,_+1,.nil => .nil
 |_,_,n+1,.cons _ t=>Vals.drop n t
def RelO:Option V->qv->Prop
 |some v,some u=>RelV v u
 |none,none=>True
 |_,_=>False
def KV{κ:Type}:List (κ×V)->List (κ×qY)->Prop:=Paired λ(p:κ×V) (q:κ×qY)=>p.1=q.1/\RelV p.2 q.2
def kV:Key->V
 |.inl i => .int i
 |.inr x => .str x
inductive HO where
 /-- a list -/
 |lst (xs:List V)
 /-- a tuple (never changes) -/
 |tup (xs:List V)
 /-- a dict whose keys are ints and texts;one whose keys are tuples of ints and texts (the empty one is both) -/
 |dK (kvs:List (Key×V))|dT (kvs:List (List Key×V))
 /-- a set of ints: its members,its size -/
 |set (S:Int->Bool) (n:Nat)
 /-- an instance of the class at C,its dict at dx,its attributes -/
 |ins (C dx:xb) (fs:List (Str×V))
 /-- the dict of the instance at x -/
 |own (x:xb)
 /-- the dict of an exception -/
 |xd (fs:List (Str×V))
 /-- a bound method,f of x -/
 |met (f x:xb)
 /-- a range object lo,lo+1,.. below hi -/
 |rng (lo hi:Int)
 /-- a thing that is known to the object (the script;a dict while a loop walks it): read,never written while it is so -/
 |frz (o:Obj) (u:HO)
 /-- a code object's table -/
 |tbl (ps:qz)
 /-- any other thing,by what is true of its one object (a def of one's own: SetO a S n:=HO.ext λh => ..) -/
 |ext (φ:Heap->Prop)
abbrev Hp:=xb->Option HO
def upd(H:Hp)(a:xb)(o:HO):Hp:=λb=>if b=a then some o else H b
def xm:upd H a o a=some o:=by unfold upd;rw[ke rfl]
def xz(h:b≠a):upd H a o b=H b:=by unfold upd;rw[k9 h]
def Qe{H:Hp}{a b:xb}{o u:HO}(h:H a=some o)(h':H b=some u)(d:o≠u):a≠b:=by
 intro e;subst e;rw[h]at h';exact d (Option.some.inj h')
def Jm{H:Hp}{a b:xb}{o:HO}(h:H a=some o)(h':H b=none):a≠b:=by
 intro e;subst e;rw[h]at h';cases h'
section
variable (P:xf) (w:xh)
def ObjOk(H:Hp)(h:Heap)(a:xb):HO->Prop
 |.lst xs=>xs.length<=sizeLine/\∃(its:qA) (n:Nat),Vals xs its/\h.get? a=some { cls := .type "list",data := .seq its.toArray n }
 |.tup xs=>xs.length<=sizeLine/\∃its:qA,Vals xs its/\IsTup h a its.toArray
 |.dK kvs=>kvs.length<=sizeLine/\(a==sysModules)=false/\∃vs,KV kvs vs/\h.DictOf (Jf P w) a vs
 |.dT kvs=>kvs.length<=sizeLine/\(a==sysModules)=false/\∃xs:List (List Key×xb×qY),
  Paired (λ(p:List Key×V) (q:List Key×xb×qY)=>p.1=q.1/\H q.2.1=some (.tup (p.1.map kV))/\RelV p.2 q.2.2) kvs xs /\
  ∃o es ep,h.get? a=some o/\o.ExactDict/\o.data=.dict es ep/\es.toList=xs.map (entryOfKey (tupleKind (Jf P w)))/\(xs.map (·.1)).Nodup
 |.set S n=>h.SetOf (intKind P w) a S n
 |.ins C dx fs=>H dx=some (.own a)/\fs.length<=1000/\dx≠a/\h.get? a=some (PySem.W.instObj C dx) /\
  ∃mA,h.Ns1 dx mA/\(∀f,RelO (fs.lookup f) (mA f))/\PySem.Within mA (fs.map (·.1))
 |.own _=>∃o,h.get? a=some o
 |.xd fs=>∃mA,h.Ns1 a mA/\∀f,RelO (fs.lookup f) (mA f)
 |.rng lo hi=>∃t u v,h.get? a=some { cls := .type "range",data := .fields #[.int lo t,.int hi u,.int 1 v] }
 |.frz o u=>h.get? a=some o/\ObjOk H h a u
 |.tbl ps=>h.get? a=some { cls := .none,data := .fields ps }
 |.met f x=>h.get? a=some (PySem.W.methodObj (.ref f) (.ref x))
 |.ext φ=>φ h/\(∃o,h.get? a=some o)/\∀h1 h2:Heap,φ h1->(∀o,h1.get? a=some o->h2.get? a=some o)->φ h2
def HOk(H:Hp)(h:Heap):Prop:=∀a o,H a=some o->ObjOk P w H h a o
end
section
variable {P:xf}{w:xh}{H H':Hp}{h h':Heap}{a:xb}{o:HO}
theorem ObjOk.lt(x:ObjOk P w H h a o):a<h.objs.size:=by
 cases o with
 |lst xs=>obtain⟨_,_,_,_,e⟩:=x;exact jL e
 |tup xs=>obtain⟨_,_,_,p⟩:=x;exact p.lt
 |dK kvs=>obtain⟨_,_,_,_,o,_,_,e,_⟩:=x;exact jL e
 |dT kvs=>obtain⟨_,_,_,_,o,_,_,e,_⟩:=x;exact jL e
 |set S n=>obtain⟨o,_,_,_,e,_⟩:=x;exact jL e
 |ins C dx fs=>obtain⟨_,_,_,e,_⟩:=x;exact jL e
 |own y=>obtain⟨_,e⟩:=x;exact jL e
 |xd fs=>obtain⟨_,⟨_,_,_,e,_⟩,_⟩:=x;exact jL e
 |rng lo hi=>obtain⟨_,_,_,e⟩:=x;exact jL e
 |frz ob u=>obtain⟨e,_⟩:=x;exact jL e
 |tbl ps=>exact jL (show h.get? a=some _ from x)
 |met f y=>exact jL (show h.get? a=some _ from x)
 |ext φ=>obtain⟨_,⟨_,e⟩,_⟩:=x;exact jL e
theorem Paired.mapP{α β:Type}{F G:α->β->Prop}:∀{l₁:List α}{l₂:List β},Paired F l₁ l₂->(∀a b,F a b->G a b)->Paired G l₁ l₂
 |_,_,.nil,_ => .nil
 |_,_,.cons r t,f => .cons (f _ _ r) (Paired.mapP t f)
def ObjOk.stay(x:ObjOk P w H h a o)(k:∀b u,(b=a\/H b=some (.own a))->h.get? b=some u->h'.get? b=some u)
 (ho:∀b,H b=some (.own a)->H' b=some (.own a)) (ht:∀b xs,H b=some (.tup xs)->H' b=some (.tup xs)):ObjOk P w H' h' a o:=by
 induction o with
 |lst xs=>obtain⟨z,its,n,r,e⟩:=x;exact⟨z,its,n,r,k _ _ (.inl rfl) e⟩
 |tup xs=>obtain⟨z,its,r,ob,e,c⟩:=x;exact⟨z,its,r,ob,k _ _ (.inl rfl) e,c⟩
 |dK kvs=>obtain⟨z,y,vs,r,ob,es,ep,e,c⟩:=x;exact⟨z,y,vs,r,ob,es,ep,k _ _ (.inl rfl) e,c⟩
 |dT kvs =>
  obtain⟨z,y,xs,r,ob,es,ep,e,c⟩:=x;exact⟨z,y,xs,Paired.mapP r λp q z=>⟨z.1,ht _ _ z.2.1,z.2.2⟩,ob,es,ep,k _ _ (.inl rfl) e,c⟩
 |set S n=>obtain⟨ob,es,ep,t,e,c⟩:=x;exact⟨ob,es,ep,t,k _ _ (.inl rfl) e,c⟩
 |ins C dx fs =>
  obtain⟨d,z,ne,e,mA,⟨od,es,ep,e2,c⟩,r⟩:=x;exact⟨ho _ d,z,ne,k _ _ (.inl rfl) e,mA,⟨od,es,ep,k _ _ (.inr d) e2,c⟩,r⟩
 |own y=>obtain⟨ob,e⟩:=x;exact⟨ob,k _ _ (.inl rfl) e⟩
 |xd fs=>obtain⟨mA,⟨od,es,ep,e,c⟩,r⟩:=x;exact⟨mA,⟨od,es,ep,k _ _ (.inl rfl) e,c⟩,r⟩
 |rng lo hi=>obtain⟨t,u,v,e⟩:=x;exact⟨t,u,v,k _ _ (.inl rfl) e⟩
 |frz ob u ih=>obtain⟨e,q⟩:=x;exact⟨k _ _ (.inl rfl) e,ih q⟩
 |tbl ps =>
  have e:h.get? a=some { cls := .none,data := .fields ps }:=x;show h'.get? a=some { cls := .none,data := .fields ps };exact k a _ (.inl rfl) e
 |met f y =>
  have e:h.get? a=some (PySem.W.methodObj (.ref f) (.ref y)):=x;show h'.get? a=some (PySem.W.methodObj (.ref f) (.ref y));exact k a _ (.inl rfl) e
 |ext φ=>obtain⟨p,⟨o,e⟩,st⟩:=x;exact⟨st _ _ p λo q=>k _ _ (.inl rfl) q,⟨o,k _ _ (.inl rfl) e⟩,st⟩
theorem HOk.lt(x:HOk P w H h)(e:H a=some o):a<h.objs.size:=(x a o e).lt
def HOk.fresh(x:HOk P w H h)(e:h.objs.size<=a):H a=none:=by
 cases q:H a with
 |none=>rfl
 |some u=>exact absurd (jX (x.lt q) e) (js _)
def HOk.kept(x:HOk P w H h)(k:∀b u,h.get? b=some u->h'.get? b=some u):HOk P w H h':=λa o e =>
 (x a o e).stay (λb u _ q=>k b u q) (λ_ q=>q) λ_ _ q=>q
def HOk.laid(x:HOk P w H h)(k:∀b u,h.get? b=some u->h'.get? b=some u)(hp:h.objs.size<=a)(new:ObjOk P w (upd H a o) h' a o):HOk P w (upd H a o) h':=λb u e=>by
 have hn:=x.fresh hp
 by_cases hb:b=a
 . subst hb;rw[xm]at e;cases e;exact new
 . rw[xz hb]at e;exact(x b u e).stay (λc v _ q=>k c v q) (λc q=>by rw[xz (Jm q hn)];exact q) λc xs q=>by rw[xz (Jm q hn)];exact q
end
def Rd(H:Hp)(a:xb)(u:HO):Prop:=H a=some u\/∃o,H a=some (.frz o u)
def Rd.of(h:H a=some u):Rd H a u := .inl h
def Rd.ok(r:Rd H a u)(x:HOk P w H h):ObjOk P w H h a u:=by
 rcases r with r|⟨o,r⟩
 . exact x a u r
 . obtain⟨_,q⟩:=x a _ r;exact q
def Mut:Option HO->Prop
 |some (.lst _)=>True
 |some (.dK _)=>True
 |some (.dT _)=>True
 |some (.set _ _)=>True
 |some (.ins _ _ _)=>True
 |some (.ext _)=>True
 |_=>False
section
variable {P:xf}{w:xh}{H:Hp}{h h':Heap}{x e:xb}{o':HO}
def HOk.write(ok:HOk P w H h)(mu:Mut (H x))(he:e=x\/H e=some (.own x))(k:∀b u,b≠e->h.get? b=some u->h'.get? b=some u)(heo:∃u,h'.get? e=some u)
 (new:ObjOk P w (upd H x o') h' x o'):HOk P w (upd H x o') h':=λb u q=>by
 have nown:∀c y,H c=some (.own y)->c≠x:=λc y r z=>by subst z;rw[r]at mu;exact mu
 have ntup:∀c xs,H c=some (.tup xs)->c≠x:=λc xs r z=>by subst z;rw[r]at mu;exact mu
 by_cases hb:b=x
 . subst hb;rw[xm]at q;cases q;exact new
 . rw[xz hb]at q
   by_cases hbe:b=e
   . have q':H b=some (.own x):=by
      rcases he with z|z
      . exact absurd (hbe.trans z) hb
      . rw[hbe];exact z
     rw[q]at q';cases q';obtain⟨v,hv⟩:=heo;exact⟨v,by rw[hbe];exact hv⟩
   . refine(ok b u q).stay (λc v hc r=>k c v ?_ r) (λc r=>by rw[xz (nown c b r)];exact r) λc xs r=>by rw[xz (ntup c xs r)];exact r
     rcases hc with rfl|hc
     . exact hbe
     . rintro rfl;rcases he with z | z
       . exact nown c b hc z
       . rw[hc]at z;cases z;exact hb rfl
end
structure Un (fs ex:List xb) (H H':Hp) (h h':Heap):Prop where
 keep:∀b o,h.get? b=some o->H b=none->b∉fs->b∉ex->h'.get? b=some o
 slot:∀b o,h.get? b=some o->H b=none->b∈fs->b∉ex->∃sl,h'.get? b=some { o with slots:=sl }
 free:∀b o,h.get? b=some o->H b=none->b∉ex->H' b=none
 there:∀b o,h.get? b=some o->b∉ex->∃o',h'.get? b=some o'
 tups:∀b xs,H b=some (.tup xs)->H' b=some (.tup xs)
 frzs:∀b o u,H b=some (.frz o u)->H' b=some (.frz o u)
 tbls:∀b ps,H b=some (.tbl ps)->∃more,H' b=some (.tbl (ps++more))
section
variable {fs fs' ex ex':List xb}{H H1 H2:Hp}{h h1 h2 h':Heap}{a x e:xb}{o:HO}
def Un.any(u:Un fs ex H H1 h h1)(q:h.get? b=some ob)(n:H b=none)(hx:b∉ex):∃sl,h1.get? b=some { ob with slots:=sl }:=by
 by_cases hb:b∈fs
 . exact u.slot b ob q n hb hx
 . exact⟨ob.slots,u.keep b ob q n hb hx⟩
def Un.kept(k:∀b u,h.get? b=some u->h'.get? b=some u):Un fs ex H H h h' :=
 ⟨λb ob q _ _ _=>k b ob q,λb ob q _ _ _=>⟨ob.slots,k b ob q⟩,λ_ _ _ n _=>n,λb ob q _=>⟨ob,k b ob q⟩,λ_ _ q=>q,λ_ _ _ q=>q,λ_ ps q=>⟨#[],by rw[q];simp⟩⟩
def Un.refl:Un fs ex H H h h:=Un.kept λ_ _ q=>q
theorem Un.laid(k:∀b u,h.get? b=some u->h'.get? b=some u)(hp:h.objs.size<=a)(hn:H a=none):Un fs ex H (upd H a o) h h' where
 keep:=λb u q _ _ _=>k b u q
 slot:=λb u q _ _ _=>⟨u.slots,k b u q⟩
 free:=λb u q n _=>by rw[xz (jZ (jX (jL q) hp))];exact n
 there:=λb u q _=>⟨u,k b u q⟩
 tups:=λb xs q=>by rw[xz (Jm q hn)];exact q
 frzs:=λb u xs q=>by rw[xz (Jm q hn)];exact q
 tbls:=λb ps q=>⟨#[],by rw[xz (Jm q hn),q];simp⟩
def Un.write(mu:Mut (H x))(he:e=x\/H e=some (.own x))(k:∀b u,b≠e->h.get? b=some u->h'.get? b=some u)(heo:∃u,h'.get? e=some u):Un fs ex H (upd H x o) h h':=by
 have hx:∀b,H b=none->b≠x:=λb n z=>by subst z;rw[n]at mu;exact mu
 have hb:∀b,H b=none->b≠e:=λb n z=>by
  subst z;rcases he with r|r
  . exact hx b n r
  . rw[n]at r;cases r
 have hm:∀b u,H b=some u->¬Mut (some u)->b≠x:=λb u q nm z=>by subst z;rw[q]at mu;exact nm mu
 refine⟨λb u q n _ _=>k b u (hb b n) q,λb u q n _ _=>⟨u.slots,k b u (hb b n) q⟩,λb u q n _=>by rw[xz (hx b n)];exact n,λb u q _=>?_,
  λb xs q=>by rw[xz (hm b _ q λz=>z)];exact q,λb u xs q=>by rw[xz (hm b _ q λz=>z)];exact q,λb ps q=>⟨#[],by rw[xz (hm b _ q λz=>z),q];simp⟩⟩
 by_cases hbe:b=e
 . subst hbe;exact heo
 . exact⟨u,k b u hbe q⟩
end
def trk(h:Heap)(H:Hp):List xb:=(List.range h.objs.size).filter λa=>(H a).isSome
def QH(h:Heap)(H:Hp):Heap:=PySem.W.hideAll h (trk h H)
def nB(h:Heap)(H:Hp):(QH h H).objs.size=h.objs.size:=PySem.W.hideAll_size _ _
def nE(e:h.get? b=some o)(n:H b=none):(QH h H).get? b=some o :=
 PySem.W.hideAll_get _ e λhm=>by
  have q:(H b).isSome=true:=(j6.mp hm).2;rw[n]at q;simp at q
def nF(e:(QH h H).get? b=some o):h.get? b=some o/\H b=none:=by
 have e':h.get? b=some o:=PySem.W.of_hideAll (trk h H) e;refine⟨e',?_⟩
 cases q:H b with
 |none=>rfl
 |some x =>
  have hm:b∈trk h H:=j6.mpr ⟨List.mem_range.mpr (jL e'),by simp[q]⟩;have z:(QH h H).get? b=none:=PySem.W.hideAll_none (trk h H) hm;rw[z]at e;cases e
structure Mod (K:qu) (mg:qm) (base:Heap):Prop where
 kin:K.In base
 glob:base.Ns mainGlobals mg
 blt:∃mb,base.Ns builtinsNs mb/\∀x:Str,x ≠ "__name__" -> mb x=bootBuiltins x
 nolimit:base.NoLimit
structure Cx where
 prog:xf
 w:xh
 K:qu
 mg:qm
 base:Heap
 A:Around
 N:qB
 s₀:qZ
 H₀:Hp
 env:Env
 outer:List Env
 stack:List Env
 ex:List xb
 fn:Str->Bool
 calm:Bool
 pn:qr
 xe:qk
def frs(l:List Env):List xb:=l.filterMap (·.frame)
abbrev Cx.fs(X:Cx):List xb:=frs X.outer
def Vis(sc:Scope)(x:Str):Prop:=sc.names.lookup x=some .local\/sc.names.lookup x=some .cell\/sc.names.lookup x=some .free
def Loc(sc:Scope)(x:Str):Prop:=sc.names.lookup x=some .local\/sc.names.lookup x=some .cell
def Look(env:Env)(h:Heap)(m:qm)(x:Str)(u:qY):Prop :=
 (env.kindOf x=some .local/\m x=some u)\/((env.kindOf x=some .cell\/env.kindOf x=some .free)/\∃c,env.cells.lookup x=some c/\h.IsCell c (some u))
structure Cx.Ok (X:Cx):Prop where
 mod:Mod X.K X.mg X.base
 kind:X.env.scope.kind=.function
 glob:X.env.globals=mainGlobals
 blt:X.env.builtins=builtinsNs
 above:X.s₀.heap.objs.size<=X.env.locals
 inj:∀x y c,X.env.cells.lookup x=some c->X.env.cells.lookup y=some c->x=y
 has:∀x,(X.env.kindOf x=some .cell\/X.env.kindOf x=some .free)->∃c,X.env.cells.lookup x=some c
 cab:∀x c,X.fn x=true->X.env.cells.lookup x=some c->X.s₀.heap.objs.size<=c
 hd:X.calm=true->X.A.handled=none
 frames:X.A.frames=some X.stack
 stk:X.stack=X.outer\/(X.stack=X.env::X.outer/\X.env.frame=some X.env.locals)
 exf:∀b∈X.ex,b≠X.env.locals/\∀x c,X.env.cells.lookup x=some c->c≠b
 bs:∀b o,X.base.get? b=some o->X.s₀.heap.get? b=some o/\X.H₀ b=none
 bsz:X.base.objs.size<=X.s₀.heap.objs.size
 noex:∀b o,X.base.get? b=some o->b∉X.ex
 exfs:∀b∈X.ex,b∉X.fs
 funs:X.s₀.heap.FunFrames X.base X.outer
 frf:∀b∈X.fs,X.H₀ b=none
structure Inv (X:Cx) (qE:qr) (σ:List (Option V)) (H:Hp) (s:qZ):Prop where
 ok:X.Ok
 os:s.os=X.s₀.os
 bare:AllBare s.gens
 base:Un X.fs X.ex X.H₀ H X.s₀.heap s.heap
 loc:∃m,s.heap.Ns X.env.locals m/\∀(i:Nat) (x:Str) (v:V),X.N[i]?=some x->σ[i]?=some (some v)->Vis X.env.scope x->∃u,RelV v u/\Look X.env s.heap m x u
 cell:∀x c,X.env.cells.lookup x=some c->∃v,s.heap.IsCell c v
 free:H X.env.locals=none
 freeC:∀x c,X.env.cells.lookup x=some c->H c=none
 pin:∀p∈X.pn++qE,s.heap.get? p.1=some p.2/\H p.1=none/\p.1≠X.env.locals/\p.1∉X.fs/\∀v,p.2.data ≠ .cell v
 hok:HOk X.prog X.w H s.heap
 len:σ.length=X.N.length
section
variable {X:Cx}{qE:qr}{σ:List (Option V)}{H H':Hp}{s:qZ}{h':Heap}
def Cx.Ok.nofr(ok:X.Ok)(e:X.base.get? b=some o):b∉X.fs:=λhb=>by
 have:=(ok.funs.mem hb).1;rw[e]at this;cases this
theorem Inv.bs(I:Inv X qE σ H s):∀b o,X.base.get? b=some o->s.heap.get? b=some o/\H b=none:=λb o e =>
 ⟨I.base.keep b o (I.ok.bs b o e).1 (I.ok.bs b o e).2 (I.ok.nofr e) (I.ok.noex b o e),I.base.free b o (I.ok.bs b o e).1 (I.ok.bs b o e).2 (I.ok.noex b o e)⟩
def Inv.bk(I:Inv X qE σ H s):∀b o,X.base.get? b=some o->s.heap.get? b=some o:=λb o e=>(I.bs b o e).1
theorem Inv.mod(I:Inv X qE σ H s):Mod X.K X.mg X.base:=I.ok.mod
def Inv.kIn(I:Inv X qE σ H s):X.K.In s.heap:=I.ok.mod.kin.keeps I.bk
theorem Inv.lt(I:Inv X qE σ H s):X.env.locals<s.heap.objs.size:=let ⟨_,hn,_⟩:=I.loc;hn.lt
def Inv.sz(I:Inv X qE σ H s):X.s₀.heap.objs.size<=s.heap.objs.size:=je I.ok.above (Nat.le_of_lt I.lt)
def Inv.nofs(I:Inv X qE σ H s){a:xb}(h:s.heap.objs.size<=a):a∉X.fs:=λhb=>by
 obtain⟨_,o,ho,_⟩:=I.ok.funs.mem hb;exact absurd (jX (jL ho) (je I.sz h)) (js _)
def Inv.cne(I:Inv X qE σ H s):∀x c,X.env.cells.lookup x=some c->c≠X.env.locals:=λx c e z=>by
 obtain⟨v,o,ho,hd⟩:=I.cell x c e;obtain⟨m,⟨o',es,ep,ho',hd',_⟩,_⟩:=I.loc;rw[z,ho']at ho;cases ho;rw[hd']at hd;cases hd
theorem Inv.funs(I:Inv X qE σ H s):s.heap.FunFrames X.base X.outer:=by
 have all:∀(l:List Env),(∀b∈frs l,b∈X.fs)->X.s₀.heap.FunFrames X.base l->s.heap.FunFrames X.base l:=by
  intro l
  induction l with
  |nil=>intro _ _;trivial
  |cons env r ih =>
   intro hs hl;obtain⟨hk,⟨L,o,hf,hn,ho,hd⟩,hr⟩:=hl;have hL:L∈X.fs:=hs L (by unfold frs;rw[List.filterMap_cons,hf];exact jH);obtain⟨sl,e⟩:=I.base.slot L o ho (I.ok.frf L hL) hL λz=>I.ok.exfs L z hL;exact⟨hk,⟨L,_,hf,hn,e,hd⟩,ih (λb hb=>hs b (by unfold frs;rw[List.filterMap_cons,hf];exact jE _ hb)) hr⟩
 exact all X.outer (λ_ hb=>hb) I.ok.funs
theorem Inv.stack(I:Inv X qE σ H s):s.heap.FunFrames X.base X.stack:=by
 rcases I.ok.stk with e|⟨e,hf⟩
 . rw[e];exact I.funs
 . rw[e];obtain⟨m,hn,_⟩:=I.loc;refine .cons (by rw[I.ok.kind];decide) hf hn ?_ I.funs;exact Heap.get?_none_of_le (je I.ok.bsz I.ok.above)
def Inv.stkSub(I:Inv X qE σ H s):∀b∈frs X.stack,b∈X.env.locals::X.fs:=λb hb=>by
 rcases I.ok.stk with e|⟨e,hf⟩
 . rw[e]at hb;exact jE _ hb
 . rw[e]at hb;unfold frs at hb;rw[List.filterMap_cons,hf]at hb;exact hb
def Inv.stkFree(I:Inv X qE σ H s):∀b∈frs X.stack,H b=none:=λb hb=>by
 rcases jB.mp (I.stkSub b hb) with e|hb
 . rw[e];exact I.free
 . obtain⟨_,o,ho,_⟩:=I.ok.funs.mem hb;exact I.base.free b o ho (I.ok.frf b hb) λz=>I.ok.exfs b z hb
def Inv.step{g':Array GenState}{t':Nat}{d':Drawn}{ch:List xb}(I:Inv X qE σ H s)
 (hch:∀b∈ch,(b∈X.ex\/X.s₀.heap.objs.size<=b)/\b≠X.env.locals/\(∀x c,X.env.cells.lookup x=some c->c≠b)/\∀p∈X.pn++qE,p.1≠b)
 (keep:∀b o,b≠X.env.locals->b∉X.fs->b∉ch->s.heap.get? b=some o->H b=none->h'.get? b=some o)
 (slot:∀b o,b≠X.env.locals->b∈X.fs->b∉ch->s.heap.get? b=some o->H b=none->∃sl,h'.get? b=some { o with slots:=sl }) (free:∀b o,b∉ch->s.heap.get? b=some o->H b=none->H' b=none)
 (there:∀b o,b∉ch->s.heap.get? b=some o->∃o',h'.get? b=some o')
 (tups:∀b xs,H b=some (.tup xs)->H' b=some (.tup xs)) (frzs:∀b o u,H b=some (.frz o u)->H' b=some (.frz o u)) (tbls:∀b ps,H b=some (.tbl ps)->∃more,H' b=some (.tbl (ps++more)))
 (ns:∀m,s.heap.Ns X.env.locals m->h'.Ns X.env.locals m) (hok:HOk X.prog X.w H' h') (hg:AllBare g') :
 Inv X qE σ H' { s with heap:=h',gens:=g',drawn:=d',toks:=t' }:=by
 have neL:∀b o,X.s₀.heap.get? b=some o->b≠X.env.locals:=λb o e=>jZ (jX (jL e) I.ok.above)
 have neC:∀b o,X.s₀.heap.get? b=some o->b∉X.ex->b∉ch:=λb o e hx hb=>by
  rcases(hch b hb).1 with z|z
  . exact hx z
  . exact absurd (jX (jL e) z) (js _)
 have cellK:∀x c,X.env.cells.lookup x=some c->∀v,s.heap.IsCell c v->h'.IsCell c v:=λx c e v ⟨o,ho,hd⟩=>by
  have nch:c∉ch:=λz=>(hch c z).2.2.1 x c e rfl
  by_cases hc:c∈X.fs
  . obtain⟨sl,q⟩:=slot c o (I.cne x c e) hc nch ho (I.freeC x c e);exact⟨_,q,hd⟩
  . exact⟨o,keep c o (I.cne x c e) hc nch ho (I.freeC x c e),hd⟩
 refine⟨I.ok,I.os,hg,⟨λb o e n hb hx=>?_,λb o e n hb hx=>?_,λb o e n hx=>?_,λb o e hx=>?_,λb xs e=>tups b xs (I.base.tups b xs e),λb o xs e=>frzs b o xs (I.base.frzs b o xs e),λb ps e=>?_⟩,?_,λx c e=>?_,?_,λx c e=>?_,λp hp=>?_,hok,I.len⟩
 . exact keep b o (neL b o e) hb (neC b o e hx) (I.base.keep b o e n hb hx) (I.base.free b o e n hx)
 . obtain⟨sl,e1⟩:=I.base.slot b o e n hb hx;obtain⟨sl',e2⟩:=slot b _ (neL b o e) hb (neC b o e hx) e1 (I.base.free b o e n hx);exact⟨sl',e2⟩
 . obtain⟨o',e1⟩:=I.base.there b o e hx;exact free b o' (neC b o e hx) e1 (I.base.free b o e n hx)
 . obtain⟨o',e1⟩:=I.base.there b o e hx;exact there b o' (neC b o e hx) e1
 . obtain⟨m1,e1⟩:=I.base.tbls b ps e;obtain⟨m2,e2⟩:=tbls b _ e1;exact⟨m1++m2,by rw[e2,Array.append_assoc]⟩
 . obtain⟨m,hn,hl⟩:=I.loc;refine⟨m,ns m hn,λi x v e1 e2 e3=>?_⟩;obtain⟨u,r,l⟩:=hl i x v e1 e2 e3;refine⟨u,r,?_⟩;rcases l with l | ⟨k,c,e,z⟩
   . exact .inl l
   . exact .inr ⟨k,c,e,cellK x c e _ z⟩
 . obtain⟨v,z⟩:=I.cell x c e;exact⟨v,cellK x c e v z⟩
 . obtain⟨m,⟨o,_,_,ho,_⟩,_⟩:=I.loc;exact free _ o (λz=>(hch _ z).2.1 rfl) ho I.free
 . obtain⟨v,o,ho,hd⟩:=I.cell x c e;exact free c o (λz=>(hch c z).2.2.1 x c e rfl) ho (I.freeC x c e)
 . obtain⟨e,n,ne,nf,d⟩:=I.pin p hp;have nch:p.1∉ch:=λz=>(hch p.1 z).2.2.2 p hp rfl;exact⟨keep p.1 p.2 ne nf nch e n,free p.1 p.2 nch e n,ne,nf,d⟩
theorem Inv.un(I:Inv X qE σ H s)(u:Un X.fs [] H H' s.heap h')(hok:HOk X.prog X.w H' h'):Inv X qE σ H' { s with heap:=h',toks:=t' }:=by
 obtain⟨m,⟨o,es,ep,ho,r⟩,_⟩:=id I.loc;obtain⟨sl,hL⟩:=u.any ho I.free 'j'
 exact I.step (g':=s.gens) (d':=s.drawn) (ch:=[]) (λ_ z=>nomatch z) (λb o _ hb _ e n=>u.keep b o e n hb 'j') (λb o _ hb _ e n=>u.slot b o e n hb 'j') (λb o _ e n=>u.free b o e n 'j') (λb o _ e=>u.there b o e 'j') u.tups u.frzs u.tbls (λm' hm=>by
  obtain⟨o',es',ep',ho',r'⟩:=hm;rw[ho]at ho';cases ho';exact⟨_,es',ep',hL,r'⟩) hok I.bare
theorem Inv.call(I:Inv X qE σ H s)(u:Un (frs X.stack) ch H H' s.heap h')(hok:HOk X.prog X.w H' h')(hg:AllBare g')
 (hch:∀b∈ch,(b∈X.ex\/X.s₀.heap.objs.size<=b)/\b≠X.env.locals/\(∀x c,X.env.cells.lookup x=some c->c≠b)/\∀p∈X.pn++qE,p.1≠b) :
 Inv X qE σ H' { s with heap:=h',gens:=g',drawn:=d',toks:=t' }:=by
 obtain⟨m,⟨o,es,ep,ho,r⟩,_⟩:=id I.loc;obtain⟨sl,hL⟩:=u.any ho I.free λz=>(hch _ z).2.1 rfl
 exact I.step (ch:=ch) hch (λb o hL hb hc e n=>u.keep b o e n (λz=>(jB.mp (I.stkSub b z)).elim hL hb) hc) (λb o _ _ hc e n=>u.any e n hc) (λb o hc e n=>u.free b o e n hc) (λb o hc e=>u.there b o e hc) u.tups u.frzs u.tbls (λm' hm=>by
  obtain⟨o',es',ep',ho',r'⟩:=hm;rw[ho]at ho';cases ho';exact⟨_,es',ep',hL,r'⟩) hok hg
def Inv.turned(I:Inv X qE σ H s)(k:∀b o,b≠it->s.heap.get? b=some o->h'.get? b=some o)(hn:H it=none)(hL:it≠X.env.locals)
 (h1:it∈X.ex\/X.s₀.heap.objs.size<=it) (h2:∀x c,X.env.cells.lookup x=some c->c≠it) (h3:∀p∈X.pn++qE,p.1≠it):Inv X qE σ H { s with heap:=h',toks:=t' }:=by
 have nit:∀b u,H b=some u->b≠it:=λb u e z=>by rw[z,hn]at e;cases e
 refine I.step (g':=s.gens) (d':=s.drawn) (ch:=[it]) (λb hb=>?_) (λb o _ _ hc e _=>k b o (λz=>hc (by simp[z])) e) (λb o _ _ hc e _=>⟨o.slots,k b o (λz=>hc (by simp[z])) e⟩) (λ_ _ _ _ n=>n)
  (λb o hc e=>⟨o,k b o (λz=>hc (by simp[z])) e⟩) (λ_ _ e=>e) (λ_ _ _ e=>e) (λb ps e=>⟨#[],by rw[e];simp⟩) (λm hm=>?_) (λb u e=>?_) I.bare
 . have e:b=it:=by simpa using hb
   subst e;exact⟨h1,hL,h2,h3⟩
 . obtain⟨o,es,ep,ho,r⟩:=hm;exact⟨o,es,ep,k _ o (Ne.symm hL) ho,r⟩
 . refine(I.hok b u e).stay (λc v hc q=>k c v ?_ q) (λ_ q=>q) λ_ _ q=>q;rcases hc with z | z
   . rw[z];exact nit b u e
   . exact nit c _ z
def Inv.tok(I:Inv X qE σ H s)(t:Nat):Inv X qE σ H { s with toks:=t }:=I.un (h':=s.heap) (t':=t) Un.refl I.hok
theorem Inv.kept(I:Inv X qE σ H s)(k:∀b u,s.heap.get? b=some u->h'.get? b=some u):Inv X qE σ H { s with heap:=h',toks:=t' }:=I.un (Un.kept k) (I.hok.kept k)
theorem Inv.laid{a:xb}{o:HO}{t':Nat}(I:Inv X qE σ H s)(k:∀b u,s.heap.get? b=some u->h'.get? b=some u)(hp:s.heap.objs.size<=a)(new:ObjOk X.prog X.w (upd H a o) h' a o) :
 Inv X qE σ (upd H a o) { s with heap:=h',toks:=t' }:=I.un (Un.laid k hp (I.hok.fresh hp)) (I.hok.laid k hp new)
theorem Inv.write(I:Inv X qE σ H s)(mu:Mut (H x))(he:e=x\/H e=some (.own x))(k:∀b u,b≠e->s.heap.get? b=some u->h'.get? b=some u)(heo:∃u,h'.get? e=some u)
 (new:ObjOk X.prog X.w (upd H x o) h' x o):Inv X qE σ (upd H x o) { s with heap:=h',toks:=t' }:=I.un (Un.write mu he k heo) (I.hok.write mu he k heo new)
def Inv.pins_of(I:Inv X qE σ H s)(h:∀p∈pins',s.heap.get? p.1=some p.2/\H p.1=none/\p.1≠X.env.locals/\p.1∉X.fs/\∀v,p.2.data ≠ .cell v):Inv X pins' σ H s :=
 ⟨I.ok,I.os,I.bare,I.base,I.loc,I.cell,I.free,I.freeC,λp hp=>(jI.mp hp).elim (λz=>I.pin p (ji _ z)) (h p),I.hok,I.len⟩
def dY{N:qB}(hN:N.Nodup){i j:Nat}{x:Str}(a:N[i]?=some x)(b:N[j]?=some x):i=j:=by
 obtain⟨h1,e1⟩:=jV.mp a;obtain⟨h2,e2⟩:=jV.mp b;exact(List.getElem_inj hN).mp (e1.trans e2.symm)
theorem dZ(I:Inv X qE σ H s)(hN:X.N.Nodup)(hi:X.N[i]?=some x)(hx:Loc X.env.scope x)(r:RelV v u)
 (h:∀s',Inv X qE (σ.set i (some v)) H s'->(∃a,Heap.SameBut a s.heap s'.heap/\(a=X.env.locals\/X.env.cells.lookup x=some a))->Q () s') (hf:X.fn x=true\/X.env.scope.names.lookup x=some .local:=by first|exact .inl rfl|exact .inr rfl|assumption):wpAny M A (storeName X.env x u) Q E s:=by
 obtain⟨m,hn,hl⟩:=id I.loc;have hcls:(X.env.scope.kind==.class||(X.env.scope.kind==.module&&X.env.locals != X.env.globals))=false:=by rw[I.ok.kind];rfl
 have hiσ:i<σ.length:=by rw[I.len];exact(jV.mp hi).1
 have cne:=I.cne
 have tracked:∀{a:xb}{h':Heap},(∃o,s.heap.get? a=some o/\H a=none)->Heap.SameBut a s.heap h'->HOk X.prog X.w H h':=fun {a h'} ha hs b ob e=>by
  obtain⟨_,_,hfree⟩:=ha;refine(I.hok b ob e).stay (λc w' hc q=>(hs.2 c ?_).trans q) (λ_ q=>q) λ_ _ q=>q;rintro rfl;rcases hc with rfl|hc
  . rw[hfree]at e;cases e
  . rw[hfree]at hc;cases hc
 rcases hx with hk|hk
 . refine wpAny_storeName_local hk hn (λh' hn' hs=>?_) hcls;obtain⟨oL,_,_,hoL,_⟩:=id hn;refine h _ ⟨I.ok,I.os,I.bare,⟨λb o e n hb hx=>?_,λb o e n hb hx=>?_,I.base.free,λb o e hx=>?_,I.base.tups,I.base.frzs,I.base.tbls⟩,⟨_,hn',λj y v' e1 e2 e3=>?_⟩,λy c e=>?_,I.free,I.freeC,λp hp=>?_,tracked ⟨oL,hoL,I.free⟩ hs,by simpa using I.len⟩ ⟨_,hs,.inl rfl⟩
   . exact(hs.2 b (jZ (jX (jL e) I.ok.above))).trans (I.base.keep b o e n hb hx)
   . obtain⟨sl,e1⟩:=I.base.slot b o e n hb hx;exact⟨sl,(hs.2 b (jZ (jX (jL e) I.ok.above))).trans e1⟩
   . obtain⟨o',e1⟩:=I.base.there b o e hx;exact⟨o',(hs.2 b (jZ (jX (jL e) I.ok.above))).trans e1⟩
   . by_cases hj:j=i
     . subst hj;rw[hi]at e1;cases e1;rw[List.getElem?_set_self hiσ]at e2
       cases e2
       exact⟨u,r,.inl ⟨hk,by simp⟩⟩
     . rw[List.getElem?_set_ne (Ne.symm hj)]at e2;obtain⟨u',r',q⟩:=hl j y v' e1 e2 e3;refine⟨u',r',?_⟩;rcases q with ⟨k,e⟩ | ⟨k,c,e,z⟩
       . refine .inl ⟨k,?_⟩;have:y≠x:=λe=>hj (dY hN e1 (e ▸ hi));simp[this,e]
       . exact .inr ⟨k,c,e,z.sameBut hs (cne y c e)⟩
   . obtain⟨w',z⟩:=I.cell y c e;exact⟨w',z.sameBut hs (cne y c e)⟩
   . obtain⟨e,n,ne,nf,d⟩:=I.pin p hp;exact⟨(hs.2 p.1 ne).trans e,n,ne,nf,d⟩
 . have hfn:X.fn x=true:=by
    rcases hf with z|z
    . exact z
    . rw[z]at hk;cases hk
   obtain⟨c,hc⟩:=I.ok.has x (.inl hk);obtain⟨w',z⟩:=I.cell x c hc;refine wpAny_storeName_cell I.ok.kind hk hc z (λh' hc' hs=>?_);obtain⟨oc,hoc,hocd⟩:=id z;refine h { s with heap:=h' } ⟨I.ok,I.os,I.bare,⟨λb o e n hb hx=>?_,λb o e n hb hx=>?_,I.base.free,λb o e hx=>?_,I.base.tups,I.base.frzs,I.base.tbls⟩,⟨m,hn.sameBut hs (Ne.symm (cne x c hc)),λj y v' e1 e2 e3=>?_⟩,λy c' e=>?_,I.free,I.freeC,λp hp=>?_,tracked ⟨oc,hoc,I.freeC x c hc⟩ hs,by simpa using I.len⟩ ⟨c,hs,.inr hc⟩
   . exact(hs.2 b (jZ (jX (jL e) (I.ok.cab x c hfn hc)))).trans (I.base.keep b o e n hb hx)
   . obtain⟨sl,e1⟩:=I.base.slot b o e n hb hx;exact⟨sl,(hs.2 b (jZ (jX (jL e) (I.ok.cab x c hfn hc)))).trans e1⟩
   . obtain⟨o',e1⟩:=I.base.there b o e hx;exact⟨o',(hs.2 b (jZ (jX (jL e) (I.ok.cab x c hfn hc)))).trans e1⟩
   . by_cases hj:j=i
     . subst hj;rw[hi]at e1;cases e1;rw[List.getElem?_set_self hiσ]at e2
       cases e2
       exact⟨u,r,.inr ⟨.inl hk,c,hc,hc'⟩⟩
     . rw[List.getElem?_set_ne (Ne.symm hj)]at e2;obtain⟨u',r',q⟩:=hl j y v' e1 e2 e3;refine⟨u',r',?_⟩;rcases q with q | ⟨k,c',e,z'⟩
       . exact .inl q
       . refine .inr ⟨k,c',e,z'.sameBut hs ?_⟩;rintro rfl;exact hj (dY hN e1 (I.ok.inj _ _ _ e hc ▸ hi))
   . by_cases hcc:c'=c
     . subst hcc;exact⟨_,hc'⟩
     . obtain⟨w2,z2⟩:=I.cell y c' e;exact⟨w2,z2.sameBut hs hcc⟩
   . obtain⟨e,n,ne,nf,d⟩:=I.pin p hp;refine⟨(hs.2 p.1 ?_).trans e,n,ne,nf,d⟩;intro q;rw[q,hoc]at e;have q':oc=p.2:=Option.some.inj e;exact d w' (by rw[<- q'];exact hocd)
def eA(I:Inv X qE σ H s)(hN:X.N.Nodup)(hi:X.N[i]?=some x)(hx:Loc X.env.scope x)(r:RelV v u)
 (h:∀s',Inv X qE (σ.set i (some v)) H s'->Q () s') (hf:X.fn x=true\/X.env.scope.names.lookup x=some .local:=by first|exact .inl rfl|exact .inr rfl|assumption):wpAny M A (storeName X.env x u) Q E s :=
 dZ I hN hi hx r (λs' I' _=>h s' I') hf
def Inv.call'(I:Inv X qE σ H s)(ho:s'.os=s.os)(u:Un (frs X.stack) ch H H' s.heap s'.heap)(hok:HOk X.prog X.w H' s'.heap)(hg:AllBare s'.gens)
 (hch:∀b∈ch,(b∈X.ex\/X.s₀.heap.objs.size<=b)/\b≠X.env.locals/\(∀x c,X.env.cells.lookup x=some c->c≠b)/\∀p∈X.pn++qE,p.1≠b):Inv X qE σ H' s':=by
 obtain⟨h',g',d',t',o'⟩:=s';have e:o'=s.os:=ho;subst e;exact I.call (g':=g') (t':=t') (d':=d') u hok hg hch
end
abbrev XK:=qY->Option xb->Hp->Prop
abbrev St:=List (Option V)
abbrev VK:=V->Hp->Prop
abbrev TE:=St->Hp->VK->Prop
abbrev TT:=St->Hp->(Bool->Hp->Prop)->Prop
abbrev TA:=St->Hp->(List V->Hp->Prop)->Prop
structure Ends where
 nx:St->Hp->Prop
 rt:VK
 bk:St->Hp->Prop:=λ_ _=>False
 ct:St->Hp->Prop:=λ_ _=>False
abbrev TS:=Ends->St->Hp->Prop
def EP(X:Cx)(qE:qr)(σ:St)(Q:VK)(u:qY)(s':qZ):Prop:=∃v H',Inv X qE σ H' s'/\RelV v u/\Q v H'
def TP(X:Cx)(qE:qr)(σ:St)(Q:Bool->Hp->Prop)(b:Bool)(s':qZ):Prop:=∃H',Inv X qE σ H' s'/\Q b H'
def AP(X:Cx)(qE:qr)(σ:St)(Q:List V->Hp->Prop)(us:qA)(s':qZ):Prop:=∃vs H',Inv X qE σ H' s'/\Vals vs us/\Q vs H'
def SP(X:Cx)(qE:qr)(D:Ends)(f:Flow)(s':qZ):Prop :=
 match f with
 |.next=>∃qI H',Inv X qE qI H' s'/\D.nx qI H'
 |.brk=>∃qI H',Inv X qE qI H' s'/\D.bk qI H'
 |.cont=>∃qI H',Inv X qE qI H' s'/\D.ct qI H'
 |.ret u=>∃v qI H',Inv X qE qI H' s'/\RelV v u/\D.rt v H'
def PE(X:Cx)(e:Expr)(t:TE):Prop :=
 ∀(qE:qr) (s:qZ) (σ:St) (H:Hp) (Q:VK),Inv X qE σ H s->t σ H Q->wpAny (model X.prog X.w) X.A (eval e X.env) (EP X qE σ Q) X.xe s
def PT(X:Cx)(e:Expr)(t:TT):Prop :=
 ∀(qE:qr) (s:qZ) (σ:St) (H:Hp) (Q:Bool->Hp->Prop),Inv X qE σ H s->t σ H Q->wpAny (model X.prog X.w) X.A (isTrue e X.env (eval e X.env)) (TP X qE σ Q) X.xe s
def PW(X:Cx)(e:Expr)(t:TT):Prop :=
 ∀(whole:Sem qY) (qE:qr) (s:qZ) (σ:St) (H:Hp) (Q:Bool->Hp->Prop),Inv X qE σ H s->t σ H Q->wpAny (model X.prog X.w) X.A (isTrue e X.env whole) (TP X qE σ Q) X.xe s
def PW.pt(h:PW X e t):PT X e t:=h _
def PA(X:Cx)(es:List Expr)(t:TA):Prop :=
 ∀(pos:Pos) (qE:qr) (s:qZ) (σ:St) (H:Hp) (Q:List V->Hp->Prop),Inv X qE σ H s->t σ H Q->wpAny (model X.prog X.w) X.A (spliced (backTo pos (starEach es X.env))) (AP X qE σ Q) X.xe s
def PS(X:Cx)(st:Stmt)(t:TS):Prop :=
 ∀(qE:qr) (s:qZ) (σ:St) (H:Hp) (D:Ends),Inv X qE σ H s->t D σ H->wpAny (model X.prog X.w) X.A (exec st X.env) (SP X qE D) X.xe s
def PSs(X:Cx)(st:List Stmt)(t:TS):Prop :=
 ∀(qE:qr) (s:qZ) (σ:St) (H:Hp) (D:Ends),Inv X qE σ H s->t D σ H->wpAny (model X.prog X.w) X.A (execs st X.env) (SP X qE D) X.xe s
def thn{α:Type}{t:Sem α}{Q Q':α->qZ->Prop}{M:Model}{E:qk}(h:wpAny M A t Q E s)(hQ:∀a s,Q a s->Q' a s):wpAny M A t Q' E s:=kx h hQ λ_ _ x=>x
section
variable {X:Cx}
def Qo(i:Nat):TE:=λσ H Q=>∃v,σ[i]?=some (some v)/\Q v H
def tC(v:V):TE:=λ_ H Q=>Q v H
def nG{i:Nat}{x:Str}{pos:Pos}(hN:X.N[i]?=some x)(hv:Vis X.env.scope x)(hd:(x==("__debug__" : Str))=false:=by decide)(hcd:(x==("__classdict__" : Str))=false:=by decide):PE X (.Name x pos) (Qo i):=by
 intro qE s σ H Q I h;obtain⟨v,e,h⟩:=h;obtain⟨m,hn,hl⟩:=I.loc;obtain⟨u,r,l⟩:=hl i x v hN e hv;have qJ:EP X qE σ Q u s:=⟨v,H,I,r,h⟩;rcases l with ⟨hk,hm⟩|⟨hk,c,hc,hcell⟩
 . exact wpAny_Name (wpAny_loadName_local I.ok.kind hk hn hm qJ) hd
 . rcases hk with hk | hk
   . exact wpAny_Name (wpAny_loadName_cell I.ok.kind hk hc hcell qJ) hd
   . exact wpAny_Name (wpAny_loadName_free I.ok.kind hk hc hcell qJ hcd) hd
def xi:PE X (.Constant (.int i) j pos) (tC (.int i)):=λ_ _ _ H _ I h=>wpAny_Constant_int ⟨.int i,H,I.tok _,⟨_,rfl⟩,h⟩
def Qp:PE X (.Constant (.bool b) j pos) (tC (.bl b)):=λ_ _ _ H _ I h=>Constant_bool ⟨.bl b,H,I,rfl,h⟩
def ZS:PE X (.Constant .none j pos) (tC .non):=λ_ _ _ H _ I h=>Constant_none ⟨.non,H,I,rfl,h⟩
def xt:PE X (.Constant (.str x) j pos) (tC (.str x)):=λ_ _ _ H _ I h=>Calls.Constant_str ⟨.str x,H,I.tok _,⟨_,rfl⟩,h⟩
def Gl(X:Cx)(x:Str):Prop:=X.env.kindOf x=some .globalImplicit
def eB{E:qk}{qE:qr}{s:qZ}{σ:St}{H:Hp}{x:Str}{u:qY}{pos:Pos}{Q:qk}(I:Inv X qE σ H s)(hg:Gl X x)(hm:X.mg x=some u)(h:Q u s)
 (hd:(x==("__debug__" : Str))=false:=by decide):wpAny (model X.prog X.w) X.A (eval (.Name x pos) X.env) Q E s :=
 Calls.Name_function_global I.ok.kind hg (Calls.loadGlobal_global (by rw[I.ok.glob];exact I.mod.glob.keeps I.bk) hm h) hd
def Xe{E:qk}{qE:qr}{s:qZ}{σ:St}{H:Hp}{x:Str}{u:qY}{pos:Pos}{Q:qk}(I:Inv X qE σ H s)(hg:Gl X x)(hm:X.mg x=none)(hv:bootBuiltins x=some u)(h:Q u s)
 (hn:x ≠ "__name__" := by decide) (hd:(x==("__debug__" : Str))=false:=by decide):wpAny (model X.prog X.w) X.A (eval (.Name x pos) X.env) Q E s:=by
 obtain⟨mb,h1,h2⟩:=I.mod.blt;exact Calls.Name_function_global I.ok.kind hg (Calls.loadGlobal_builtin (by rw[I.ok.glob];exact I.mod.glob.keeps I.bk) hm (by rw[I.ok.blt];exact h1.keeps I.bk) ((h2 x hn).trans hv) h) hd
def Q4{x:Str}{v:V}{pos:Pos}(hg:Gl X x)(hm:X.mg x=none)(hv:bootBuiltins x=some u)(r:RelV v u)(hn:x ≠ "__name__" := by decide)(hd:(x==("__debug__" : Str))=false:=by decide):PE X (.Name x pos) (tC v) :=
 λ_ _ _ H _ I h=>Xe I hg hm hv ⟨v,H,I,r,h⟩ hn hd
variable {a b:Expr}{ta tb:TE}{pos:Pos}
def tB(t:TE):TT:=λσ H Q=>t σ H λx H1=>∃c,x=.bl c/\Q c H1
def JC(h:PE X e t)(he:∀whole,isTrue e X.env whole=(do let v <- whole;standAt e.pos;holding [v] (truthy v)):=by intro _;rfl):PT X e (tB t):=by
 intro qE s σ H Q I hw;refine isTrue_plain (thn (h qE s σ H _ I hw) λv s1 c9=>?_) (he _);obtain⟨x,H1,I1,r1,q1⟩:=c9;obtain⟨d,rfl,q⟩:=q1
 cases r1
 exact wpAny_truthy_bool ⟨H1,I1,q⟩
variable {tA tB':TT}{qO:List Expr}
def aQ(t u:TT):TT:=λσ H Q=>t σ H λc H1=>if c=true then u σ H1 Q else Q false H1
def tOr(t u:TT):TT:=λσ H Q=>t σ H λc H1=>if c=true then Q true H1 else u σ H1 Q
def nH(t:TT):TT:=λσ H Q=>t σ H λc H1=>Q (!c) H1
def Qq(ha:PT X a tA):PW X (.BoolOp .And [a] pos) tA:=by
 intro wh qE s σ H Q I h;refine isTrue_and (thn (ha qE s σ H Q I h) λc s1 e=>?_)
 cases c with
 |true=>exact isTrue_and_nil e
 |false=>exact e
def aR(ha:PT X a tA):PW X (.BoolOp .Or [a] pos) tA:=by
 intro wh qE s σ H Q I h;refine isTrue_or (thn (ha qE s σ H Q I h) λc s1 e=>?_)
 cases c with
 |false=>exact isTrue_or_nil e
 |true=>exact e
def JW(ha:PT X a tA)(hb:PW X (.BoolOp .And (b::qO) pos) tB'):PW X (.BoolOp .And (a::b::qO) pos) (aQ tA tB'):=by
 intro wh qE s σ H Q I h;refine isTrue_and (thn (ha qE s σ H _ I h) λc s1 ⟨H1,I1,q1⟩=>?_)
 cases c with
 |true=>exact hb wh qE s1 σ H1 Q I1 q1
 |false=>exact⟨H1,I1,q1⟩
def aS(ha:PT X a tA)(hb:PW X (.BoolOp .Or (b::qO) pos) tB'):PW X (.BoolOp .Or (a::b::qO) pos) (tOr tA tB'):=by
 intro wh qE s σ H Q I h;refine isTrue_or (thn (ha qE s σ H _ I h) λc s1 ⟨H1,I1,q1⟩=>?_)
 cases c with
 |true=>exact⟨H1,I1,q1⟩
 |false=>exact hb wh qE s1 σ H1 Q I1 q1
def ZT(ha:PT X a tA):PT X (.UnaryOp .Not a pos) (nH tA):=by
 intro qE s σ H Q I h;exact isTrue_not (ha qE s σ H (λc H1=>Q (!c) H1) I h)
def nI(ta tb:TE):TE:=λσ H Q=>ta σ H λx H1=>∃c,x=.bl c/\if c=true then tb σ H1 Q else Q (.bl false) H1
def nJ(ta:TE):TE:=λσ H Q=>ta σ H λx H1=>∃c,x=.bl c/\Q (.bl (!c)) H1
def aT(h:PE X a t):PE X (.BoolOp op [a] pos) t:=λqE s σ H Q I hw=>BoolOp_one (h qE s σ H Q I hw)
def ZU(ha:PE X a ta)(hb:PE X (.BoolOp .And (b::qO) pos) tb):PE X (.BoolOp .And (a::b::qO) pos) (nI ta tb):=by
 intro qE s σ H Q I h;refine BoolOp_and (thn (ha qE s σ H _ I h) λv s1 c9=>?_);obtain⟨x,H1,I1,r1,q1⟩:=c9;obtain⟨c,rfl,q1⟩:=q1
 cases r1
 refine wpAny_truthy_bool ?_
 cases c with
 |true=>exact hb qE s1 σ H1 Q I1 q1
 |false=>exact⟨.bl false,H1,I1,rfl,q1⟩
def nK(ha:PE X a ta):PE X (.UnaryOp .Not a pos) (nJ ta):=by
 intro qE s σ H Q I h;refine UnaryOp_ (thn (ha qE s σ H _ I h) λv s1 c9=>?_);obtain⟨x,H1,I1,r1,q1⟩:=c9;obtain⟨c,rfl,q1⟩:=q1
 cases r1
 exact not_of (wpAny_truthy_bool ⟨.bl (!c),H1,I1,rfl,q1⟩)
end
def SqL(K:qu)(H:Hp)(a:xb)(xs:List V):Prop :=
 Rd H a (.lst xs) \/
  ∃(o:Obj) (its:qz) (n:Nat),K.lookup a=some o/\o.cls=.type "list" /\ o.dict=none/\o.data=.seq its n/\its.size<=sizeLine/\Vals xs its.toList
def SqT(K:qu)(H:Hp)(a:xb)(xs:List V):Prop :=
 Rd H a (.tup xs) \/
  ∃(o:Obj) (its:qz) (n:Nat),K.lookup a=some o/\o.cls=.type "tuple" /\ o.data=.seq its n/\its.size<=sizeLine/\Vals xs its.toList
def nL:qY->Option V
 |.none=>some .non
 |.bool b=>some (.bl b)
 |.int i _=>some (.int i)
 |.str x _=>some (.str x)
 |.bytes b _=>some (.byt b)
 |.float b _=>some (.flt b)
 |.ref a=>some (.ref a)
 |.type n=>some (.ty n)
 |_=>none
def RelV.abs(r:RelV x u):nL u=some x:=by
 cases x with
 |non=>cases r;rfl
 |bl _=>cases r;rfl
 |int _=>obtain⟨t,rfl⟩:=r;rfl
 |str _=>obtain⟨t,rfl⟩:=r;rfl
 |byt _=>obtain⟨t,rfl⟩:=r;rfl
 |flt _=>obtain⟨t,rfl⟩:=r;rfl
 |ref _=>cases r;rfl
 |ty _=>cases r;rfl
theorem RelV.inj(r:RelV x u)(q:RelV y u):x=y:=Option.some.inj (r.abs.symm.trans q.abs)
theorem Vals.inj:∀{xs ys:List V}{us:qA},Vals xs us->Vals ys us->xs=ys
 |_,_,_,.nil,.nil=>rfl
 |_,_,_,.cons r t,.cons r' t'=>by rw[r.inj r',Vals.inj t t']
section
variable {X:Cx}{qE:qr}{σ:St}{H:Hp}{s:qZ}{a:xb}{xs ys:List V}
def SqL.of{K:qu}(h:H a=some (.lst xs)):SqL K H a xs := .inl (.inl h)
def SqT.of{K:qu}(h:H a=some (.tup xs)):SqT K H a xs := .inl (.inl h)
def Inv.list(I:Inv X qE σ H s)(h:SqL X.K H a xs):∃its:qA,Vals xs its/\PlainL s.heap a its.toArray/\xs.length<=sizeLine:=by
 rcases h with h|⟨o,its,n,hk,hc,hd,hs,hz,r⟩
 . obtain⟨z,its,n,r,e⟩:=h.ok I.hok;exact⟨its,r,⟨_,n,e,rfl,rfl,rfl⟩,z⟩
 . refine⟨its.toList,r,⟨o,n,I.kIn a o hk,hc,hd,by simpa using hs⟩,?_⟩;have e:=r.length;simp only[jW]at e;omega
def Inv.tuple(I:Inv X qE σ H s)(h:SqT X.K H a xs):∃its:qA,Vals xs its/\IsTup s.heap a its.toArray/\xs.length<=sizeLine:=by
 rcases h with h|⟨o,its,n,hk,hc,hs,hz,r⟩
 . obtain⟨z,its,r,p⟩:=h.ok I.hok;exact⟨its,r,p,z⟩
 . refine⟨its.toList,r,⟨o,I.kIn a o hk,hc,n,by simpa using hs⟩,?_⟩;have e:=r.length;simp only[jW]at e;omega
def Inv.list_inj(I:Inv X qE σ H s)(h:SqL X.K H a xs)(h':SqL X.K H a ys):xs=ys:=by
 obtain⟨its,r,⟨o,n,e,_,_,d⟩,_⟩:=I.list h;obtain⟨its',r',⟨o',n',e',_,_,d'⟩,_⟩:=I.list h';rw[e]at e';cases e';rw[d]at d';injection d' with d1 _
 have:its=its':=by simpa using kN Array.toList d1
 subst this;exact r.inj r'
def Inv.tuple_inj(I:Inv X qE σ H s)(h:SqT X.K H a xs)(h':SqT X.K H a ys):xs=ys:=by
 obtain⟨its,r,⟨o,e,_,n,d⟩,_⟩:=I.tuple h;obtain⟨its',r',⟨o',e',_,n',d'⟩,_⟩:=I.tuple h';rw[e]at e';cases e';rw[d]at d';injection d' with d1 _
 have:its=its':=by simpa using kN Array.toList d1
 subst this;exact r.inj r'
end
abbrev Cx.wish(X:Cx)(E:qk):Cx:={ X with xe:=E }
abbrev Cx.nox(X:Cx):Cx:=X.wish λ_ _=>False
theorem Cx.Ok.wish{X:Cx}(ok:X.Ok)(E:qk):(X.wish E).Ok :=
 ⟨ok.mod,ok.kind,ok.glob,ok.blt,ok.above,ok.inj,ok.has,ok.cab,ok.hd,ok.frames,ok.stk,ok.exf,ok.bs,ok.bsz,ok.noex,ok.exfs,ok.funs,ok.frf⟩
def Cx.Ok.unwish{X:Cx}{E:qk}(ok:(X.wish E).Ok):X.Ok :=
 ⟨ok.mod,ok.kind,ok.glob,ok.blt,ok.above,ok.inj,ok.has,ok.cab,ok.hd,ok.frames,ok.stk,ok.exf,ok.bs,ok.bsz,ok.noex,ok.exfs,ok.funs,ok.frf⟩
section
variable {X:Cx}{qE:qr}{σ:St}{H:Hp}{s:qZ}{E:qk}
theorem Inv.wish(I:Inv X qE σ H s)(E:qk):Inv (X.wish E) qE σ H s:=⟨I.ok.wish E,I.os,I.bare,I.base,I.loc,I.cell,I.free,I.freeC,I.pin,I.hok,I.len⟩
theorem Inv.unwish(I:Inv (X.wish E) qE σ H s):Inv X qE σ H s:=⟨I.ok.unwish,I.os,I.bare,I.base,I.loc,I.cell,I.free,I.freeC,I.pin,I.hok,I.len⟩
theorem SP.unwish(h:SP (X.wish E) qE D f s'):SP X qE D f s':=by
 cases f with
 |next=>obtain⟨qI,H',I,q⟩:=h;exact⟨qI,H',I.unwish,q⟩
 |brk=>obtain⟨qI,H',I,q⟩:=h;exact⟨qI,H',I.unwish,q⟩
 |cont=>obtain⟨qI,H',I,q⟩:=h;exact⟨qI,H',I.unwish,q⟩
 |ret u=>obtain⟨v,qI,H',I,r,q⟩:=h;exact⟨v,qI,H',I.unwish,r,q⟩
theorem PSs.nox{st:List Stmt}{t:TS}(h:PSs X.nox st t):PSs X st t:=λqE s σ H D I hw =>
 kx (h qE s σ H D (I.wish _) hw) (λ_ _ q=>q.unwish) λ_ _ z=>False.elim z
end
section
variable {X:Cx}{st:Stmt}{qO:List Stmt}{t u:TS}{e:Expr}{te:TE}{pos:Pos}
def aU:TS:=λD σ H=>D.nx σ H
def Qf(t u:TS):TS:=λD σ H=>t { D with nx:=u D } σ H
def xX:PSs X [] aU:=λ_ _ σ H _ I h=>wpAny_execs_nil ⟨σ,H,I,h⟩
def xu(h1:PS X st t)(h2:PSs X qO u):PSs X (st::qO) (Qf t u):=by
 intro qE s σ H D I h;refine wpAny_execs_cons (thn (h1 qE s σ H { D with nx:=u D } I h) λf s1 q=>?_)
 cases f with
 |next =>
  obtain⟨qI,H',I',q⟩:=q;exact h2 qE s1 qI H' D I' q
 |ret v=>exact q
 |brk=>exact q
 |cont=>exact q
def xw(h1:PS X st t):PSs X [st] t:=by
 intro qE s σ H D I h;refine wpAny_execs_cons (thn (h1 qE s σ H D I h) λf s1 q=>?_)
 cases f with
 |next=>exact wpAny_execs_nil q
 |ret v=>exact q
 |brk=>exact q
 |cont=>exact q
def Inv.quiet{qE:qr}{σ:St}{H:Hp}{s:qZ}(I:Inv X qE σ H s):interactive X.env=false:=by simp[interactive,I.ok.kind]
def nM(te:TE):TS:=λD σ H=>te σ H λ_ H1=>D.nx σ H1
def J1(he:PE X e te)(hs:swapsWith e none pos.line X.env=pure false:=by rfl):PS X (.Expr e pos) (nM te):=by
 intro qE s σ H D I h;exact wpAny_Expr_any (thn (he qE s σ H _ I h) λv s1 ⟨x,H1,I1,r1,q1⟩=>⟨σ,H1,I1,q1⟩) I.quiet hs
def aV(te:TE):TS:=λD σ H=>te σ H D.rt
def xP(he:PE X e te):PS X (.Return (some e) pos) (aV te):=by
 intro qE s σ H D I h;exact wpAny_Return_some (thn (he qE s σ H _ I h) λv s1 ⟨x,H1,I1,r1,q1⟩=>⟨x,σ,H1,I1,r1,q1⟩)
def nN:TS:=λD _ H=>D.rt .non H
def nO:PS X (.Return none pos) nN:=λ_ _ σ H _ I h=>wpAny_Return_none ⟨.non,σ,H,I,rfl,h⟩
def QR(c:TT)(t u:TS):TS:=λD σ H=>c σ H λb H1=>if b=true then t D σ H1 else u D σ H1
def xO(hc:PT X c tc)(ha:PSs X a t)(hb:PSs X b u):PS X (.If c a b pos) (QR tc t u):=by
 intro qE s σ H D I h;refine wpAny_If (thn (hc qE s σ H _ I h) λd s1 ⟨H1,I1,q1⟩=>?_)
 cases d with
 |true=>exact ha qE s1 σ H1 D I1 q1
 |false=>exact hb qE s1 σ H1 D I1 q1
end
abbrev TG:=V->St->Hp->(St->Hp->Prop)->Prop
abbrev TGs:=List V->St->Hp->(St->Hp->Prop)->Prop
def PG(X:Cx)(target:Expr)(t:TG):Prop :=
 ∀(qE:qr) (s:qZ) (σ:St) (H:Hp) (v:V) (u:qY) (Q:St->Hp->Prop),Inv X qE σ H s->RelV v u->t v σ H Q ->
  wpAny (model X.prog X.w) X.A (assign target X.env u) (λ_ s'=>∃qI H',Inv X qE qI H' s'/\Q qI H') X.xe s
def PGs(X:Cx)(ts:List Expr)(t:TGs):Prop :=
 ∀(qE:qr) (s:qZ) (σ:St) (H:Hp) (vs:List V) (us:qA) (Q:St->Hp->Prop),Inv X qE σ H s->Vals vs us->t vs σ H Q ->
  wpAny (model X.prog X.w) X.A (assignInOrder ((assignEach ts X.env).map (·.2)) us) (λ_ s'=>∃qI H',Inv X qE qI H' s'/\Q qI H') X.xe s
abbrev eE:=V->V->V->Hp->(Hp->Prop)->Prop
def eF(X:Cx)(t:eE):Prop :=
 ∀(qE:qr) (s:qZ) (σ:St) (H:Hp) (o i v:V) (ov iv u:qY) (Q:Hp->Prop),Inv X qE σ H s->RelV o ov->RelV i iv->RelV v u->t o i v H Q ->
  wpAny (model X.prog X.w) X.A (setItem ov iv u) (λ_ s'=>∃H',Inv X qE σ H' s'/\Q H') X.xe s
section
variable {X:Cx}{pos:Pos}
def xF(i:Nat):TG:=λv σ H Q=>Q (σ.set i (some v)) H
def Ju(hN:X.N.Nodup)(hi:X.N[i]?=some x)(hx:Loc X.env.scope x)(hf:X.fn x=true\/X.env.scope.names.lookup x=some .local:=by first|exact .inl rfl|exact .inr rfl|assumption):PG X (.Name x pos) (xF i):=by
 intro qE s σ H v u Q I r h;exact wpAny_assign_Name (eA I hN hi hx r (λs' I'=>⟨_,H,I',h⟩) hf)
def nQ:TGs:=λvs σ H Q=>vs=[]/\Q σ H
def nR(t:TG)(u:TGs):TGs:=λvs σ H Q=>∃v r,vs=v::r/\t v σ H λqI H'=>u r qI H' Q
def nU:PGs X [] nQ:=by
 intro qE s σ H vs us Q I r h;obtain⟨e,h⟩:=h;subst e
 cases r
 exact assignInOrder_nil ⟨σ,H,I,h⟩
def eG(h1:PG X e t)(h2:PGs X es u)
 (hs:(assignEach (e::es) X.env).map (·.2)=assign e X.env::(assignEach es X.env).map (·.2):=by rfl):PGs X (e::es) (nR t u):=by
 intro qE s σ H vs us Q I r h;obtain⟨v,vr,e1,h⟩:=h;subst e1
 cases r with
 |cons r rr =>
  rw[hs];refine assignInOrder_cons (thn (h1 qE s σ H _ _ _ I r h) λ_ s1 ⟨σ1,H1,I1,q1⟩=>?_);exact h2 qE s1 σ1 H1 _ _ Q I1 rr q1
def eI(K:qu)(n:Nat)(t:TGs):TG:=λv σ H Q=>∃a xs,v=.ref a/\SqT K H a xs/\xs.length=n/\t xs σ H Q
def nV{k:Nat}{n:Nat}(hc:X.calm=true)(h:PGs X es t)
 (hn:(assignEach es X.env).length=n:=by rfl) (hst:(assignEach es X.env).findIdx? (·.1)=none:=by rfl):PG X (.Tuple es k pos) (eI X.K n t):=by
 intro qE s σ H v u Q I r hw;obtain⟨a,xs,e1,hq,hl,hw⟩:=hw;subst e1
 cases r
 obtain⟨its,rv,ht,hz⟩:=I.tuple hq;refine assign_Tuple_tuple (I.ok.hd hc) ht (by simp[hn,<- hl,rv.length]) hst λh' hx=>?_;have I1:Inv X qE σ H { s with heap:=h' }:=I.kept (t':=s.toks) λb o e=>hx b o (jZ (jL e)) e;exact h qE _ σ H xs _ Q I1 (by simpa using rv) hw
def nW(to ti:TE)(t:eE):TG:=λv σ H Q=>to σ H λo H1=>ti σ H1 λi H2=>t o i v H2 λH3=>Q σ H3
def nX(ho:PE X o to)(hi:PE X i ti)(hs:eF X t)
 (ha:∀v,assign (.Subscript o i pos) X.env v=(do
  let ov <- holding [v] (eval o X.env)
  let iv <- holding [v,ov] (eval i X.env)
  standAt pos
  holding [v,ov,iv] (setItem ov iv v)
  release [v,ov,iv] []):=by intro _;rfl):PG X (.Subscript o i pos) (nW to ti t):=by
 intro qE s σ H v u Q I r h;rw[ha];refine k7 (kM (thn (ho qE s σ H _ I h) λov s1 c9=>?_));obtain⟨x,H1,I1,r1,q1⟩:=c9;refine k7 (kM (thn (hi qE s1 σ H1 _ I1 q1) λiv s2 c9=>?_));obtain⟨y,H2,I2,r2,q2⟩:=c9;refine k7 (wpAny_standAt (k7 (kM (thn (hs qE s2 σ H2 x y v ov iv u _ I2 r1 r2 r q2) λ_ s3 ⟨H3,I3,q3⟩=>?_))));exact wpAny_release ⟨σ,H3,I3,q3⟩
def Qr(te:TE)(g:TG):TS:=λD σ H=>te σ H λx H1=>g x σ H1 D.nx
def nY(he:PE X e te)(hg:PG X tg g)(hs:swapsWithSole [tg] e pos.line X.env=pure false:=by rfl)(hw:swappedStores [tg] e X.env=pure none:=by rfl)
 (h1:(assignEach [tg] X.env).map (·.2)=[assign tg X.env]:=by rfl):PS X (.Assign [tg] e pos) (Qr te g):=by
 intro qE s σ H D I h;refine wpAny_Assign_stores (thn (he qE s σ H _ I h) λv s1 c9=>?_) hs hw;obtain⟨x,H1,I1,r1,q1⟩:=c9;rw[h1];exact thn (hg qE s1 σ H1 x v _ I1 r1 q1) λ_ s2 q=>q
def xM(hN:X.N.Nodup)(hi:X.N[i]?=some x)(hx:Loc X.env.scope x)(he:PE X e te)(hs:swapsWith e (some (.Name x pos')) pos.line X.env=pure false:=by rfl)(hf:X.fn x=true\/X.env.scope.names.lookup x=some .local:=by first|exact .inl rfl|exact .inr rfl|assumption) :
 PS X (.Assign [.Name x pos'] e pos) (Qr te (xF i)):=by
 intro qE s σ H D I h;refine wpAny_Assign_Name (thn (he qE s σ H _ I h) λv s1 c9=>?_) hs;obtain⟨y,H1,I1,r1,q1⟩:=c9;exact eA I1 hN hi hx r1 (λs2 I2=>⟨_,H1,I2,q1⟩) hf
end
section
variable {X:Cx}{pos:Pos}
def eJ(c:TT)(tb:TS):TS:=λD σ H=>∃W:Nat->St->Hp->Prop,(∃m,W m σ H)/\∀m σ H,W m σ H ->
 c σ H λb H1=>if b=true then ∃N:St->Hp->Prop,(∀qI H',N qI H'->∃m',m'<m/\W m' qI H')/\tb { D with nx:=N,ct:=N,bk:=D.nx } σ H1 else D.nx σ H1
def eM(hp:PassesOwn (model X.prog X.w) X.A X.env X.xe)(hc:PT X c tc)(hb:PSs X body tb):PS X (.While c body [] pos) (eJ tc tb):=by
 intro qE s σ H D I h;obtain⟨W,⟨m0,w0⟩,turn⟩:=h;refine wpAny_While (codeAny_whileLoop (λn s'=>∃qI H',Inv X qE qI H' s'/\W n qI H') ?_ m0 ⟨σ,H,I,w0⟩);rintro n s1 ⟨σ1,H1,I1,w1⟩;refine kZ hp (thn (hc qE s1 σ1 H1 _ I1 (turn n σ1 H1 w1)) λb s2 ⟨H2,I2,q2⟩=>?_)
 cases b with
 |true =>
  obtain⟨N,hN,q2⟩:=q2;rw[ke rfl];refine kZ hp (thn (hb qE s2 σ1 H2 _ I2 q2) λf s3 q3=>?_)
  cases f with
  |next =>
   obtain⟨σ3,H3,I3,n3⟩:=q3;obtain⟨m',hm,w3⟩:=hN σ3 H3 n3;exact⟨m',hm,σ3,H3,I3,w3⟩
  |cont =>
   obtain⟨σ3,H3,I3,n3⟩:=q3;obtain⟨m',hm,w3⟩:=hN σ3 H3 n3;exact⟨m',hm,σ3,H3,I3,w3⟩
  |brk=>exact q3
  |ret v=>exact q3
 |false =>
  rw[k9 jQ];exact wpAny_execs_nil ⟨σ1,H2,I2,q2⟩
end
structure It where
 go:Nat->Hp->Prop
 yld:Nat->Hp->V->Hp->Prop
 stop:Nat->Hp->Prop
def FpOk(X:Cx)(qE:qr)(H:Hp)(b:xb):Prop :=
 H b=none/\b≠X.env.locals/\b∉X.fs/\(b∈X.ex\/X.s₀.heap.objs.size<=b)/\(∀x c,X.env.cells.lookup x=some c->c≠b)/\∀p∈X.pn++qE,p.1≠b
def Inv.fpOk{X:Cx}{qE:qr}{σ:St}{H H':Hp}{s:qZ}{b:xb}(I:Inv X qE σ H s)(hb:s.heap.objs.size<=b)(hn:H' b=none):FpOk X qE H' b:=by
 refine⟨hn,kI (jX I.lt hb),I.nofs hb,.inr (je I.sz hb),λx c e z=>?_,λp hp z=>?_⟩
 . obtain⟨v,q⟩:=I.cell x c e;exact absurd (jX q.lt (by rw[z];exact hb)) (js _)
 . exact absurd (jX (jL (I.pin p hp).1) (by rw[z];exact hb)) (js _)
structure Turn (P:xf) (w:xh) (K:qu) (tg:Expr) (J:It) (fp:List xb) (it:xb) (tn:Nat->Heap->Prop):Prop where
 mem:it∈fp
 obj:∀i h,tn i h->∀b∈fp,∃o,h.get? b=some o/\∀v,o.data ≠ .cell v
 keep:∀i h h',tn i h->(∀b∈fp,∀o,h.get? b=some o->h'.get? b=some o)->tn i h'
 item:∀(X:Cx),X.prog=P->X.w=w->X.K=K->X.calm=true->∀(i:Nat) (qE:qr) (s:qZ) (σ:St) (H:Hp) (E:qk),Inv X qE σ H s->(∀b∈fp,FpOk X qE H b)->tn i s.heap->J.go i H ->
  wpAny (model P w) X.A (pyNext (.ref it)) (λr s1=>∃u,r=some u /\
   wpAny (model P w) X.A (letOwnedTupleGo tg (.ref it) u) (λ_ s2=>∃x H',Inv X qE σ H' s2/\RelV x u/\J.yld i H x H'/\tn (i+1) s2.heap/\∀b∈fp,H' b=none) E s1) E s
 done:∀(X:Cx),X.prog=P->X.w=w->X.K=K->X.calm=true->∀(i:Nat) (qE:qr) (s:qZ) (σ:St) (H:Hp) (E:qk),Inv X qE σ H s->(∀b∈fp,FpOk X qE H b)->tn i s.heap->J.stop i H ->
  wpAny (model P w) X.A (pyNext (.ref it)) (λr s1=>r=none/\Inv X qE σ H s1) E s
 self:∀(A:Around) (i:Nat) (s:qZ) (Q:qk) (E:qk),tn i s.heap->Q (.ref it) s->wpAny (model P w) A (pyIter (.ref it)) Q E s
abbrev TI:=St->Hp->(It->Hp->Prop)->Prop
def PIE(X:Cx)(qE:qr)(σ:St)(tg:Expr)(R:It->Hp->Prop)(itv:qY)(s2:qZ):Prop :=
 ∃(it:xb) (fp:List xb) (tn:Nat->Heap->Prop) (J:It) (H':Hp),itv=.ref it/\Inv X qE σ H' s2/\Turn X.prog X.w X.K tg J fp it tn/\tn 0 s2.heap/\(∀b∈fp,FpOk X qE H' b)/\R J H'
def PI(X:Cx)(tg qN:Expr)(wi:TI):Prop :=
 ∀(qE:qr) (s:qZ) (σ:St) (H:Hp) (R:It->Hp->Prop),Inv X qE σ H s->wi σ H R ->
  wpAny (model X.prog X.w) X.A (eval qN X.env) (λv s1=>wpAny (model X.prog X.w) X.A (pyIter v) (PIE X qE σ tg R) X.xe s1) X.xe s
def Xv(ho:s.heap.get? it=some o)(hc:o.cls=.type n)(hd:o.data=.fields vs)
 (hn:["enumerate", "zip", "dict_itemiterator", "dict_reverseitemiterator", "odict_iterator", "itertools.zip_longest", "itertools.pairwise"].contains n=false) (hQ:Q () s):wpAny M A (letOwnedTupleGo tg (.ref it) u) Q E s:=by
 unfold letOwnedTupleGo
 cases tg<;>first
  |exact k8 hQ
  |(cases u<;>first
   |exact k8 hQ
   | (refine k7 (wpAny_load ho ?_)
      rw[hc,hd];show wpAny M A (if (["enumerate", "zip", "dict_itemiterator", "dict_reverseitemiterator", "odict_iterator", "itertools.zip_longest", "itertools.pairwise"].contains n&&vs[0]?==some (rawInt _))=true then _ else _) Q E s;rw[k9 (by intro h;rw[hn,Bool.false_and]at h;cases h)];exact k8 hQ))
def Itl(K:qu)(a:xb):It :=
 ⟨λi H=>∃xs x,SqL K H a xs/\xs[i]?=some x,λi H x H'=>H'=H/\∀xs,SqL K H a xs->xs[i]?=some x,λi H=>∃xs,SqL K H a xs/\xs.length<=i⟩
def Itt(K:qu)(a:xb):It :=
 ⟨λi H=>∃xs x,SqT K H a xs/\xs[i]?=some x,λi H x H'=>H'=H/\∀xs,SqT K H a xs->xs[i]?=some x,λi H=>∃xs,SqT K H a xs/\xs.length<=i⟩
def Itr(lo:Int)(n:Nat):It:=⟨λi _=>i<n,λi H x H'=>H'=H/\x=.int (lo+i),λi _=>n<=i⟩
theorem nZ{P:xf}{w:xh}{K:qu}{tg:Expr}(a it:xb):Turn P w K tg (Itl K a) [it] it (λi h=>h.IsListIter it a i) where
 mem:=by simp
 obj:=λi h st b hb=>by
  have e:b=it:=by simpa using hb
  subst e;obtain⟨o,e,c,d⟩:=st;exact⟨o,e,λv z=>by rw[d]at z;cases z⟩
 keep:=λi h h' st k=>st.at λo e=>k it 'j' o e
 item:=by
  intro X hP hw hK hc i qE s σ H E I hf st hg;subst hP hw hK;obtain⟨xs,x,hq,hx⟩:=hg;obtain⟨its,rv,p,hz⟩:=I.list hq;obtain⟨u,hu,ru⟩:=rv.get hx;obtain⟨f0,f1,f2,f3,f4,f5⟩:=hf it 'j';refine wpAny_pyNext_list_item st p.isList (x:=u) (by simpa using hu) λh' st' sb=>?_;have I1:Inv X qE σ H { s with heap:=h' }:=I.turned (t':=s.toks) (λb o hb e=>(sb.2 b hb).trans e) f0 f1 f3 f4 f5;obtain⟨o,e,c,d⟩:=id st';exact⟨u,rfl,Xv (s:={ s with heap:=h' }) e c d 'f' ⟨x,H,I1,ru,⟨rfl,λys hy=>by rw[I.list_inj hy hq];exact hx⟩,st',λb hb=>(hf b hb).1⟩⟩
 done:=by
  intro X hP hw hK hc i qE s σ H E I hf st hg;subst hP hw hK;obtain⟨xs,hq,hx⟩:=hg;obtain⟨its,rv,p,hz⟩:=I.list hq;obtain⟨f0,f1,f2,f3,f4,f5⟩:=hf it 'j';have hl:=rv.length;exact wpAny_pyNext_list_end (I.ok.hd hc) st p.isList (by simp;omega) λh' eb=>⟨rfl,I.turned (t':=s.toks) (λb o hb e=>eb b o hb e) f0 f1 f3 f4 f5⟩
 self:=λ_ _ _ _ _ st h=>wpAny_pyIter_listiter st h
theorem o9{P:xf}{w:xh}{K:qu}{tg:Expr}(a it:xb):Turn P w K tg (Itt K a) [it] it (λi h=>h.IsTupleIter it a i) where
 mem:=by simp
 obj:=λi h st b hb=>by
  have e:b=it:=by simpa using hb
  subst e;obtain⟨o,e,c,d⟩:=st;exact⟨o,e,λv z=>by rw[d]at z;cases z⟩
 keep:=λi h h' st k=>st.at λo e=>k it 'j' o e
 item:=by
  intro X hP hw hK hc i qE s σ H E I hf st hg;subst hP hw hK;obtain⟨xs,x,hq,hx⟩:=hg;obtain⟨its,rv,p,hz⟩:=I.tuple hq;obtain⟨u,hu,ru⟩:=rv.get hx;obtain⟨f0,f1,f2,f3,f4,f5⟩:=hf it 'j';refine wpAny_pyNext_tuple_item st (show s.heap.IsTuple a its.toArray from p) (x:=u) (by simpa using hu) λh' st' sb=>?_;have I1:Inv X qE σ H { s with heap:=h' }:=I.turned (t':=s.toks) (λb o hb e=>(sb.2 b hb).trans e) f0 f1 f3 f4 f5;obtain⟨o,e,c,d⟩:=id st';exact⟨u,rfl,Xv (s:={ s with heap:=h' }) e c d 'f' ⟨x,H,I1,ru,⟨rfl,λys hy=>by rw[I.tuple_inj hy hq];exact hx⟩,st',λb hb=>(hf b hb).1⟩⟩
 done:=by
  intro X hP hw hK hc i qE s σ H E I hf st hg;subst hP hw hK;obtain⟨xs,hq,hx⟩:=hg;obtain⟨its,rv,p,hz⟩:=I.tuple hq;obtain⟨f0,f1,f2,f3,f4,f5⟩:=hf it 'j';have hl:=rv.length;exact wpAny_pyNext_tuple_end (I.ok.hd hc) st (show s.heap.IsTuple a its.toArray from p) (by simp;omega) λh' eb=>⟨rfl,I.turned (t':=s.toks) (λb o hb e=>eb b o hb e) f0 f1 f3 f4 f5⟩
 self:=λ_ _ _ _ _ st h=>wpAny_pyIter_tupleiter st h
theorem og{P:xf}{w:xh}{K:qu}{tg:Expr}(it:xb)(lo:Int)(n:Nat):Turn P w K tg (Itr lo n) [it] it (λi h=>IsRangeIter h it (lo+(i:Nat)*1) ((n:Int) - (i:Nat)) 1) where
 mem:=by simp
 obj:=λi h st b hb=>by
  have e:b=it:=by simpa using hb
  subst e
  exact⟨_,st,λv z=>by
   have z':Data.fields _=Data.cell v:=z
   cases z'⟩
 keep:=λi h h' st k=>k it 'j' _ st
 item:=by
  intro X hP hw hK hc i qE s σ H E I hf st hg;subst hP hw hK;obtain⟨f0,f1,f2,f3,f4,f5⟩:=hf it 'j';have W:=Walks.range (prog:=X.prog) (w:=X.w) (I.ok.hd hc) it lo 1 n;refine W.item i s _ _ hg st λv h' tk hv st' kk=>?_;obtain⟨t,rfl⟩:=hv;have I1:Inv X qE σ H { s with heap:=h',toks:=tk }:=I.turned (λb o hb e=>kk b o (by simpa using hb) e) f0 f1 f3 f4 f5;refine⟨_,rfl,Xv (s:={ s with heap:=h',toks:=tk }) (n := "range_iterator") st' rfl rfl 'f' ⟨.int (lo+i),H,I1,⟨t,?_⟩,⟨rfl,rfl⟩,st',λb hb=>(hf b hb).1⟩⟩;rw[Int.mul_one]
 done:=by
  intro X hP hw hK hc i qE s σ H E I hf st hg;subst hP hw hK;obtain⟨f0,f1,f2,f3,f4,f5⟩:=hf it 'j';exact wpAny_pyNext_range_end (I.ok.hd hc) st (by have:n<=i:=hg;omega) λh' eb=>⟨rfl,I.turned (t':=s.toks) (λb o hb e=>eb b o hb e) f0 f1 f3 f4 f5⟩
 self:=λ_ _ _ _ _ st h=>wpAny_pyIter_rangeiter st h
section
variable {X:Cx}{tg:Expr}
def eN(K:qu)(tl:TE):TI:=λσ H R=>tl σ H λx H1=>∃a,x=.ref a/\(∃xs,SqL K H1 a xs)/\R (Itl K a) H1
def oh(K:qu)(tl:TE):TI:=λσ H R=>tl σ H λx H1=>∃a,x=.ref a/\(∃xs,SqT K H1 a xs)/\R (Itt K a) H1
def JK(hl:PE X l tl):PI X tg l (eN X.K tl):=by
 intro qE s σ H R I h;refine thn (hl qE s σ H _ I h) λv s1 c9=>?_;obtain⟨x,H1,I1,r1,q1⟩:=c9;obtain⟨a,e,⟨xs,hq⟩,q⟩:=q1;subst e
 cases r1
 obtain⟨its,rv,p,hz⟩:=I1.list hq;refine wpAny_pyIter_list p.isList ?_;refine⟨s1.heap.objs.size,[s1.heap.objs.size],_,_,H1,rfl,I1.kept (t':=s1.toks) λb o e=>jF _ e,nZ a _,⟨_,jO _ rfl,rfl,rfl⟩,λb hb=>?_,q⟩;have e:b=s1.heap.objs.size:=by simpa using hb
 subst e;exact I1.fpOk (jG _) (I1.hok.fresh (jG _))
def aW(hl:PE X l tl):PI X tg l (oh X.K tl):=by
 intro qE s σ H R I h;refine thn (hl qE s σ H _ I h) λv s1 c9=>?_;obtain⟨x,H1,I1,r1,q1⟩:=c9;obtain⟨a,e,⟨xs,hq⟩,q⟩:=q1;subst e
 cases r1
 obtain⟨its,rv,p,hz⟩:=I1.tuple hq;refine wpAny_pyIter_tuple (show s1.heap.IsTuple a its.toArray from p) ?_;refine⟨s1.heap.objs.size,[s1.heap.objs.size],_,_,H1,rfl,I1.kept (t':=s1.toks) λb o e=>jF _ e,o9 a _,⟨_,jO _ rfl,rfl,rfl⟩,λb hb=>?_,q⟩;have e:b=s1.heap.objs.size:=by simpa using hb
 subst e;exact I1.fpOk (jG _) (I1.hok.fresh (jG _))
def oi{qE:qr}{σ:St}{H:Hp}{s:qZ}{R:It->Hp->Prop}{E:qk}{lo hi:Int}{t u v:Tok}{tk:Nat}(I:Inv X qE σ H s)(h1 : -(2 ^ 62)<=lo)(h2:lo<2 ^ 62)(h3 : -(2 ^ 62)<=hi)(h4:hi<2 ^ 62)
 (q:R (Itr lo (hi - lo).toNat) H):wpAny (model X.prog X.w) X.A (pyIter (.ref s.heap.objs.size)) (PIE X qE σ tg R) E { s with heap:=s.heap.push { cls := .type "range",data := .fields #[.int lo t,.int hi u,.int 1 v] },toks:=tk }:=by
 refine wpAny_pyIter_range (IsRange.new ..) (small_one h1 h2 h3 h4) ?_;have I1:Inv X qE σ H { s with heap:=s.heap.push { cls := .type "range",data := .fields #[.int lo t,.int hi u,.int 1 v] },toks:=tk }:=I.kept λb o e=>jF _ e
 refine⟨(s.heap.push { cls := .type "range",data := .fields #[.int lo t,.int hi u,.int 1 v] }).objs.size,[(s.heap.push { cls := .type "range",data := .fields #[.int lo t,.int hi u,.int 1 v] }).objs.size],_,_,H,rfl,
  I1.kept (t':=tk) λb o e=>jF _ e,og _ lo (hi - lo).toNat,?_,λb hb=>?_,q⟩
 . have e1:lo + ((0:Nat):Int) * 1=lo:=by simp
   have e2:(((hi - lo).toNat:Nat):Int) - ((0:Nat):Int)=Builtin.Range.rangeSize lo hi 1:=by rw[rangeSize_one];split<;>omega
   show IsRangeIter _ _ (lo+((0:Nat):Int)*1) ((((hi - lo).toNat:Nat):Int) - ((0:Nat):Int)) 1;rw[e1,e2];exact jO _ rfl
 . have e:b=(s.heap.push { cls := .type "range",data := .fields #[.int lo t,.int hi u,.int 1 v] }).objs.size:=by simpa using hb
   subst e;exact I1.fpOk (jG _) (I1.hok.fresh (jG _))
def oj(ta:TA):TI:=λσ H R=>ta σ H λvs H1=>∃j:Int,vs=[.int j] /\ -(2 ^ 62)<=j/\j<2 ^ 62/\R (Itr 0 j.toNat) H1
def Q5(hg:Gl X "range")(hm:X.mg "range" = none)(ha:PA X [a] ta)(hs:starEach [a] X.env=[(false,eval a X.env)]:=by rfl):PI X tg (.Call (.Name "range" p) [a] [] pos) (oj ta):=by
 intro qE s σ H R I h;refine Call_ (Xe I hg hm boot_range (PyProof.Rows.callWith_type1 (thn (ha pos qE s σ H _ I h) λus s1 c9=>?_) hs rfl));obtain⟨vs,H1,I1,r1,q1⟩:=c9;obtain⟨j,e,q1,q2,q⟩:=q1;subst e
 cases r1 with
 |cons r rr =>
  cases rr
  obtain⟨t,rfl⟩:=r;exact call_range_1 (oi I1 'd' 'd' q1 q2 (by simpa using q))
def Z6(wi:TI)(g:TG)(tb:TS):TS:=λD σ H=>wi σ H λJ H1=>∃W:Nat->Nat->St->Hp->Prop,(∃m,W 0 m σ H1)/\∀i m σ H,W i m σ H ->
 (J.stop i H/\D.nx σ H)\/(J.go i H/\∃N:St->Hp->Prop,(∀qI H',N qI H'->∃m',m'<m/\W (i+1) m' qI H')/\∀x H',J.yld i H x H'->g x σ H' λσ2 H2=>tb { D with nx:=N,ct:=N,bk:=D.nx } σ2 H2)
def Z7(fp:List xb)(h:Heap):qr:=fp.filterMap λb=>(h.get? b).map λo=>(b,o)
def ZV(hb:b∈fp)(e:h.get? b=some o):(b,o)∈Z7 fp h:=List.mem_filterMap.mpr ⟨b,hb,by rw[e];rfl⟩
def om(hp:p∈Z7 fp h):p.1∈fp/\h.get? p.1=some p.2:=by
 obtain⟨b,hb,e⟩:=List.mem_filterMap.mp hp
 cases q:h.get? b with
 |none=>rw[q]at e;cases e
 |some o =>
  rw[q]at e;have e':(b,o)=p:=Option.some.inj e;subst e';exact⟨hb,q⟩
def Inv.pinned{qE:qr}{σ:St}{H:Hp}{s:qZ}{fp:List xb}(I:Inv X qE σ H s)(hf:∀b∈fp,FpOk X qE H b)(ho:∀b∈fp,∃o,s.heap.get? b=some o/\∀v,o.data ≠ .cell v):Inv X (qE++Z7 fp s.heap) σ H s :=
 I.pins_of λp hp=>(jI.mp hp).elim (λz=>I.pin p (jM _ z)) λz=>by
  obtain⟨hb,e⟩:=om z;obtain⟨f0,f1,f2,_⟩:=hf p.1 hb;obtain⟨o,e',d⟩:=ho p.1 hb;rw[e]at e';cases e';exact⟨e,f0,f1,f2,d⟩
def Inv.unpinned{qE pl:qr}{σ:St}{H:Hp}{s:qZ}(I:Inv X (qE++pl) σ H s):Inv X qE σ H s:=I.pins_of λp hp=>I.pin p (jM _ (ji _ hp))
def Q6(hp:PassesOwn (model X.prog X.w) X.A X.env X.xe)(hc:X.calm=true)(hi:PI X tg qN wi)(hg:PG X tg g)(hb:PSs X body tb)
 (hs:∀x,foldedSetIterable qN X.env x=pure x:=by intro _;rfl):PS X (.For tg qN body [] pos) (Z6 wi g tb):=by
 intro qE s σ H D I h;refine wpAny_For (thn (hi qE s σ H _ I h) λv s1 h1=>thn h1 λitv s2 h2=>?_) hs;obtain⟨it,fp,tn,J,H2,e,I2,T,st2,f2,W,⟨m0,w0⟩,turn⟩:=h2;subst e
 -- what stays true of the iterator's objects through the loop
 have stat:∀{H':Hp},(∀b∈fp,H' b=none)->∀b∈fp,FpOk X qE H' b:=λhn b hb=>⟨hn b hb,(f2 b hb).2⟩;refine codeAny_forLoop_any (λn s'=>∃i qI H',Inv X qE qI H' s'/\tn i s'.heap/\(∀b∈fp,H' b=none)/\W i n qI H') ?_ m0 ⟨0,σ,H2,I2,st2,λb hb=>(f2 b hb).1,w0⟩;rintro n s3 ⟨i,σ3,H3,I3,st3,fr3,w3⟩;rcases turn i n σ3 H3 w3 with ⟨stop,qn⟩|⟨go,N,hN,step⟩
 . refine kZ hp (thn (T.done X rfl rfl rfl hc i qE s3 σ3 H3 X.xe I3 (stat fr3) st3 stop) λr s4 ⟨hr,I4⟩=>?_);subst hr;exact wpAny_execs_nil ⟨σ3,H3,I4,qn⟩
 . refine kZ hp (thn (T.item X rfl rfl rfl hc i qE s3 σ3 H3 X.xe I3 (stat fr3) st3 go) λr s4 ⟨u,hr,h4⟩=>?_);subst hr;refine kZ hp (thn h4 λ_ s5 c9=>?_);obtain⟨x,H5,I5,r5,y5,st5,fr5⟩:=c9;have I5':=I5.pinned (stat fr5) (T.obj _ _ st5);refine kZ hp (thn (hg _ s5 σ3 H5 x u _ I5' r5 (step x H5 y5)) λ_ s6 ⟨σ6,H6,I6,q6⟩=>?_);refine kZ hp (thn (hb _ s6 σ6 H6 _ I6 q6) λf s7 q7=>?_)
   have again:∀{σ7:St}{H7:Hp},Inv X (qE++Z7 fp s5.heap) σ7 H7 s7->N σ7 H7->∃m,m<n/\∃i qI H',Inv X qE qI H' s7/\tn i s7.heap/\(∀b∈fp,H' b=none)/\W i m qI H':=fun {σ7 H7} I7 n7=>by
    obtain⟨m',hm,w7⟩:=hN σ7 H7 n7;refine⟨m',hm,i+1,σ7,H7,I7.unpinned,T.keep _ _ _ st5 λb hb o e=>(I7.pin (b,o) (jM _ (jM _ (ZV hb e)))).1,λb hb=>?_,w7⟩;obtain⟨o,e,d⟩:=T.obj _ _ st5 b hb;exact(I7.pin (b,o) (jM _ (jM _ (ZV hb e)))).2.1
   cases f with
   |next=>obtain⟨σ7,H7,I7,n7⟩:=q7;exact again I7 n7
   |cont=>obtain⟨σ7,H7,I7,n7⟩:=q7;exact again I7 n7
   |brk=>obtain⟨σ7,H7,I7,q7⟩:=q7;exact⟨σ7,H7,I7.unpinned,q7⟩
   |ret v=>obtain⟨x7,σ7,H7,I7,r7,q7⟩:=q7;exact⟨x7,σ7,H7,I7.unpinned,r7,q7⟩
end
def Xf{K:qu}{a:xb}{xs:List V}{g:TG}{tb:TS}{D:Ends}{σ:St}{H:Hp}(Pv:Nat->St->Hp->Prop)(h0:Pv 0 σ H)(hl:∀i σ H,i<=xs.length->Pv i σ H->SqL K H a xs)
 (hs:∀i x σ H,xs[i]?=some x->Pv i σ H->g x σ H λσ2 H2=>tb { D with nx:=Pv (i+1),ct:=Pv (i+1),bk:=D.nx } σ2 H2) (hd:∀σ H,Pv xs.length σ H->D.nx σ H) :
 ∃W:Nat->Nat->St->Hp->Prop,(∃m,W 0 m σ H)/\∀i m σ H,W i m σ H ->
  ((Itl K a).stop i H/\D.nx σ H)\/((Itl K a).go i H/\∃N:St->Hp->Prop,(∀qI H',N qI H'->∃m',m'<m/\W (i+1) m' qI H')/\∀x H',(Itl K a).yld i H x H'->g x σ H' λσ2 H2=>tb { D with nx:=N,ct:=N,bk:=D.nx } σ2 H2):=by
 refine⟨λi m σ H=>m=xs.length - i/\i<=xs.length/\Pv i σ H,⟨xs.length,by simp,jS _,h0⟩,?_⟩;rintro i m σ H ⟨rfl,hi,p⟩;have q:=hl i σ H hi p
 by_cases qS:i<xs.length
 . refine .inr ⟨⟨xs,xs[i],q,by simp[qS]⟩,Pv (i+1),λqI H' p'=>⟨xs.length - (i+1),by omega,rfl,qS,p'⟩,λx H' y=>?_⟩;obtain⟨e,y⟩:=y;subst e;exact hs i x σ _ (y xs q) p
 . have e:i=xs.length:=by omega
   subst e;exact .inl ⟨⟨xs,q,jG _⟩,hd σ H p⟩
def QS{lo:Int}{n:Nat}{g:TG}{tb:TS}{D:Ends}(Pv:Nat->St->Hp->Prop)(h0:Pv 0 σ H)
 (hs:∀i σ H,i<n->Pv i σ H->g (.int (lo+i)) σ H λσ2 H2=>tb { D with nx:=Pv (i+1),ct:=Pv (i+1),bk:=D.nx } σ2 H2) (hd:∀σ H,Pv n σ H->D.nx σ H) :
 ∃W:Nat->Nat->St->Hp->Prop,(∃m,W 0 m σ H)/\∀i m σ H,W i m σ H ->
  ((Itr lo n).stop i H/\D.nx σ H)\/((Itr lo n).go i H/\∃N:St->Hp->Prop,(∀qI H',N qI H'->∃m',m'<m/\W (i+1) m' qI H')/\∀x H',(Itr lo n).yld i H x H'->g x σ H' λσ2 H2=>tb { D with nx:=N,ct:=N,bk:=D.nx } σ2 H2):=by
 refine⟨λi m σ H=>m=n - i/\i<=n/\Pv i σ H,⟨n,by simp,jS _,h0⟩,?_⟩;rintro i m σ H ⟨rfl,hi,p⟩
 by_cases qS:i<n
 . refine .inr ⟨qS,Pv (i+1),λqI H' p'=>⟨n - (i+1),by omega,rfl,qS,p'⟩,λx H' y=>?_⟩;obtain⟨e,y⟩:=y;subst e y;exact hs i σ _ qS p
 . have e:i=n:=by omega
   subst e;exact .inl ⟨jG _,hd σ H p⟩
def eO(Pv:St->Hp->Prop)(μ:St->Hp->Nat)(h0:Pv σ H)
 (hs:∀σ H,Pv σ H->c σ H λb H1=>if b=true then tb { D with nx:=λqI H'=>Pv qI H'/\μ qI H'<μ σ H,ct:=λqI H'=>Pv qI H'/\μ qI H'<μ σ H,bk:=D.nx } σ H1 else D.nx σ H1)
 (mono:∀σ H Q Q',(∀b H1,Q b H1->Q' b H1)->c σ H Q->c σ H Q'):eJ c tb D σ H:=by
 refine⟨λm σ H=>m=μ σ H/\Pv σ H,⟨_,rfl,h0⟩,?_⟩;rintro m σ H ⟨rfl,p⟩;refine mono σ H _ _ (λb H1 q=>?_) (hs σ H p)
 cases b with
 |true=>exact⟨_,λqI H' ⟨p',l⟩=>⟨_,l,rfl,p'⟩,q⟩
 |false=>exact q
abbrev R2:=V->V->Hp->VK->Prop
def OpR(X:Cx)(f:qY->qY->Sem qY)(r:R2):Prop :=
 ∀(qE:qr) (s:qZ) (σ:St) (H:Hp) (x y:V) (v u:qY) (Q:VK),Inv X qE σ H s->RelV x v->RelV y u->r x y H Q ->
  wpAny (model X.prog X.w) X.A (f v u) (EP X qE σ Q) X.xe s
def UnR(X:Cx)(f:qY->Sem qY)(r:V->Hp->VK->Prop):Prop :=
 ∀(qE:qr) (s:qZ) (σ:St) (H:Hp) (x:V) (v:qY) (Q:VK),Inv X qE σ H s->RelV x v->r x H Q ->
  wpAny (model X.prog X.w) X.A (f v) (EP X qE σ Q) X.xe s
def Jv(X:Cx)(f:qY)(r:List V->Hp->VK->Prop):Prop :=
 ∀(qE:qr) (s:qZ) (σ:St) (H:Hp) (xs:List V) (us:qA) (Q:VK),Inv X qE σ H s->Vals xs us->r xs H Q ->
  wpAny (model X.prog X.w) X.A (call f us) (EP X qE σ Q) X.xe s
def tOp(r:R2)(ta tb:TE):TE:=λσ H Q=>ta σ H λx H1=>tb σ H1 λy H2=>r x y H2 Q
def tUn(r:V->Hp->VK->Prop)(ta:TE):TE:=λσ H Q=>ta σ H λx H1=>r x H1 Q
def rI(C:Int->Int->Prop)(g:Int->Int->V):R2:=λx y H Q=>∃i j,x=.int i/\y=.int j/\C i j/\Q (g i j) H
def rI0(g:Int->Int->V):R2:=λx y H Q=>∃i j,x=.int i/\y=.int j/\Q (g i j) H
def rU(g:Int->V):V->Hp->VK->Prop:=λx H Q=>∃i,x=.int i/\Q (g i) H
section
variable {X:Cx}{a b c:Expr}{ta tb tc:TE}{pos:Pos}
def aX(ha:PE X a ta)(hb:PE X b tb){qE:qr}{s:qZ}{σ:St}{H:Hp}{R:V->V->Hp->Prop}(I:Inv X qE σ H s)
 (h:ta σ H λx H1=>tb σ H1 λy H2=>R x y H2) {Q:qk}{f:qY->qY->Sem qY}
 (hf:∀v u s2 x y H2,Inv X qE σ H2 s2->RelV x v->RelV y u->R x y H2->wpAny (model X.prog X.w) X.A (f v u) Q X.xe s2) :
 wpAny (model X.prog X.w) X.A (eval a X.env) (λv s₁=>wpAny (model X.prog X.w) X.A (eval b X.env) (λu s₂=>wpAny (model X.prog X.w) X.A (f v u) Q X.xe s₂) X.xe s₁) X.xe s:=by
 refine thn (ha qE s σ H _ I h) λv s1 c9=>?_;obtain⟨x,H1,I1,r1,q1⟩:=c9;refine thn (hb qE s1 σ H1 _ I1 q1) λu s2 c9=>?_;obtain⟨y,H2,I2,r2,q2⟩:=c9;exact hf v u s2 x y H2 I2 r1 r2 q2
def xx(ho:OpR X (binaryOp op) r)(ha:PE X a ta)(hb:PE X b tb):PE X (.BinOp a op b pos) (tOp r ta tb):=by
 intro qE s σ H Q I h;exact wpAny_BinOp (aX ha hb I h λv u s2 x y H2 I2 rx ry q=>ho qE s2 σ H2 x y v u Q I2 rx ry q)
def Xw(ho:UnR X (unaryOp op) r)(ha:PE X a ta):PE X (.UnaryOp op a pos) (tUn r ta):=by
 intro qE s σ H Q I h;exact UnaryOp_ (thn (ha qE s σ H _ I h) λv s1 ⟨x,H1,I1,r1,q1⟩=>ho qE s1 σ H1 x v Q I1 r1 q1)
def opI{f:qY->qY->Sem qY}{C:Int->Int->Prop}{g:Int->Int->Int}
 (rule:∀(i j:Int) (t u:Tok) (s:qZ) (Q:qk) (E:qk),C i j->Q (.int (g i j) s.toks) { s with toks:=s.toks+1 }->wpAny (model X.prog X.w) X.A (f (.int i t) (.int j u)) Q E s) :
 OpR X f (rI C λi j => .int (g i j)):=by
 intro qE s σ H x y v u Q I rx ry h;obtain⟨i,j,rfl,rfl,hc,q⟩:=h;obtain⟨t,rfl⟩:=rx;obtain⟨t',rfl⟩:=ry;exact rule i j t t' s _ _ hc ⟨.int (g i j),H,I.tok _,⟨_,rfl⟩,q⟩
def eQ{f:qY->qY->Sem qY}{g:Int->Int->Int}
 (rule:∀(i j:Int) (t u:Tok) (s:qZ) (Q:qk) (E:qk),Q (.int (g i j) s.toks) { s with toks:=s.toks+1 }->wpAny (model X.prog X.w) X.A (f (.int i t) (.int j u)) Q E s) :
 OpR X f (rI0 λi j => .int (g i j)):=by
 intro qE s σ H x y v u Q I rx ry h;obtain⟨i,j,rfl,rfl,q⟩:=h;obtain⟨t,rfl⟩:=rx;obtain⟨t',rfl⟩:=ry;exact rule i j t t' s _ _ ⟨.int (g i j),H,I.tok _,⟨_,rfl⟩,q⟩
def ZW{f:qY->qY->Sem qY}{g:Int->Int->Bool}
 (rule:∀(i j:Int) (t u:Tok) (s:qZ) (Q:qk) (E:qk),Q (.bool (g i j)) s->wpAny (model X.prog X.w) X.A (f (.int i t) (.int j u)) Q E s) :
 OpR X f (rI0 λi j => .bl (g i j)):=by
 intro qE s σ H x y v u Q I rx ry h;obtain⟨i,j,rfl,rfl,q⟩:=h;obtain⟨t,rfl⟩:=rx;obtain⟨t',rfl⟩:=ry;exact rule i j t t' s _ _ ⟨.bl (g i j),H,I,rfl,q⟩
def on(i j:Int):Prop:=0<=j/\j<=1000000/\i.natAbs<2 ^ 64
def J7:OpR X (binaryOp .Add) (rI0 λi j => .int (i+j)):=eQ λ_ _ _ _ _ _ _ q=>add_int q
def ZX:OpR X (binaryOp .Sub) (rI0 λi j => .int (i - j)):=eQ λ_ _ _ _ _ _ _ q=>sub_int q
def xV:OpR X (binaryOp .Mod) (rI (λ_ j=>0<j) λi j => .int (i % j)):=opI λi j _ _ _ _ _ hc q=>by
 have h1:(0:Int)<j:=hc;exact mod_int' 'd' (by rw[Int.fmod_eq_emod_of_nonneg i 'd'];exact q)
def ZY:OpR X (binaryOp .Pow) (rI on λi j => .int (i ^ j.toNat)):=opI λ_ _ _ _ _ _ _ hc q=>pow_int_small hc.1 hc.2.1 hc.2.2 q
def unI{f:qY->Sem qY}{g:Int->Int}
 (rule:∀(i:Int) (t:Tok) (s:qZ) (Q:qk) (E:qk),Q (.int (g i) s.toks) { s with toks:=s.toks+1 }->wpAny (model X.prog X.w) X.A (f (.int i t)) Q E s) :
 UnR X f (rU λi => .int (g i)):=by
 intro qE s σ H x v Q I rx h;obtain⟨i,rfl,q⟩:=h;obtain⟨t,rfl⟩:=rx;exact rule i t s _ _ ⟨.int (g i),H,I.tok _,⟨_,rfl⟩,q⟩
def Xx:UnR X (unaryOp .USub) (rU λi => .int (-i)):=unI λ_ _ _ _ _ q=>neg_int q
end
def eR:V->V->Bool
 |.non,.non=>true | .non,.int _=>true | .int _,.non=>true | .non,.bl _=>true | .bl _,.non=>true | .non,.str _=>true | .str _,.non=>true
 |.int _,.int _=>true | .bl _,.bl _=>true | .str _,.str _=>true | .byt _,.byt _=>true
 |.int _,.str _=>true | .str _,.int _=>true | .bl _,.str _=>true | .str _,.bl _=>true
 |_,_=>false
def rEq:R2:=λx y H Q=>eR x y=true/\Q (.bl (decide (x=y))) H
def rNe:R2:=λx y H Q=>eR x y=true/\Q (.bl (!decide (x=y))) H
def eS:decide (V.int i=V.int j)=(i==j):=by
 rw[Bool.eq_iff_iff];simp
def eV:decide (V.bl i=V.bl j)=(i==j):=by
 rw[Bool.eq_iff_iff];simp
def eW:decide (V.str i=V.str j)=(i==j):=by
 rw[Bool.eq_iff_iff];simp
def eX:decide (V.byt i=V.byt j)=(i.toList==j.toList):=by
 rw[Bool.eq_iff_iff]
 cases i
 cases j
 simp
section
variable {X:Cx}{a b c:Expr}{ta tb tc:TE}{pos:Pos}
def J4{qE:qr}{σ:St}{H:Hp}{s:qZ}{Q:VK}{k k':Bool}(I:Inv X qE σ H s)(q:Q (.bl k) H)(e:k=k'):EP X qE σ Q (.bool k') s:=by
 subst e;exact⟨.bl k,H,I,rfl,q⟩
def eY:OpR X (compareOp .Eq) rEq:=by
 intro qE s σ H x y v u Q I rx ry h;obtain⟨hs,q⟩:=h
 cases x with
 |non =>
  cases rx
  cases y with
  |non=>cases ry;exact PySem.EqNone.eq_none_none (J4 I q 'j')
  |bl j=>cases ry;exact PySem.EqNone.eq_none_bool (J4 I q 'j')
  |int j=>obtain⟨t',rfl⟩:=ry;exact PySem.EqNone.eq_none_int (J4 I q 'j')
  |str j=>obtain⟨t',rfl⟩:=ry;exact PySem.EqNone.eq_none_str (J4 I q 'j')
  |_=>exact absurd (show false=true from hs) jQ
 |bl i =>
  cases rx
  cases y with
  |non=>cases ry;exact PySem.EqNone.eq_bool_none (J4 I q 'j')
  |bl j=>cases ry;exact eq_bool (J4 I q eV)
  |str j=>obtain⟨t',rfl⟩:=ry;exact PySem.EqMixed.eq_bool_str (J4 I q 'j')
  |_=>exact absurd (show false=true from hs) jQ
 |int i =>
  obtain⟨t,rfl⟩:=rx
  cases y with
  |non=>cases ry;exact PySem.EqNone.eq_int_none (J4 I q 'j')
  |int j=>obtain⟨t',rfl⟩:=ry;exact eq_int (J4 I q eS)
  |str j=>obtain⟨t',rfl⟩:=ry;exact PySem.EqMixed.eq_int_str (J4 I q 'j')
  |_=>exact absurd (show false=true from hs) jQ
 |str i =>
  obtain⟨t,rfl⟩:=rx
  cases y with
  |non=>cases ry;exact PySem.EqNone.eq_str_none (J4 I q 'j')
  |bl j=>cases ry;exact PySem.EqMixed.eq_str_bool (J4 I q 'j')
  |int j=>obtain⟨t',rfl⟩:=ry;exact PySem.EqMixed.eq_str_int (J4 I q 'j')
  |str j=>obtain⟨t',rfl⟩:=ry;exact eq_str (J4 I q eW)
  |_=>exact absurd (show false=true from hs) jQ
 |byt i =>
  obtain⟨t,rfl⟩:=rx
  cases y with
  |byt j=>obtain⟨t',rfl⟩:=ry;exact PySem.W.eq_bytes (J4 I q eX)
  |_=>exact absurd (show false=true from hs) jQ
 |_=>cases y<;>exact absurd (show false=true from hs) jQ
def eZ:OpR X (compareOp .NotEq) rNe:=by
 intro qE s σ H x y v u Q I rx ry h;obtain⟨hs,q⟩:=h
 cases x with
 |non =>
  cases rx
  cases y with
  |non=>cases ry;exact PySem.EqNone.ne_none_none (J4 I q 'j')
  |bl j=>cases ry;exact PySem.EqNone.ne_none_bool (J4 I q 'j')
  |int j=>obtain⟨t',rfl⟩:=ry;exact PySem.EqNone.ne_none_int (J4 I q 'j')
  |str j=>obtain⟨t',rfl⟩:=ry;exact PySem.EqNone.ne_none_str (J4 I q 'j')
  |_=>exact absurd (show false=true from hs) jQ
 |bl i =>
  cases rx
  cases y with
  |non=>cases ry;exact PySem.EqNone.ne_bool_none (J4 I q 'j')
  |bl j=>cases ry;exact ne_bool (J4 I q (kN not eV))
  |str j=>obtain⟨t',rfl⟩:=ry;exact PySem.EqMixed.ne_bool_str (J4 I q 'j')
  |_=>exact absurd (show false=true from hs) jQ
 |int i =>
  obtain⟨t,rfl⟩:=rx
  cases y with
  |non=>cases ry;exact PySem.EqNone.ne_int_none (J4 I q 'j')
  |int j=>obtain⟨t',rfl⟩:=ry;exact ne_int (J4 I q (kN not eS))
  |str j=>obtain⟨t',rfl⟩:=ry;exact PySem.EqMixed.ne_int_str (J4 I q 'j')
  |_=>exact absurd (show false=true from hs) jQ
 |str i =>
  obtain⟨t,rfl⟩:=rx
  cases y with
  |non=>cases ry;exact PySem.EqNone.ne_str_none (J4 I q 'j')
  |bl j=>cases ry;exact PySem.EqMixed.ne_str_bool (J4 I q 'j')
  |int j=>obtain⟨t',rfl⟩:=ry;exact PySem.EqMixed.ne_str_int (J4 I q 'j')
  |str j=>obtain⟨t',rfl⟩:=ry;exact ne_str (J4 I q (kN not eW))
  |_=>exact absurd (show false=true from hs) jQ
 |byt i =>
  obtain⟨t,rfl⟩:=rx
  cases y with
  |byt j=>obtain⟨t',rfl⟩:=ry;exact PySem.W.ne_bytes (J4 I q (kN not eX))
  |_=>exact absurd (show false=true from hs) jQ
 |_=>cases y<;>exact absurd (show false=true from hs) jQ
def Z8:OpR X (compareOp .Lt) (rI0 λi j => .bl (decide (i<j))):=ZW λ_ _ _ _ _ _ _ q=>lt_int q
def QI:OpR X (compareOp .Gt) (rI0 λi j => .bl (decide (j<i))):=ZW λ_ _ _ _ _ _ _ q=>gt_int q
def f6:OpR X (compareOp .Is) (λx y H Q=>y=.non/\Q (.bl (decide (x=.non))) H):=by
 intro qE s σ H x y v u Q I rx ry h;obtain⟨rfl,q⟩:=h
 cases ry
 refine is_none_gen (J4 I q ?_)
 cases x<;>first
  |(cases rx;rfl)
  |(obtain⟨t,rfl⟩:=rx;rfl)
def oo:OpR X (compareOp .IsNot) (λx y H Q=>y=.non/\Q (.bl (!decide (x=.non))) H):=by
 intro qE s σ H x y v u Q I rx ry h;obtain⟨rfl,q⟩:=h
 cases ry
 refine isnot_none_gen (J4 I q ?_)
 cases x<;>first
  |(cases rx;rfl)
  |(obtain⟨t,rfl⟩:=rx;rfl)
def OpR.or(h:OpR X f r)(h':OpR X f r'):OpR X f (λx y H Q=>r x y H Q\/r' x y H Q):=by
 intro qE s σ H x y v u Q I rx ry q;rcases q with q|q
 . exact h qE s σ H x y v u Q I rx ry q
 . exact h' qE s σ H x y v u Q I rx ry q
def xN(b:Expr)(h:op ≠ .In:=by decide)(h2:op ≠ .NotIn:=by decide):behindInMarks op b=false:=by
 have e1:(op==CmpOp.In)=false:=by cases op<;>first|rfl|exact absurd rfl h
 have e2:(op==CmpOp.NotIn)=false:=by cases op<;>first|rfl|exact absurd rfl h2
 cases b<;>simp[behindInMarks,e1,e2]
def f8(ho:OpR X (compareOp op) r)(ha:PE X a ta)(hb:PE X b tb)(hm:behindInMarks op b=false):PE X (.Compare a [op] [b] pos) (tOp r ta tb):=by
 intro qE s σ H Q I h;exact wpAny_Compare1 (aX ha hb I h λv u s2 x y H2 I2 rx ry q=>ho qE s2 σ H2 x y v u Q I2 rx ry q) hm
def Xy(t:TE):TT:=λσ H Q=>t σ H λx H'=>∃k,x=.bl k/\Q k H'
def xK(ho:OpR X (compareOp op) r)(ha:PE X a ta)(hb:PE X b tb)(hm:behindInMarks op b=false):PT X (.Compare a [op] [b] pos) (Xy (tOp r ta tb)):=by
 intro qE s σ H Q I h
 refine wpAny_isTrue_Compare1 (thn (ha qE s σ H _ I h) λv s1 ⟨x,H1,I1,r1,q1⟩=>thn (hb qE s1 σ H1 _ I1 q1) λu s2 ⟨y,H2,I2,r2,q2⟩ =>
  thn (ho qE s2 σ H2 x y v u _ I2 r1 r2 q2) λc s3 ⟨z,H3,I3,r3,k,e,q3⟩=>?_) hm
 subst e
 cases r3
 exact wpAny_truthy_bool ⟨H3,I3,q3⟩
def Z9:(sizeLine:Nat)<2 ^ 63:=by rw[kR];decide
def QT:OpR X (binaryOp .Add) (λx y H Q=>∃i j,x=.str i/\y=.str j/\i.length+j.length<=sizeLine/\Q (.str (i++j)) H):=by
 intro qE s σ H x y v u Q I rx ry h;obtain⟨i,j,rfl,rfl,hz,q⟩:=h;obtain⟨t,rfl⟩:=rx;obtain⟨t',rfl⟩:=ry;exact add_str (λt' tk=>⟨.str (i++j),H,I.tok _,⟨_,rfl⟩,q⟩) hz
def QU(r:Vals [x] us):∃u,us=[u]/\RelV x u:=by
 cases r with
 |cons r1 r2=>cases r2;exact⟨_,rfl,r1⟩
def Xz(r:Vals [x,y] us):∃u w',us=[u,w']/\RelV x u/\RelV y w':=by
 cases r with
 |cons r1 r2 =>
  cases r2 with
  |cons r3 r4=>cases r4;exact⟨_,_,rfl,r1,r3⟩
def ou(hc:X.calm=true):Jv X (.builtin "max") (λxs H Q=>∃i j,xs=[.int i,.int j]/\Q (.int (if j > i then j else i)) H):=by
 intro qE s σ H xs us Q I r h;obtain⟨i,j,rfl,q⟩:=h;obtain⟨u,w',rfl,⟨t,rfl⟩,⟨t',rfl⟩⟩:=Xz r;refine max_two_ints (I.ok.hd hc) λh' tk k=>⟨_,H,I.kept k,?_,q⟩
 by_cases hj:j > i
 . rw[ke hj,ke hj];exact⟨_,rfl⟩
 . rw[k9 hj,k9 hj];exact⟨_,rfl⟩
def ox:Jv X (.type "str") (λxs H Q=>∃i,xs=[.int i]/\i.natAbs.log2<1920/\Q (.str (toString i)) H):=by
 intro qE s σ H xs us Q I r h;obtain⟨i,rfl,hz,q⟩:=h;obtain⟨u,rfl,t,rfl⟩:=QU r;exact PySem.P.str_of_int hz ⟨.str _,H,I.tok _,⟨_,rfl⟩,q⟩
def aY(K:qu)(x:V)(H:Hp)(n:Nat):Prop :=
 match x with
 |.str y=>y.length<=sizeLine/\n=y.length
 |.byt y=>y.size<=sizeLine/\n=y.size
 |.ref p=>(∃xs,SqL K H p xs/\n=xs.length)\/∃xs,SqT K H p xs/\n=xs.length
 |_=>False
def oy:Jv X (.builtin "len") (λxs H Q=>∃x n,xs=[x]/\aY X.K x H n/\Q (.int n) H):=by
 intro qE s σ H xs us Q I r h;obtain⟨x,n,rfl,e,q⟩:=h;obtain⟨u,rfl,rx⟩:=QU r;have hl:=Z9;have hs:sizeLine=16777216:=kR
 cases x with
 |str y =>
  obtain⟨t,rfl⟩:=rx;obtain⟨hy,e'⟩:y.length<=sizeLine/\n=y.length:=e;subst e';exact len_str 'd' ⟨.int _,H,I.tok _,⟨_,rfl⟩,q⟩
 |byt y =>
  obtain⟨t,rfl⟩:=rx;obtain⟨hy,e'⟩:y.size<=sizeLine/\n=y.size:=e;subst e';exact PySem.W.len_bytes 'd' ⟨.int _,H,I.tok _,⟨_,rfl⟩,q⟩
 |ref p =>
  cases rx
  have e':(∃xs,SqL X.K H p xs/\n=xs.length)\/∃xs,SqT X.K H p xs/\n=xs.length:=e;rcases e' with ⟨xs,hx,e'⟩|⟨xs,hx,e'⟩
  . subst e';obtain⟨its,r',pl,hz⟩:=I.list hx;have qP:=r'.length;exact Calls.call_len_list pl.isList (by simp only[jK];omega) ⟨.int xs.length,H,I.tok _,⟨_,by simp only[jK];rw[qP]⟩,q⟩
  . subst e';obtain⟨its,r',pl,hz⟩:=I.tuple hx;have qP:=r'.length;exact len_tuple pl (by simp only[jK];omega) ⟨.int xs.length,H,I.tok _,⟨_,by simp only[jK];rw[qP]⟩,q⟩
 |_=>exact(show False from e).elim
end
structure ObjM (h:Heap) (x dx C:xb) (mA:qm):Prop where
 obj:h.get? x=some (PySem.W.instObj C dx)
 ns:h.Ns1 dx mA
 ne:dx≠x
def oz{h:Heap}{dx:xb}{mA:qm}(n:h.Ns1 dx mA):∃od,h.get? dx=some od/\∀name,PySem.W.lookIn name od=some (mA name):=by
 obtain⟨o,es,ep,ho,hd,hk,_,hm⟩:=n;refine⟨o,ho,λname=>?_⟩;have e:=hm name;unfold nsFind findBy at e;rw[<- Array.find?_toList]at e;unfold PySem.W.lookIn;rw[hd];dsimp only;split
 . rename_i y q;rw[q]at e;exact kN some e
 . rename_i q;rw[q]at e
   have a:es.toList.any (·.refKey)=false:=by
    rw[List.any_eq_false];intro y hy;obtain⟨z,t,hkey⟩:=hk y (Array.mem_toList_iff.mp hy);simp[DictEntry.refKey,hkey]
   have a':¬es.toList.any (·.refKey)=true:=by rw[a];exact jQ
   rw[k9 a'];exact kN some e
def ObjM.look(I:ObjM h x dx C mA):∃od,PySem.W.InstAt h x (PySem.W.instObj C dx) C (some od)/\∀name,PySem.W.lookIn name od=some (mA name) :=
 let ⟨od,ho,hl⟩:=oz I.ns
 ⟨od,⟨I.obj,rfl,rfl,ho⟩,hl⟩
section
variable {prog:xf}{w:xh}{A:Around}{E:qk}{s:qZ}{K:qu}{x dx C f:xb}{mA:qm}{name:Str}{v:qY}
def oA(X:K.In s.heap)(I:ObjM s.heap x dx C mA)(hg:PySem.W.plainGet K C name=true)(hh:PySem.W.hasDictIn K C=true)
 (ha:PySem.W.findIn K (.ref C) name=some none) (hv:mA name=some v) (hv':PySem.W.handedIn v=true) (h:Q v { s with toks:=s.toks+1 }) :
 wpAny (model prog w) A (getAttr (.ref x) name expr) Q E s:=by
 obtain⟨od,J,hl⟩:=I.look;exact PySem.W.get_value X J (PySem.W.plainGet_of hg).1 (PySem.W.findObj_own hh ha rfl (by rw[hl,hv])) hv' h
def oB(X:K.In s.heap)(I:ObjM s.heap x dx C mA)(hg:PySem.W.plainGet K C name=true)
 (hf:PySem.W.findIn K (.ref C) name=some (some (.ref f))) (ht:PySem.W.isFn K (.ref f)=true) (hv:mA name=none) (h:Q (.ref f,[.ref x]) s) :
 wpAny (model prog w) A (getMethod (.ref x) name pl) Q E s:=by
 obtain⟨od,J,hl⟩:=I.look;exact PySem.W.method_fn X J (PySem.W.plainGet_of hg).1 (PySem.W.plainGet_of hg).2 hf (beq_iff_eq.mp ht) (by show(PySem.W.lookIn name od).map (·.isSome)=some false;rw[hl,hv];rfl) h
def oC(X:K.In s.heap)(I:ObjM s.heap x dx C mA)
 (hs:PySem.W.findIn K (.ref C) "__setattr__" = some (some (.builtin "object.__setattr__"))) (hp:PySem.W.plainOver K C=true) (ht:PySem.W.takerIn K C name=some none) (hh:PySem.W.hasDictIn K C=true)
 (hw:PySem.Within mA ns) (hsz:ns.length<=sizeLine)
 (h:∀h',ObjM h' x dx C (λy=>if y=name then some v else mA y)->Heap.SameBut dx s.heap h'->Q () { s with heap:=h',toks:=s.toks+2 }) :
 wpAny (model prog w) A (setAttr (.ref x) name v) Q E s:=by
 obtain⟨od,J,hl⟩:=I.look;refine PySem.W.set_plain X J hs (PySem.W.osa_open (s:={ s with toks:=s.toks+1 }) (r:=none) X J hp ht λb=>?_);obtain⟨cd,hc,hd'⟩:=PySem.W.any_some hh;have hx:s.heap.get? x=some ⟨.ref C,some dx,.plain,#[]⟩:=I.obj;refine k7 (k8 (k7 (k7 (wpAny_loadPart hx (k7 (PySem.W.Looks.here (s:={ s with toks:=s.toks+1 }) (PySem.W.looks_clsIn X hc) ?_))))));rw[hd'];refine k8 (a:=some dx) (k7 (k8 (k7 ?_)));refine wpAny_nsSet1 (s:={ s with toks:=s.toks+1 }) I.ns λh' hn2 hs2=>?_;obtain⟨oD,esD,epD,hoD,hdD,hcD⟩:=hn2.count (PySem.Within.cons name v hw);refine k7 (wpAny_lookBehind hoD (by rw[hdD];exact pastItsLine_dict (je hcD (by rw[jU];omega))) ?_);exact k8 (h _ ⟨(hs2.2 _ (Ne.symm I.ne)).trans I.obj,hn2,I.ne⟩ hs2)
def oF(X:K.In s.heap)(hm:PySem.W.makesIn K C=true)
 (hi:PySem.W.findIn K (.ref C) "__init__" = some (some (.ref f))) (hf:PySem.W.typeIn K (.ref f)=some (.type "function"))
 (h:codeAny (model prog w) (A.under (.builtin "type.__call__" ⟨.ref C::vs,kw⟩)) (.call (.ref f) ⟨.ref (s.heap.objs.size+1)::vs,kw⟩) (PySem.W.InitBack (s.heap.objs.size+1) R)
  { s with heap:=(s.heap.push PySem.W.emptyDict).push (PySem.W.instObj C s.heap.objs.size) }) :
 codeAny (model prog w) A (.call (.ref C) ⟨vs,kw⟩) R s:=by
 obtain⟨hh,g,d,t,os⟩:=s;exact PySem.W.make_core (PySem.W.makes_of X hm) (PySem.W.looks_findIn X hi) (λself=>PySem.W.bind_fn X self hf) (.inl rfl) h
end
def Jh(f:Str)(v:V):List (Str×V)->List (Str×V)
 | []=>[(f,v)]
 |(g,x)::r=>if g=f then(g,v)::r else(g,x)::Jh f v r
theorem f9(f g:Str)(v:V):∀fs:List (Str×V),(Jh f v fs).lookup g=if g=f then some v else fs.lookup g
 | []=>by
  show List.lookup g [(f,v)]=_
  by_cases h:g=f
  . have hb:(g==f)=true:=beq_iff_eq.mpr h;simp only[List.lookup,hb,ke h]
  . have hb:(g==f)=false:=beq_eq_false_iff_ne.mpr h;simp only[List.lookup,hb,k9 h]
 |(k,x)::r=>by
  have ih:=f9 f g v r;rw[show Jh f v ((k,x)::r)=(if k=f then(k,v)::r else(k,x)::Jh f v r) from rfl]
  by_cases hk:k=f
  . rw[ke hk]
    by_cases h:g=k
    . have hb:(g==k)=true:=beq_iff_eq.mpr h;simp only[List.lookup,hb,ke (h.trans hk)]
    . have hb:(g==k)=false:=beq_eq_false_iff_ne.mpr h;simp only[List.lookup,hb,k9 (λe:g=f=>h (e.trans hk.symm))]
  . rw[k9 hk]
    by_cases h:g=k
    . have hb:(g==k)=true:=beq_iff_eq.mpr h;simp only[List.lookup,hb,k9 (λe:g=f=>hk (h.symm.trans e))]
    . have hb:(g==k)=false:=beq_eq_false_iff_ne.mpr h;simp only[List.lookup,hb];exact ih
theorem aZ(f:Str)(v:V):∀fs:List (Str×V),f∈(Jh f v fs).map (·.1)/\∀g,g∈fs.map (·.1)->g∈(Jh f v fs).map (·.1)
 | []=>⟨by simp[Jh],λg h=>by simp at h⟩
 |(k,x)::r=>by
  obtain⟨i1,i2⟩:=aZ f v r;rw[show Jh f v ((k,x)::r)=(if k=f then(k,v)::r else(k,x)::Jh f v r) from rfl]
  by_cases hk:k=f
  . rw[ke hk];subst hk;exact⟨by simp,λg h=>by simpa using h⟩
  . rw[k9 hk];refine⟨?_,λg h=>?_⟩
    . rw[jg];exact jE _ i1
    . rw[jg]at h ⊢;rcases jB.mp h with e | e
      . exact jB.mpr (.inl e)
      . exact jE _ (i2 g e)
theorem fb(f:Str)(v:V):∀fs:List (Str×V),(Jh f v fs).length<=fs.length+1
 | []=>by simp[Jh]
 |(k,x)::r=>by
  have ih:=fb f v r;rw[show Jh f v ((k,x)::r)=(if k=f then(k,v)::r else(k,x)::Jh f v r) from rfl]
  by_cases hk:k=f
  . rw[ke hk,jU,jU];omega
  . rw[k9 hk,jU,jU];omega
def RelO.some_of(r:RelO (some v) o):∃u,o=some u/\RelV v u:=by
 cases o with
 |none=>exact(show False from r).elim
 |some u=>exact⟨u,rfl,r⟩
def RelO.none_of(r:RelO none o):o=none:=by
 cases o with
 |none=>rfl
 |some u=>exact(show False from r).elim
def oG(r:RelV v u):PySem.W.handedIn u=true:=by
 cases v with
 |non=>cases (show u=Value.none from r);rfl
 |bl b=>cases (show u=Value.bool b from r);rfl
 |int i=>obtain⟨t,e⟩:=(show ∃t,u=Value.int i t from r);cases e;rfl
 |str x=>obtain⟨t,e⟩:=(show ∃t,u=Value.str x t from r);cases e;rfl
 |byt b=>obtain⟨t,e⟩:=(show ∃t,u=Value.bytes b t from r);cases e;rfl
 |flt b=>obtain⟨t,e⟩:=(show ∃t,u=Value.float b t from r);cases e;rfl
 |ref a=>cases (show u=Value.ref a from r);rfl
 |ty n=>cases (show u=Value.type n from r);rfl
section
variable {P:xf}{w:xh}{H H':Hp}{h h':Heap}{a C dx:xb}{fs fs':List (Str×V)}
def ZZ(hok:HOk P w H h)(e:H a=some (.ins C dx fs)):∃mA,ObjM h a dx C mA/\(∀f,RelO (fs.lookup f) (mA f))/\PySem.Within mA (fs.map (·.1))/\fs.length<=1000/\H dx=some (.own a):=by
 obtain⟨d,z,ne,ob,mA,n,r,q⟩:=(show ObjOk P w H h a (.ins C dx fs) from hok a _ e);exact⟨mA,⟨ob,n,ne⟩,r,q,z,d⟩
end
structure Cls (K:qu) (C:xb):Prop where
 pg:PySem.W.plainGet K C Str.empty=true
 hd:PySem.W.hasDictIn K C=true
 po:PySem.W.plainOver K C=true
 sa:PySem.W.findIn K (.ref C) "__setattr__" = some (some (.builtin "object.__setattr__"))
def Cls.get{K:qu}{C:xb}(c:Cls K C)(f:Str):PySem.W.plainGet K C f=true:=c.pg
def NoAttr(K:qu)(C:xb)(f:Str):Prop:=PySem.W.findIn K (.ref C) f=some none
def NoAttr.taker{K:qu}{C:xb}{f:Str}(n:NoAttr K C f):PySem.W.takerIn K C f=some none:=by
 unfold PySem.W.takerIn;rw[show PySem.W.findIn K (.ref C) f=some none from n];rfl
structure Meth (K:qu) (C:xb) (m:Str) (f:xb):Prop where
 at_:PySem.W.findIn K (.ref C) m=some (some (.ref f))
 fn:PySem.W.isFn K (.ref f)=true
 kp:PySem.W.keepIn K (.ref f)=true
section
variable {X:Cx}{qE:qr}{σ:St}{H:Hp}{s:qZ}{a C dx:xb}{fs:List (Str×V)}{f:Str}{v:V}{A:Around}{E:qk}
def fc(I:Inv X qE σ H s)(e:H a=some (.ins C dx fs))(c:Cls X.K C)(n:NoAttr X.K C f)(l:fs.lookup f=some v)
 (h:∀u s',Inv X qE σ H s'->RelV v u->Q u s'):wpAny (model X.prog X.w) A (getAttr (.ref a) f b) Q E s:=by
 obtain⟨mA,O,r,_,_,_⟩:=ZZ I.hok e;obtain⟨u,hu,ru⟩:=RelO.some_of (v:=v) (o:=mA f) (by rw[<- l];exact r f);exact oA I.kIn O (c.get f) c.hd n hu (oG ru) (h u _ (I.tok _) ru)
def fg(I:Inv X qE σ H s)(e:H a=some (.ins C dx fs))(c:Cls X.K C)(k:Meth X.K C m g)(l:fs.lookup m=none)
 (h:Q (.ref g,[.ref a]) s):wpAny (model X.prog X.w) A (getMethod (.ref a) m pl) Q E s:=by
 obtain⟨mA,O,r,_,_,_⟩:=ZZ I.hok e;have hn:mA m=none:=RelO.none_of (by rw[<- l];exact r m);exact oB I.kIn O (c.get m) k.at_ k.fn hn h
def fh(I:Inv X qE σ H s)(e:H a=some (.ins C dx fs))(c:Cls X.K C)(n:NoAttr X.K C f)(hl:fs.length<1000)(ry:RelV y u)
 (h:∀s',Inv X qE σ (upd H a (.ins C dx (Jh f y fs))) s'->Q () s'):wpAny (model X.prog X.w) A (setAttr (.ref a) f u) Q E s:=by
 obtain⟨mA,O,r,wi,_,ho⟩:=ZZ I.hok e;have hz:(fs.map (·.1)).length<=sizeLine:=by rw[jC,kR];omega
 refine oC I.kIn O c.sa c.po n.taker c.hd wi hz λh' O' sb=>h _ ?_;have hd:∃o,h'.get? dx=some o:=let ⟨o,_,_,e',_⟩:=O'.ns;⟨o,e'⟩;refine I.write (x:=a) (e:=dx) (by rw[e];exact True.intro) (.inr ho) (λb q hb z=>(sb.2 b hb).trans z) hd ?_;refine⟨by rw[xz O.ne];exact ho,?_,O.ne,O'.obj,_,O'.ns,λg=>?_,λg hg=>?_⟩
 . have:=fb f y fs;omega
 . show RelO ((Jh f y fs).lookup g) (if g=f then some u else mA g);rw[f9]
   by_cases q:g=f
   . rw[ke q,ke q];exact ry
   . rw[k9 q,k9 q];exact r g
 . by_cases q:g=f
   . rw[q];exact(aZ f y fs).1
   . refine(aZ f y fs).2 g (wi g λz=>hg ?_);show(if g=f then some u else mA g)=none;rw[k9 q];exact z
def Inv.made(I:Inv X qE σ H s):Inv X qE σ (upd (upd H s.heap.objs.size (.own (s.heap.objs.size+1))) (s.heap.objs.size+1) (.ins C s.heap.objs.size []))
 { s with heap:=(s.heap.push PySem.W.emptyDict).push (PySem.W.instObj C s.heap.objs.size) }:=by
 have e1:(s.heap.push PySem.W.emptyDict).get? s.heap.objs.size=some PySem.W.emptyDict:=jO s.heap rfl
 have e2:((s.heap.push PySem.W.emptyDict).push (PySem.W.instObj C s.heap.objs.size)).get? (s.heap.objs.size+1)=some (PySem.W.instObj C s.heap.objs.size):=by
  have:=jO (s.heap.push PySem.W.emptyDict) (o:=PySem.W.instObj C s.heap.objs.size) rfl
  rwa [kB]at this
 have e3:(s.heap.push PySem.W.emptyDict).Ns s.heap.objs.size (λ_=>none):=⟨PySem.W.emptyDict,#[],_,e1,rfl,(λe he=>absurd he 'j'),λ_=>rfl⟩;have I1:=I.laid (a:=s.heap.objs.size) (o := .own (s.heap.objs.size+1)) (h':=s.heap.push PySem.W.emptyDict) (t':=s.toks) (λb u q=>jF _ q) (jG _) ⟨_,e1⟩;refine I1.laid (a:=s.heap.objs.size+1) (o := .ins C s.heap.objs.size []) (t':=s.toks) (λb u q=>jF _ q) (Nat.le_of_eq (kB _ _)) ?_;have ne:s.heap.objs.size≠s.heap.objs.size+1:=jZ (Nat.lt_succ_self _);refine⟨by rw[xz ne,xm],jS _,ne,e2,λ_=>none,(Heap.Ns1.of_empty e3).at λo q=>jF _ q,λ_=>True.intro,λy hy=>absurd rfl hy⟩
def oH(hb:attributeBase e f env (eval e env)=eval e env)
 (h:wpAny (model prog w) A (eval e env) (λo s₁=>wpAny (model prog w) A (getAttr o f true) Q E s₁) E s):wpAny (model prog w) A (eval (.Attribute e f pos) env) Q E s :=
 Attribute_any_ h (by rw[arm_eval_Attribute,hb])
end
def oJ(K:qu)(ta:TE)(f:Str):TE:=λσ H Q=>ta σ H λx H1=>∃a C dx fs v,x=.ref a/\H1 a=some (.ins C dx fs)/\Cls K C/\NoAttr K C f/\fs.lookup f=some v/\Q v H1
def b9(K:qu)(ta tv:TE)(f:Str):TS:=λD σ H=>tv σ H λy H1=>ta σ H1 λx H2=>∃a C dx fs,x=.ref a/\H2 a=some (.ins C dx fs)/\Cls K C/\NoAttr K C f/\fs.length<1000 /\
 D.nx σ (upd H2 a (.ins C dx (Jh f y fs)))
def fi(X:Cx)(op:Operator)(rd:V->V->Hp->VK->Prop):Prop :=
 ∀(qE:qr) (s:qZ) (σ:St) (H:Hp) (x y:V) (u v:qY) (Q:VK),Inv X qE σ H s->RelV x u->RelV y v->rd x y H Q->wpAny (model X.prog X.w) X.A (inplaceOp op u v) (EP X qE σ Q) X.xe s
def oK(K:qu)(ta tv:TE)(rd:V->V->Hp->VK->Prop)(f:Str):TS:=λD σ H=>ta σ H λx H1=>∃a C dx fs v,x=.ref a/\H1 a=some (.ins C dx fs)/\Cls K C/\NoAttr K C f/\fs.lookup f=some v /\
 tv σ H1 λy H2=>rd v y H2 λz H3=>∃dx' fs',H3 a=some (.ins C dx' fs')/\fs'.length<1000/\D.nx σ (upd H3 a (.ins C dx' (Jh f z fs')))
section
variable {X:Cx}{o e value:Expr}{f:Str}{pos pos' tpos:Pos}{ta tv:TE}
def XA(he:PE X e ta)(hb:attributeBase e f X.env (eval e X.env)=eval e X.env):PE X (.Attribute e f pos) (oJ X.K ta f):=by
 intro qE s σ H Q I h;refine oH hb (thn (he qE s σ H _ I h) λu s1 c9=>?_);obtain⟨x,H1,I1,rx,a,C,dx,fs,v,ex,ea,c,n,l,q⟩:=c9;subst ex;obtain rfl:u=Value.ref a:=rx;exact fc I1 ea c n l λu' s2 I2 ru=>⟨v,H1,I2,ru,q⟩
def ba(ha:PE X o ta)(hv:PE X value tv)(hs:swapsWith value (some (.Attribute o f pos')) pos.line X.env=pure false):PS X (.Assign [.Attribute o f pos'] value pos) (b9 X.K ta tv f):=by
 intro qE s σ H D I h;refine plainObj_wpAny_Assign_Attribute (thn (hv qE s σ H _ I h) λu s1 c9=>?_) hs;obtain⟨y,H1,I1,ry,q⟩:=c9;refine thn (ha qE s1 σ H1 _ I1 q) λov s2 yX=>?_;obtain⟨x,H2,I2,rx,a,C,dx,fs,ex,ea,c,n,l,q2⟩:=yX;subst ex;obtain rfl:ov=Value.ref a:=rx;exact fh I2 ea c n l ry λs3 I3=>⟨σ,_,I3,q2⟩
def oM(ha:PE X o ta)(hv:PE X value tv)(hop:fi X op rd):PS X (.AugAssign (.Attribute o f tpos) op value pos) (oK X.K ta tv rd f):=by
 intro qE s σ H D I h;refine wpAny_AugAssign_AttributeAny (thn (ha qE s σ H _ I h) λov s1 c9=>?_);obtain⟨x,H1,I1,rx,a,C,dx,fs,v,ex,ea,c,n,l,q⟩:=c9;subst ex;obtain rfl:ov=Value.ref a:=rx;refine fc I1 ea c n l λu s2 I2 ru=>thn (hv qE s2 σ H1 _ I2 q) λw3 s3 c9=>?_;obtain⟨y,H2,I3,ry,q3⟩:=c9;refine thn (hop qE s3 σ H2 v y u w3 _ I3 ru ry q3) λw4 s4 yX=>?_;obtain⟨z,H3,I4,rz,dx',fs',ea',l',q4⟩:=yX;exact fh I4 ea' c n l' rz λs5 I5=>⟨σ,_,I5,q4⟩
def oN:V->V->Hp->VK->Prop:=λx y H Q=>∃i j,x=.int i/\y=.int j/\Q (.int (i+j)) H
def oO:fi X .Add oN:=by
 rintro qE s σ H x y u v Q I rx ry ⟨i,j,rfl,rfl,q⟩;obtain⟨t,rfl⟩:=(show ∃t,u=Value.int i t from rx);obtain⟨t',rfl⟩:=(show ∃t',v=Value.int j t' from ry);exact PyProof.Rows.iadd_int ⟨.int (i+j),H,I.tok _,⟨_,rfl⟩,q⟩
end
section
variable {X:Cx}{qE:qr}{σ:St}{H:Hp}{s:qZ}{A:Around}{E:qk}{Q:qk}{c:qY}{b:Bool}
inductive TyOf (K:qu) (H:Hp):V->qY->Prop where
 |non:TyOf K H .non (.type "NoneType")
 |bl (x:Bool):TyOf K H (.bl x) (.type "bool")
 |int (i:Int):TyOf K H (.int i) (.type "int")
 |str (x:Str):TyOf K H (.str x) (.type "str")
 |flt (x:UInt64):TyOf K H (.flt x) (.type "float")
 |lst {a:xb}{xs:List V} (e:H a=some (.lst xs)):TyOf K H (.ref a) (.type "list")
 |frz {a:xb}{o:Obj}{xs:List V} (e:H a=some (.frz o (.lst xs))):TyOf K H (.ref a) (.type "list")
 |tup {a:xb}{xs:List V} (e:H a=some (.tup xs)):TyOf K H (.ref a) (.type "tuple")
 |dK {a:xb}{kvs:List (Key×V)} (e:H a=some (.dK kvs)):TyOf K H (.ref a) (.type "dict")
 |dT {a:xb}{kvs:List (List Key×V)} (e:H a=some (.dT kvs)):TyOf K H (.ref a) (.type "dict")
 |ins {a C dx:xb}{fs:List (Str×V)} (e:H a=some (.ins C dx fs)) (cl:Cls K C) (ha:PySem.W.findIn K (.ref C) "__class__" = some (some (.builtin "object.__class__")))
  (hn:PySem.W.specialIn K (.builtin "object.__class__") "__get__" = some (some (.builtin "getset_descriptor.__get__"))) (htk:PySem.W.takesIn K (.builtin "object.__class__")=some true)
  (hm:PySem.W.mroIn K C (.type "object")=some true):TyOf K H (.ref a) (.ref C)
def oQ(I:Inv X qE σ H s)(rx:RelV x u)(ty:TyOf X.K H x t)(e:PySem.W.kitOne X.K t c=some b)(h:∀tk,Q (.bool b) { s with toks:=tk }) :
 wpAny (model X.prog X.w) A (call (.builtin "isinstance") [u,c]) Q E s:=by
 cases ty with
 |non=>cases (show u=Value.none from rx);exact PySem.W.kia_one PySem.W.kitx_none I.kIn True.intro e (λz=>nomatch z) h
 |bl y=>cases (show u=Value.bool y from rx);exact PySem.W.kia_one PySem.W.kitx_bool I.kIn True.intro e (λz=>nomatch z) h
 |int i=>obtain⟨t,q⟩:=(show ∃t,u=Value.int i t from rx);cases q;exact PySem.W.kia_one PySem.W.kitx_int I.kIn True.intro e (λz=>nomatch z) h
 |str y=>obtain⟨t,q⟩:=(show ∃t,u=Value.str y t from rx);cases q;exact PySem.W.kia_one PySem.W.kitx_str I.kIn True.intro e (λz=>nomatch z) h
 |flt y=>obtain⟨t,q⟩:=(show ∃t,u=Value.float y t from rx);cases q;exact PySem.W.kia_one PySem.W.kitx_float I.kIn True.intro e (λz=>nomatch z) h
 | @lst a xs ea =>
  cases (show u=Value.ref a from rx)
  obtain⟨_,_,n,_,h1⟩:=(show ObjOk X.prog X.w H s.heap a (.lst xs) from I.hok a _ ea);exact PySem.W.kia_one PySem.W.kitx_list I.kIn ⟨_,h1,rfl⟩ e (λz=>nomatch z) h
 | @frz a ob xs ea =>
  cases (show u=Value.ref a from rx)
  obtain⟨_,_,_,n,_,h1⟩:=(show ObjOk X.prog X.w H s.heap a (.frz ob (.lst xs)) from I.hok a _ ea);exact PySem.W.kia_one PySem.W.kitx_list I.kIn ⟨_,h1,rfl⟩ e (λz=>nomatch z) h
 | @tup a xs ea =>
  cases (show u=Value.ref a from rx)
  obtain⟨_,_,_,p⟩:=(show ObjOk X.prog X.w H s.heap a (.tup xs) from I.hok a _ ea);obtain⟨o,h1,h2,_⟩:=p;exact PySem.W.kia_one PySem.W.kitx_tuple I.kIn ⟨o,h1,h2⟩ e (λz=>nomatch z) h
 | @dK a kvs ea =>
  cases (show u=Value.ref a from rx)
  obtain⟨_,_,vs,_,p⟩:=(show ObjOk X.prog X.w H s.heap a (.dK kvs) from I.hok a _ ea);obtain⟨o,es,ep,h1,h2,_⟩:=p;exact PySem.W.kia_one PySem.W.kitx_dict I.kIn ⟨o,h1,h2.1⟩ e (λz=>nomatch z) h
 | @dT a kvs ea =>
  cases (show u=Value.ref a from rx)
  obtain⟨_,_,xs,_,o,es,ep,h1,h2,_⟩:=(show ObjOk X.prog X.w H s.heap a (.dT kvs) from I.hok a _ ea);exact PySem.W.kia_one PySem.W.kitx_dict I.kIn ⟨o,h1,h2.1⟩ e (λz=>nomatch z) h
 | @ins a C dx fs ea cl ha hn htk hm =>
  cases (show u=Value.ref a from rx)
  obtain⟨mA,O,_⟩:=ZZ I.hok ea;obtain⟨od,J,_⟩:=O.look;exact PySem.W.kia_one (PySem.W.kitx_own (cl.get _) cl.hd ha hn htk hm) I.kIn J e (λz=>nomatch z) h
end
structure Room (k:Nat) (A:Around):Prop where
 hd:A.handled=none
 dp:A.depth+3*k+5<recursionLimit
 un:A.units+16*k+200<cLine
def Room.mono(r:Room k A)(h:j<=k):Room j A:=⟨r.hd,by have:=r.dp;omega,by have:=r.un;omega⟩
theorem Room.deeper(r:Room (k+1) A)(env:Env):Room k (A.deeper env) :=
 ⟨r.hd,by have:=r.dp;show A.depth+1+3*k+5<_;omega,by have:=r.un;show A.units+3+16*k+200<_;omega⟩
def oR{A:Around}{C:xb}{us:qA}{kw:List (Str×qY)}:(A.under (.builtin "type.__call__" ⟨.ref C::us,kw⟩)).depth=A.depth+1:=by
 first|rfl|simp[Around.under,Code.weight,Code.isCreation,Code.isGuard,Code.isCaller,Code.frames,Code.isFrame,guardIds]
def oU{A:Around}{C:xb}{us:qA}{kw:List (Str×qY)}:(A.under (.builtin "type.__call__" ⟨.ref C::us,kw⟩)).units=A.units+1:=by
 first|rfl|simp[Around.under,Code.cUnits,Code.frames,Code.isFrame]
def Room.make(r:Room (k+1) A)(C:xb)(us:qA)(kw:List (Str×qY)):Room k (A.under (.builtin "type.__call__" ⟨.ref C::us,kw⟩)) :=
 ⟨r.hd,by have:=r.dp;rw[oR];omega,by have:=r.un;rw[oU];omega⟩
theorem Room.depth(r:Room k A):A.depth<recursionLimit:=by have:=r.dp;omega
theorem Room.units(r:Room k A):A.units+64<cLine:=by have:=r.un;omega
def Ja:TA:=λ_ H Q=>Q [] H
def J8(ta:TE)(tr:TA):TA:=λσ H Q=>ta σ H λx H1=>tr σ H1 λxs H2=>Q (x::xs) H2
section
variable {X:Cx}{e:Expr}{es:List Expr}{te:TE}{t:TA}{pos:Pos}
def xk:PA X [] Ja:=λ_ _ _ _ H Q I h=>Calls.spliced_nil ⟨[],H,I,.nil,h⟩
def xC(ha:PE X e te)(hr:PA X es t)(hs:starEach (e::es) X.env=(false,eval e X.env)::starEach es X.env:=by rfl):PA X (e::es) (J8 te t):=by
 intro pos qE s σ H Q I h;rw[hs];show wpAny _ _ (spliced ((false,eval e X.env)::backTo pos (starEach es X.env))) _ _ s;refine Calls.spliced_cons (thn (ha qE s σ H _ I h) λu s1 c9=>?_);obtain⟨x,H1,I1,r1,q1⟩:=c9;exact thn (hr pos qE s1 σ H1 _ I1 q1) λus s2 ⟨xs,H2,I2,r2,q2⟩=>⟨x::xs,H2,I2,.cons r1 r2,q2⟩
def Za(t:TA):TE:=λσ H Q=>t σ H λxs H1=>xs.length<=sizeLine/\∀p,H1 p=none->Q (.ref p) (upd H1 p (.tup xs))
def Y0(t:TA):TE:=λσ H Q=>t σ H λxs H1=>xs.length<=sizeLine/\∀p,H1 p=none->Q (.ref p) (upd H1 p (.lst xs))
def JO(h:PA X es t):PE X (.Tuple es x1 pos) (Za t):=by
 intro qE s σ H Q I hq;refine wpAny_Tuple_spliced (thn (h pos qE s σ H _ I hq) λus s1 c9=>?_);obtain⟨xs,H1,I1,r,z,q⟩:=c9;refine ⟨by rw[<- r.length];exact z,?_⟩;have hf:H1 s1.heap.objs.size=none:=I1.hok.fresh (jG _);refine⟨.ref s1.heap.objs.size,upd H1 s1.heap.objs.size (.tup xs),I1.laid (t':=s1.toks) (λb u e=>jF _ e) (jG _) ?_,rfl,q _ hf⟩;exact⟨z,us,r,⟨_,jO _ rfl,rfl,_,rfl⟩⟩
def XB(h:PA X es t):PE X (.List es pos) (Y0 t):=by
 intro qE s σ H Q I hq;refine wpAny_List_spliced (thn (h pos qE s σ H _ I hq) λus s1 c9=>?_);obtain⟨xs,H1,I1,r,z,q⟩:=c9;refine ⟨by rw[<- r.length];exact z,?_⟩;have hf:H1 s1.heap.objs.size=none:=I1.hok.fresh (jG _);refine⟨.ref s1.heap.objs.size,upd H1 s1.heap.objs.size (.lst xs),I1.laid (t':=s1.toks) (λb u e=>jF _ e) (jG _) ?_,rfl,q _ hf⟩;exact⟨z,us,0,r,jO _ rfl⟩
end
abbrev Sp:=List V->Hp->VK->XK->Prop
abbrev CXT:=List Env->Hp->qZ->XK->qk
structure Env0 (P:xf) (w:xh) (K:qu) (mg:qm) (base:Heap) (A:Around) (outer:List Env) (s:qZ) (H:Hp):Prop where
 frames:A.frames=some outer
 mod:Mod K mg base
 bs:∀b o,base.get? b=some o->s.heap.get? b=some o/\H b=none
 bsz:base.objs.size<=s.heap.objs.size
 funs:s.heap.FunFrames base outer
 frf:∀b∈frs outer,H b=none
 hok:HOk P w H s.heap
 bare:AllBare s.gens
def CE(outer:List Env)(P:xf)(w:xh)(H:Hp)(s:qZ)(Q:VK)(u:qY)(s':qZ):Prop :=
 ∃v H',s'.os=s.os/\AllBare s'.gens/\Un (frs outer) [] H H' s.heap s'.heap/\HOk P w H' s'.heap/\RelV v u/\Q v H'
def CR(CX:CXT)(outer:List Env)(P:xf)(w:xh)(H:Hp)(s:qZ)(Q:VK)(E:XK)(r:Result)(s':qZ):Prop :=
 match r with
 |.ok (.ret u)=>CE outer P w H s Q u s'
 |.ok _=>False
 |.error e=>CX outer H s E e s'
structure FnOk (P:xf) (w:xh) (K:qu) (mg:qm) (base:Heap) (CX:CXT) (k:Nat) (f:xb) (fd:FuncData) (ps:qB) (sp:Sp):Prop where
 len:∀vs H Q E,sp vs H Q E->vs.length=ps.length
 run:∀(A:Around) (outer:List Env) (s:qZ) (H:Hp) (args:Args) (us:qA) (vs:List V) (Q:VK) (E:XK),Room k A->Env0 P w K mg base A outer s H->BindsTo s fd args (ps.zip us)->Vals vs us->sp vs H Q E ->
  codeAny (model P w) A (.call (.ref f) args) (CR CX outer P w H s Q E) s
def Env0.make{P:xf}{w:xh}{K:qu}{mg:qm}{base:Heap}{A:Around}{outer:List Env}{s:qZ}{H:Hp}(e:Env0 P w K mg base A outer s H)(C:xb)(us:qA)(kw:List (Str×qY)) :
 Env0 P w K mg base (A.under (.builtin "type.__call__" ⟨.ref C::us,kw⟩)) outer s H:=⟨by first|exact e.frames|(simpa [Around.under,Code.envs,Code.isFrame,pushEnvs] using e.frames),e.mod,e.bs,e.bsz,e.funs,e.frf,e.hok,e.bare⟩
section
variable {X:Cx}{qE:qr}{σ:St}{H:Hp}{s s':qZ}
def Inv.env0(I:Inv X qE σ H s):Env0 X.prog X.w X.K X.mg X.base X.A X.stack s H :=
 ⟨I.ok.frames,I.ok.mod,I.bs,je I.ok.bsz I.sz,I.stack,I.stkFree,I.hok,I.bare⟩
def Inv.after(I:Inv X qE σ H s)(h:CE X.stack X.prog X.w H s Q u s'):EP X qE σ Q u s':=by
 obtain⟨v,H',os,bare,un,hok,r,q⟩:=h;obtain⟨hh,g,d,t,os'⟩:=s';obtain rfl:os'=s.os:=os;exact⟨v,H',I.call (h':=hh) (g':=g) (d':=d) (t':=t) (ch:=[]) un hok bare (λb z=>absurd z 'j'),r,q⟩
end
def Zb(sp:Sp)(dvs:List V)(E:XK)(t:TA):TE:=λσ H Q=>t σ H λvs H1=>sp (vs++dvs) H1 Q E
def Y1(C:xb)(m:Str)(sp:Sp)(dvs:List V)(E:XK)(ta:TE)(t:TA):TE:=λσ H Q=>ta σ H λx H1=>∃a dx fs,x=.ref a/\H1 a=some (.ins C dx fs)/\fs.lookup m=none /\
 t σ H1 λvs H2=>sp (x::(vs++dvs)) H2 Q E
def fj(C:xb)(sp:Sp)(dvs:List V)(E:XK)(t:TA):TE:=λσ H Q=>t σ H λvs H1=>∀x dx,H1 x=none->H1 dx=none->dx≠x ->
 sp (.ref x::(vs++dvs)) (upd (upd H1 dx (.own x)) x (.ins C dx [])) (λv H2=>v=.non/\Q (.ref x) H2) E
def Binds(K:qu)(fd:FuncData)(ps:qB)(ds:qA):Prop :=
 ∀(s:qZ) (us:qA),K.In s.heap->(us++ds).length=ps.length->BindsTo s fd ⟨us,[]⟩ (ps.zip (us++ds))
def Binds.all{K:qu}{fd:FuncData}{ps:qB}(h:∀us:qA,us.length=ps.length->bindArgs fd ⟨us,[]⟩=pure (ps.zip us)):Binds K fd ps []:=λs us _ hl=>by
 rw[jR]at hl ⊢;exact .of_eq (h us hl)
def JX(CX:CXT)(X:Cx)(E:XK):Prop:=∀(qE:qr) (σ:St) (H:Hp) (s:qZ) (e:qY) (s':qZ),Inv X qE σ H s->CX X.stack H s E e s'->X.xe e s'
section
variable {X:Cx}{CX:CXT}{k:Nat}{f C:xb}{fd:FuncData}{ps:qB}{sp:Sp}{dvs:List V}{ds:qA}{E:XK}{x m:Str}{p pos apos:Pos}{e o:Expr}{es:List Expr}{ta:TE}{t:TA}
def bb{qE:qr}{σ:St}{H:Hp}{s:qZ}{Q:VK}{us:qA}{vs:List V}(F:FnOk X.prog X.w X.K X.mg X.base CX k f fd ps sp)(hr:Room k X.A)(hb:Binds X.K fd ps ds)(hd:Vals dvs ds)(hx:JX CX X E)
 (I:Inv X qE σ H s) (r:Vals vs us) (h:sp (vs++dvs) H Q E):wpAny (model X.prog X.w) X.A (call (.ref f) us) (EP X qE σ Q) X.xe s:=by
 have r2:Vals (vs++dvs) (us++ds):=r.append hd;have hl:(us++ds).length=ps.length:=by rw[<- r2.length];exact F.len _ _ _ _ h
 refine wpAny_call (codeAny_mono (F.run X.A X.stack s H ⟨us,[]⟩ (us++ds) (vs++dvs) Q E hr I.env0 (hb s us I.kIn hl) r2 h) λr s' hq=>?_)
 cases r with
 |error e=>exact hx qE σ H s e s' I hq
 |ok fl =>
  cases fl with
  |ret u=>exact I.after hq
  |next=>exact False.elim hq
  |brk=>exact False.elim hq
  |cont=>exact False.elim hq
def ft(F:FnOk X.prog X.w X.K X.mg X.base CX k f fd ps sp)(hr:Room k X.A)(hg:Gl X x)(hm:X.mg x=some (.ref f))(hk:PySem.W.keepIn X.K (.ref f)=true)(hb:Binds X.K fd ps ds)(hd:Vals dvs ds)(hx:JX CX X E)
 (ha:PA X (e::es) t) (hdb:(x==("__debug__" : Str))=false:=by decide) (he:starEach (e::es) X.env=(false,eval e X.env)::starEach es X.env:=by rfl) (qW:(backTo pos (starEach es X.env)).any (·.1)=false:=by rfl) :
 PE X (.Call (.Name x p) (e::es) [] pos) (Zb sp dvs E t):=by
 intro qE s σ H Q I h;refine kY (eB I hg hm ?_ hdb);refine PySem.W.callWith_K (h₀:=X.base) I.ok.mod.kin hk (thn (ha pos qE s σ H _ I h) λus s1 c9=>?_) he qW;obtain⟨vs,H1,I1,r,q⟩:=c9;refine ⟨I1.kIn,?_⟩;exact bb F hr hb hd hx I1 r q
def oV{pl:Sem Bool}(he:PE X o ta)(c:Cls X.K C)(hm:Meth X.K C m f)(F:FnOk X.prog X.w X.K X.mg X.base CX k f fd ps sp)(hr:Room k X.A)(hb:Binds X.K fd ps ds)(hd:Vals dvs ds)(hx:JX CX X E)(ha:PA X (e::es) t)
 (hst:starEach (e::es) X.env=(false,eval e X.env)::starEach es X.env:=by rfl) (qW:(backTo pos (starEach es X.env)).any (·.1)=false:=by rfl)
 (ht:eval (.Call (.Attribute o m apos) (e::es) [] pos) X.env=(do
  let ov <- eval o X.env
  standAt apos.atName
  let (f,first) <- holding [ov] (getMethod ov m pl)
  callWith pos f first (backTo pos (starEach (e::es) X.env)) (backToKw pos (keywordEach [] X.env))):=by rfl) :
 PE X (.Call (.Attribute o m apos) (e::es) [] pos) (Y1 C m sp dvs E ta t):=by
 intro qE s σ H Q I h;refine PySem.W.methodCall_KW (pl:=pl) (thn (he qE s σ H _ I h) λu s1 c9=>?_) ht;obtain⟨x,H1,I1,rx,a,dx,fs,ex,ea,l,q⟩:=c9;subst ex;obtain rfl:u=Value.ref a:=rx;refine fg I1 ea c hm l ?_;refine PySem.W.callWith_K (first:=[.ref a]) (h₀:=X.base) I.ok.mod.kin hm.kp (thn (ha pos qE s1 σ H1 _ I1 q) λus s2 c9=>?_) hst qW;obtain⟨vs,H2,I2,r,q2⟩:=c9;refine ⟨I2.kIn,?_⟩;exact bb (us := .ref a::us) (vs := .ref a::vs) F hr hb hd hx I2 (.cons rfl r) q2
def oW{pl:Sem Bool}(he:PE X o ta)(c:Cls X.K C)(hm:Meth X.K C m f)(F:FnOk X.prog X.w X.K X.mg X.base CX k f fd ps sp)(hr:Room k X.A)(hb:Binds X.K fd ps ds)(hd:Vals dvs ds)(hx:JX CX X E)
 (ht:eval (.Call (.Attribute o m apos) [] [] pos) X.env=(do
  let ov <- eval o X.env
  standAt apos.atName
  let (f,first) <- holding [ov] (getMethod ov m pl)
  callWith pos f first (backTo pos (starEach [] X.env)) (backToKw pos (keywordEach [] X.env))):=by rfl) :
 PE X (.Call (.Attribute o m apos) [] [] pos) (Y1 C m sp dvs E ta Ja):=by
 intro qE s σ H Q I h;refine PySem.W.methodCall_KW (pl:=pl) (thn (he qE s σ H _ I h) λu s1 c9=>?_) ht;obtain⟨x,H1,I1,rx,a,dx,fs,ex,ea,l,q⟩:=c9;subst ex;obtain rfl:u=Value.ref a:=rx;refine fg I1 ea c hm l ?_;exact PySem.W.callWith_K0 (first:=[.ref a]) I1.kIn hm.kp (bb (us:=[.ref a]) (vs:=[.ref a]) F hr hb hd hx I1 (.cons rfl .nil) q)
structure Mk (K:qu) (C f:xb):Prop where
 makes:PySem.W.makesIn K C=true
 init:PySem.W.findIn K (.ref C) "__init__" = some (some (.ref f))
 fn:PySem.W.isFn K (.ref f)=true
 kp:PySem.W.keepIn K (.ref C)=true
def oX{qE:qr}{σ:St}{H:Hp}{s:qZ}{Q:VK}{us:qA}{vs:List V}(M:Mk X.K C f)(F:FnOk X.prog X.w X.K X.mg X.base CX k f fd ps sp)(hr:Room (k+1) X.A)(hb:Binds X.K fd ps ds)(hd:Vals dvs ds)
 (hx:JX CX X E) (I:Inv X qE σ H s) (r:Vals vs us)
 (h:∀x dx,H x=none->H dx=none->dx≠x->sp (.ref x::(vs++dvs)) (upd (upd H dx (.own x)) x (.ins C dx [])) (λv H2=>v=.non/\Q (.ref x) H2) E) :
 wpAny (model X.prog X.w) X.A (call (.ref C) us) (EP X qE σ Q) X.xe s:=by
 have hq:=h (s.heap.objs.size+1) s.heap.objs.size (I.hok.fresh (j7 _)) (I.hok.fresh (jG _)) (jZ (Nat.lt_succ_self _));have I2:=Inv.made (C:=C) I;have r2:Vals (V.ref (s.heap.objs.size+1)::(vs++dvs)) (Value.ref (s.heap.objs.size+1)::(us++ds)) := .cons rfl (r.append hd)
 have hl:(Value.ref (s.heap.objs.size+1)::us++ds).length=ps.length:=by
  have e:=r2.length;rw[F.len _ _ _ _ hq]at e;exact e.symm
 refine wpAny_call (oF (f:=f) I.kIn M.makes M.init (beq_iff_eq.mp M.fn) (codeAny_mono (F.run _ X.stack _ _ ⟨Value.ref (s.heap.objs.size+1)::us,[]⟩ (Value.ref (s.heap.objs.size+1)::(us++ds)) _ _ E (hr.make C us [])
  (I2.env0.make C us []) (hb _ (Value.ref (s.heap.objs.size+1)::us) I2.kIn hl) r2 hq) λr s' hq'=>?_))
 cases r with
 |error e=>exact hx qE σ _ _ e s' I2 hq'
 |ok fl =>
  cases fl with
  |ret u =>
   obtain⟨v,H',I3,rv,ev,q3⟩:=I2.after hq';subst ev;exact⟨rv,⟨V.ref (s.heap.objs.size+1),H',I3,rfl,q3⟩⟩
  |next=>exact False.elim hq'
  |brk=>exact False.elim hq'
  |cont=>exact False.elim hq'
def oY(M:Mk X.K C f)(F:FnOk X.prog X.w X.K X.mg X.base CX k f fd ps sp)(hr:Room (k+1) X.A)(hg:Gl X x)(hm:X.mg x=some (.ref C))(hb:Binds X.K fd ps ds)(hd:Vals dvs ds)(hx:JX CX X E)
 (ha:PA X (e::es) t) (hdb:(x==("__debug__" : Str))=false:=by decide) (he:starEach (e::es) X.env=(false,eval e X.env)::starEach es X.env:=by rfl) (qW:(backTo pos (starEach es X.env)).any (·.1)=false:=by rfl) :
 PE X (.Call (.Name x p) (e::es) [] pos) (fj C sp dvs E t):=by
 intro qE s σ H Q I h;refine kY (eB I hg hm ?_ hdb);refine PySem.W.callWith_K (h₀:=X.base) I.ok.mod.kin M.kp (thn (ha pos qE s σ H _ I h) λus s1 c9=>?_) he qW;obtain⟨vs,H1,I1,r,q⟩:=c9;refine ⟨I1.kIn,?_⟩;exact oX M F hr hb hd hx I1 r q
end
structure FnScope (N P:qB) (sc:Scope):Prop where
 kind:sc.kind=.function
 co:sc.isCoroutine=false
 gen:sc.isGenerator=false
 nd:N.Nodup
 pre:N.take P.length=P
 par:∀x∈P,sc.names.lookup x=some .local\/sc.names.lookup x=some .cell
 nofree:∀y∈sc.names,y.2 ≠ .free
theorem fu{kindOf:Str->Option NameKind}:∀{binds:List (Str×qY)}{m:qm},(∀v,(x,v)∉binds)->bindL kindOf binds m x=m x
 | [],_,_=>rfl
 |(n,v)::r,m,h=>by
  unfold bindL;rw[fu λw hw=>h w (jE _ hw)];split
  . have:x≠n:=by rintro rfl;exact h v jH
    simp[this]
  . rfl
theorem fv{kindOf:Str->Option NameKind}:∀{binds:List (Str×qY)}{m:qm},(∀v,(x,v)∉binds)->bindC kindOf binds m x=m x
 | [],_,_=>rfl
 |(n,v)::r,m,h=>by
  unfold bindC;rw[fv λw hw=>h w (jE _ hw)];split
  . rfl
  . have:x≠n:=by rintro rfl;exact h v jH
    simp[this]
theorem fz{kindOf:Str->Option NameKind}{x:Str}{v:qY}:∀{P:qB}{vs:qA}{i:Nat}{m:qm},P.Nodup->P[i]?=some x->vs[i]?=some v->kindOf x=some .local ->
 bindL kindOf (P.zip vs) m x=some v
 | [],_,_,_,_,h,_,_=>by simp at h
 |_::_,[],_,_,_,_,h,_=>by simp at h
 |p::P,w::vs,0,m,nd,h1,h2,hk=>by
  simp at h1 h2;subst h1;subst h2;show bindL kindOf ((p,w)::P.zip vs) m p=_;unfold bindL;rw[fu λv hv=>(jP.mp nd).1 (List.of_mem_zip hv).1,ke hk];simp
 |p::P,w::vs,i+1,m,nd,h1,h2,hk=>by
  show bindL kindOf ((p,w)::P.zip vs) m x=_;unfold bindL;exact fz (i:=i) (jP.mp nd).2 (by simpa using h1) (by simpa using h2) hk
theorem fA{kindOf:Str->Option NameKind}{x:Str}{v:qY}:∀{P:qB}{vs:qA}{i:Nat}{m:qm},P.Nodup->P[i]?=some x->vs[i]?=some v->kindOf x≠some .local ->
 bindC kindOf (P.zip vs) m x=some v
 | [],_,_,_,_,h,_,_=>by simp at h
 |_::_,[],_,_,_,_,h,_=>by simp at h
 |p::P,w::vs,0,m,nd,h1,h2,hk=>by
  simp at h1 h2;subst h1;subst h2;show bindC kindOf ((p,w)::P.zip vs) m p=_;unfold bindC;rw[fv λv hv=>(jP.mp nd).1 (List.of_mem_zip hv).1,k9 hk];simp
 |p::P,w::vs,i+1,m,nd,h1,h2,hk=>by
  show bindC kindOf ((p,w)::P.zip vs) m x=_;unfold bindC;exact fA (i:=i) (jP.mp nd).2 (by simpa using h1) (by simpa using h2) hk
def J2(N:qB)(vs:List V):St:=vs.map some++List.replicate (N.length - vs.length) none
def Q7(CX:CXT)(P:xf)(w:xh)(K:qu)(mg:qm)(base:Heap)(N:qB)(qual:Str)(scope:Scope)(f:xb)(cd:qY)(A:Around)(outer:List Env)(s:qZ)(H:Hp)(E:XK):Cx where
 prog:=P
 w:=w
 K:=K
 mg:=mg
 base:=base
 A:=A.deeper (envOfC qual scope s.heap.objs.size f cd)
 N:=N
 s₀:=s
 H₀:=H
 env:=envOfC qual scope s.heap.objs.size f cd
 outer:=outer
 stack:=envOfC qual scope s.heap.objs.size f cd::outer
 ex:=[]
 calm:=true
 fn:=λ_=>true
 pn:=[]
 xe:=λe s'=>wpAny (model P w) (A.deeper (envOfC qual scope s.heap.objs.size f cd)) (leaving (envOfC qual scope s.heap.objs.size f cd) e) (λ_ s''=>CX outer H s E e s'') (λe' s''=>CX outer H s E e' s'') s'
def fB{sc:Scope}{n:Nat}{x:Str}(h:sc.names.lookup x=some .cell):∃c,(cellsFrom n sc.names []).lookup x=some c:=by
 have q:=PySem.W.cellsFrom_some sc.names n [] (.inl h);exact jl.mp q
def oZ{CX:CXT}{P:xf}{w:xh}{K:qu}{mg:qm}{base:Heap}{N ps:qB}{qual:Str}{scope:Scope}{f:xb}{cd:qY}{A:Around}{outer:List Env}{s s1:qZ}{H:Hp}{E:XK}{us:qA}{vs:List V}
 (S:FnScope N ps scope) (hd:A.handled=none) (e0:Env0 P w K mg base A outer s H) (hl:vs.length=ps.length) (r:Vals vs us)
 (x:InCallC s s.heap.objs.size (bindL (envOfC qual scope s.heap.objs.size f cd).kindOf (ps.zip us) λ_=>none) (cellsFrom (s.heap.objs.size+1) scope.names []) (bindC (envOfC qual scope s.heap.objs.size f cd).kindOf (ps.zip us) λ_=>none) s1) :
 Inv (Q7 CX P w K mg base N qual scope f cd A outer s H E) [] (J2 N vs) H s1:=by
 have qW:ps.length<=N.length:=by have:=kN List.length S.pre;rw[jo]at this;omega
 obtain⟨h1,tk,rfl,hk⟩:=x.done;have noA:∀b:xb,b∉(Q7 CX P w K mg base N qual scope f cd A outer s H E).ex:=λb z=>absurd (show b∈([]:List xb) from z) 'j'
 refine⟨⟨e0.mod,S.kind,rfl,rfl,jG _,λy z c h1 h2=>?_,λy hy=>?_,λy c _ h=>?_,λ_=>hd,Around.frames_deeper e0.frames,.inr ⟨rfl,rfl⟩,λb z=>absurd z (noA b),e0.bs,e0.bsz,λb _ _=>noA b,λb z=>absurd z (noA b),e0.funs,e0.frf⟩,
  rfl,e0.bare,Un.kept hk,⟨_,x.toInCall.ns,λi y v h1 h2 h3=>?_⟩,λy c h=>⟨_,x.cell y c h⟩,e0.hok.fresh (jG _),λy c h=>?_,λp hp=>absurd (show p∈([]:qr) from hp) 'j',e0.hok.kept hk,?_⟩
 . exact name_of_addr x.apart (PySem.mem_of_lookup h1) (PySem.mem_of_lookup h2)
 . have hy:scope.names.lookup y=some .cell\/scope.names.lookup y=some .free:=hy;rcases hy with hy | hy
   . exact fB hy
   . exact absurd rfl (S.nofree _ (PySem.mem_of_lookup hy))
 . exact Nat.le_of_lt (x.above y c (PySem.mem_of_lookup h))
 . have hi:i < vs.length:=by
    unfold J2 at h2
    by_cases hi:i<vs.length
    . exact hi
    . rw[List.getElem?_append_right (by simpa using hi)]at h2;rw[List.getElem?_replicate]at h2;split at h2<;>cases h2
   have ha:vs[i]?=some v:=by
    unfold J2 at h2;rw[List.getElem?_append_left (by simpa using hi),jJ]at h2
    cases e:vs[i]? with
    |none=>rw[e]at h2;cases h2
    |some a=>rw[e]at h2;cases h2;rfl
   obtain⟨u,hu,rv⟩:=r.get ha
   have hp:ps[i]?=some y:=by
    rw[<- S.pre,List.getElem?_take_of_lt 'd'];exact h1
   have ndP:ps.Nodup:=by rw[<- S.pre];exact S.nd.sublist (List.take_sublist _ _)
   refine⟨u,rv,?_⟩;rcases S.par y (jq hp) with k|k
   . exact .inl ⟨k,fz ndP hp hu k⟩
   . obtain⟨c,e⟩:=fB (n:=s.heap.objs.size+1) k;refine .inr ⟨.inl k,c,e,?_⟩;have q:=x.cell y c e;rw[fA ndP hp hu (by show scope.names.lookup y≠_;rw[k];decide)]at q;exact q
 . exact e0.hok.fresh (Nat.le_of_lt (x.above y c (PySem.mem_of_lookup h)))
 . unfold J2;show _=N.length;rw[jY,jC,List.length_replicate];omega
def bc{CX:CXT}{P:xf}{w:xh}{K:qu}{mg:qm}{base:Heap}{k:Nat}{f:xb}{name qual:Str}{params:Arguments}{body:List Stmt}{scope:Scope}{dV kV qX pm qF ct oc:qY}{an od:Option xb}
 {osl:Array (qv)}{N ps:qB}{sp:Sp} (lk:K.lookup f=some ⟨oc,od,.func (PySem.W.fnOf name qual params body scope dV kV qX pm an qF ct),osl⟩) (hcd:PySem.W.codeIn K qF qual=true) (S:FnScope N ps scope)
 (len:∀vs H Q E,sp vs H Q E->vs.length=ps.length)
 (qQ:∀(A:Around) (outer:List Env) (s:qZ) (H:Hp) (vs:List V) (Q:VK) (E:XK),Room k (A.deeper (envOfC qual scope s.heap.objs.size f qF))->sp vs H Q E ->
  ∃t,PSs (Q7 CX P w K mg base N qual scope f qF A outer s H E) body t/\t { nx:=λ_ H'=>Q .non H',rt:=Q } (J2 N vs) H) :
 FnOk P w K mg base CX (k+1) f (PySem.W.fnOf name qual params body scope dV kV qX pm an qF ct) ps sp:=by
 refine⟨len,λA outer s H args us vs Q E hr e0 hb r hsp=>?_⟩;have hl:=len _ _ _ _ hsp;have KX:K.In s.heap:=e0.mod.kin.keeps λb o e=>(e0.bs b o e).1;have lim:s.heap.NoLimit:=e0.mod.nolimit.keeps λb o e=>(e0.bs b o e).1
 have hkind:∀y∈ps.zip us,scope.names.lookup y.1=some .local\/(scope.names.lookup y.1=some .cell/\((cellsFrom (s.heap.objs.size+1) scope.names []).lookup y.1).isSome=true):=λ⟨n,v⟩ hy=>by
  rcases S.par n (List.of_mem_zip hy).1 with q|q
  . exact .inl q
  . exact .inr ⟨q,PySem.W.cellsFrom_some _ _ _ (.inl q)⟩
 refine codeAny_call_function hr.depth (KX _ _ lk) rfl S.co S.gen rfl (PySem.W.codeRec_of KX hcd) (hb _ _ _ _ ?_);refine wpAny_newFunctionEnv_cells S.kind hkind λenv he s1 x=>?_;subst he;refine⟨lim.keeps x.toInCall.keep,codeAny_func ?_⟩;obtain⟨t,ht,hq⟩:=qQ A outer s H vs Q E (hr.deeper _) hsp;have I:Inv (Q7 CX P w K mg base N qual scope f qF A outer s H E) [] (J2 N vs) H s1:=oZ S hr.hd e0 hl r x;refine kx (ht [] s1 (J2 N vs) H _ I hq) (λfl s' hs=>?_) λe s' hs=>hs
 have qJ:∀{qI:St}{H':Hp}{v:V}{u:qY},Inv (Q7 CX P w K mg base N qual scope f qF A outer s H E) [] qI H' s'->RelV v u->Q v H'->CE outer P w H s Q u s' :=
  fun {qI H' v u} J rv q=>⟨v,H',J.os,J.bare,J.base,J.hok,rv,q⟩
 cases fl with
 |ret u =>
  obtain⟨v,qI,H',J,rv,q⟩:=hs;exact qJ J rv q
 |next =>
  obtain⟨qI,H',J,q⟩:=hs;exact qJ (v:=V.non) (u:=Value.none) J rfl q
 |brk =>
  obtain⟨_,_,_,q⟩:=hs;exact False.elim q
 |cont =>
  obtain⟨_,_,_,q⟩:=hs;exact False.elim q
section
variable {X:Cx}{x:Str}{p pos:Pos}{e:Expr}{es:List Expr}{t:TA}{id T:String}{r:List V->Hp->VK->Prop}
def tCB(r:List V->Hp->VK->Prop)(t:TA):TE:=λσ H Q=>t σ H λvs H1=>r vs H1 Q
theorem J5(hc:Jv X (.builtin id) r)(hg:Gl X x)(hm:X.mg x=none)(hv:bootBuiltins x=some (.builtin id))(ha:PA X (e::es) t)(hn:x ≠ "__name__" := by decide)(hdb:(x==("__debug__" : Str))=false:=by decide)
 (he:starEach (e::es) X.env=(false,eval e X.env)::starEach es X.env:=by rfl) (qW:(backTo pos (starEach es X.env)).any (·.1)=false:=by rfl):PE X (.Call (.Name x p) (e::es) [] pos) (tCB r t):=by
 intro qE s σ H Q I h;refine kY (Xe I hg hm hv ?_ hn hdb);exact PyProof.Rows.callWith_builtin1 (thn (ha pos qE s σ H _ I h) λus s1 ⟨vs,H1,I1,r1,q1⟩=>hc qE s1 σ H1 vs us Q I1 r1 q1) he qW
def JY(hc:Jv X (.type T) r)(hg:Gl X x)(hm:X.mg x=none)(hv:bootBuiltins x=some (.type T))(ha:PA X (e::es) t)(hn:x ≠ "__name__" := by decide)(hdb:(x==("__debug__" : Str))=false:=by decide)
 (he:starEach (e::es) X.env=(false,eval e X.env)::starEach es X.env:=by rfl) (qW:(backTo pos (starEach es X.env)).any (·.1)=false:=by rfl):PE X (.Call (.Name x p) (e::es) [] pos) (tCB r t):=by
 intro qE s σ H Q I h;refine kY (Xe I hg hm hv ?_ hn hdb);exact PyProof.Rows.callWith_type1 (thn (ha pos qE s σ H _ I h) λus s1 ⟨vs,H1,I1,r1,q1⟩=>hc qE s1 σ H1 vs us Q I1 r1 q1) he qW
end
end L2
namespace HT
open PySem PyProof.Rows
section
variable {prog:xf}{w:xh}{A:Around}{E:qk}{s:qZ}
theorem cat_tup(ht:IsTup s.heap t vs.toArray)(hb:IsTup s.heap b ws.toArray)(hv:vs≠[])
 (h1:ws=[]->Q (.ref t) s) (h2:ws≠[]->Q (.ref s.heap.objs.size) { s with heap:=s.heap.push { cls := .type "tuple",data := .seq (vs++ws).toArray } })
 (hsz:vs.length+ws.length<=sizeLine):wpAny (model prog w) A (binaryOp .Add (.ref t) (.ref b)) Q E s:=by
 obtain⟨⟨cls,dd,data,sl⟩,ho,hc,n,hd⟩:=id ht;obtain⟨⟨cls2,dd2,data2,sl2⟩,ho2,hc2,n2,hd2⟩:=id hb;simp only at hc hd hc2 hd2;subst hc hd hc2 hd2;have e:vs.toArray++ws.toArray=(vs++ws).toArray:=by simp
 by_cases hw:ws=[]
 . exact concat_meets ⟨_,ho,rfl⟩ ⟨_,ho2,rfl⟩ noFill_tuple_add seq_tuple_add PySem.F.slot_tuple_add PySem.F.entry_tuple_add (PySem.F.args_tuple_add_2 _ _)
    (tuple_addW1 t b vs.toArray ws.toArray n n2 dd dd2 sl sl2 (by simpa using hv) (by simp[hw])) ⟨ho,ho2,h1 hw⟩
 . refine concat_meets ⟨_,ho,rfl⟩ ⟨_,ho2,rfl⟩ noFill_tuple_add seq_tuple_add PySem.F.slot_tuple_add PySem.F.entry_tuple_add (PySem.F.args_tuple_add_2 _ _)
    (tuple_addW2 t b vs.toArray ws.toArray n n2 dd dd2 sl sl2 (by simpa using hv) (by simpa using hw) (by rw[jK,jK];exact hsz)) ⟨ho,ho2,?_⟩
   rw[e];exact h2 hw
def sIx(n d:Nat):Option Int->Nat
 |none=>d
 |some v=>if v<0 then(v+(n:Int)).toNat else min v.toNat n
def sIx_none(n d:Nat):sIx n d none=d:=rfl
def sIx_nat(n d k:Nat):sIx n d (some (k:Int))=min k n:=by
 show(if (k:Int)<0 then((k:Int)+(n:Int)).toNat else min (k:Int).toNat n)=min k n;rw[k9 'd',ja]
def p9(n d:Nat)(hd:d<=n)(o:Option Int):sIx n d o<=n:=by
 cases o with
 |none=>exact hd
 |some v =>
  show(if v<0 then(v+(n:Int)).toNat else min v.toNat n)<=n
  by_cases hv:v<0
  . rw[ke hv];omega
  . rw[k9 hv];exact Nat.min_le_right _ _
def fC(v:Int)(n d:Nat):(if v<0 then max (v+(n:Int)) 0 else min v (n:Int))=((sIx n d (some v):Nat):Int):=by
 show(if v<0 then max (v+(n:Int)) 0 else min v (n:Int))=(((if v<0 then(v+(n:Int)).toNat else min v.toNat n):Nat):Int)
 by_cases hv:v<0
 . simp only[ke hv];omega
 . simp only[k9 hv];omega
def ph(lo hi:Option Int)(n:Nat):Builtin.Slice.sliceAdjust lo hi 1 (n:Int)=(((sIx n 0 lo:Nat):Int),((sIx n n hi:Nat):Int)):=by
 have h1:¬((1:Int)<0):=by omega
 unfold Builtin.Slice.sliceAdjust;simp only[h1,if_false];refine Prod.ext ?_ ?_
 . cases lo with
   |none=>rfl
   |some v=>exact fC v n 0
 . cases hi with
   |none=>rfl
   |some v=>exact fC v n n
def pj(i j:Nat):Builtin.Slice.slicePlaces (i:Int) (j:Int) 1=j - i:=by
 unfold Builtin.Slice.slicePlaces;have h1:(1:Int) > 0:=by omega
 simp only[h1,if_true,Int.ediv_one];split<;>omega
def fD(p:IsPart v o)(h:Q o s):wpAny (model prog w) A (Builtin.Slice.slicePartIndex v) Q E s:=by
 cases p with
 |none=>exact slicePart_none h
 |int i t=>exact slicePart_int h
theorem pk{lo hi:Option Int}{n:Nat}{Q:Int×Int×Nat->qZ->Prop}(hs:s.heap.IsSliceOf sl vl vu .none)(pl:IsPart vl lo)(pu:IsPart vu hi)
 (h:Q (((sIx n 0 lo:Nat):Int),1,sIx n n hi - sIx n 0 lo) s):wpAny (model prog w) A (Builtin.Slice.sliceApplied (.ref sl) (pure (n:Int))) Q E s:=by
 obtain⟨os,hos,hcs,hds⟩:=id hs;unfold Builtin.Slice.sliceApplied Builtin.Slice.sliceFields;refine k7 (k7 (ku hos hds (x:=vl) rfl (k7 (ku hos hds (x:=vu) rfl (k7 (ku hos hds (x := .none) rfl (k8 ?_)))))));refine k7 (slicePart_none ?_);show wpAny _ _ (if ((1:Int)==0)=true then _ else _) _ _ s;rw[k9 'f'];refine k7 (fD pl (k7 (fD pu (k7 (k8 ?_)))));show wpAny _ _ (match Builtin.Slice.sliceAdjust lo hi 1 (n:Int) with|(lo,hi)=>pure (lo,(1:Int),Builtin.Slice.slicePlaces lo hi 1)) _ _ s;rw[ph lo hi n];show wpAny _ _ (pure (((sIx n 0 lo:Nat):Int),(1:Int),Builtin.Slice.slicePlaces ((sIx n 0 lo:Nat):Int) ((sIx n n hi:Nat):Int) 1)) _ _ s;rw[pj];exact k8 h
def pA(xs:qz)(i k:Nat):((List.range k).filterMap λ(m:Nat)=>xs[((i:Int)+(m:Int)*1).toNat]?).toArray=((xs.toList.drop i).take k).toArray:=by
 have e:(λ(m:Nat)=>xs[((i:Int)+(m:Int)*1).toNat]?)=λm=>xs[i+m]? := by
  funext m
  have:((i:Int)+(m:Int)*1).toNat=i+m:=by omega
  rw[this]
 rw[e];have:=pick_run xs i k;rw[List.filterMap_map]at this;have e2:((λx=>xs[x]?) ∘ λx=>i+x)=λm=>xs[i+m]? := rfl;rw[e2]at this;rw[this]
theorem getItem_tuple_cut{items:qz}{lo hi:Option Int}{Q:qk}(ht:IsTup s.heap t items)(hs:s.heap.IsSliceOf sl vl vu .none)(pl:IsPart vl lo)(pu:IsPart vu hi)
 (hw:¬(sIx items.size 0 lo=0/\sIx items.size items.size hi=items.size))
 (h:Q (.ref s.heap.objs.size) { s with heap:=s.heap.push { cls := .type "tuple",data := .seq ((items.toList.drop (sIx items.size 0 lo)).take (sIx items.size items.size hi - sIx items.size 0 lo)).toArray } })
 (hsz:items.size<=sizeLine):wpAny (model prog w) A (getItem (.ref t) (.ref sl)) Q E s:=by
 have htake:sizeOk (.seq ((items.toList.drop (sIx items.size 0 lo)).take (sIx items.size items.size hi - sIx items.size 0 lo)).toArray):=by
  show((items.toList.drop (sIx items.size 0 lo)).take (sIx items.size items.size hi - sIx items.size 0 lo)).toArray.size<=sizeLine;rw[jK,jo,j8,jW];omega
 have hj:sIx items.size items.size hi<=items.size:=p9 _ _ (jG _) hi;obtain⟨os,hos,hcs,hds⟩:=id hs;have hTs:s.TypeIs (.ref sl) "slice" := ⟨os,hos,hcs⟩;unfold getItem
 try with_reducible refine kM ?_
 first|refine k7 (k8 ?_)|skip
 refine k7 (wpAny_sequenceKey ht.typeIs 'f' ?_)
 refine k7 (ki (name:=Str.ofString "__getitem__") ht.typeIs PyProof.Rows.slot_tuple_getitem
  (kj PyProof.Rows.slot_tuple_getitem ht.typeIs entry_tuple_getitem ?_ (args_tuple_getitem _ _)))
 show wpAny _ _ (Builtin.Tuple.tupleItemsOf (.ref t) >>= _) _ _ s;refine k7 (tupleItemsOf_ ht ?_);refine k7 (wpAny_typeOf hTs ?_);rw[ke 'f'];refine k7 (pk hs pl pu ?_)
 have hno:¬((((sIx items.size 0 lo:Nat):Int)==0&&(1:Int)==1&&(sIx items.size items.size hi - sIx items.size 0 lo)==items.size)=true):=by
  intro q;rw[jj,jj]at q;have q1:((sIx items.size 0 lo:Nat):Int)=0:=eq_of_beq q.1.1;have q2:sIx items.size items.size hi - sIx items.size 0 lo=items.size:=eq_of_beq q.2;exact hw ⟨by omega,by omega⟩
 show wpAny _ _ (if (((sIx items.size 0 lo:Nat):Int)==0&&(1:Int)==1&&(sIx items.size items.size hi - sIx items.size 0 lo)==items.size)=true then _ else _) _ _ s;rw[k9 hno,pA]
 first
  |exact k7 (m:=Builtin.Tuple.tupleExact _) (kq (k8 ⟨_,rfl,k8 h⟩) htake)
  |exact k7 (m:=Builtin.Tuple.tupleExact _) (kq (k7 (k8 (k8 ⟨_,rfl,k8 h⟩))) htake)
  |exact k7 (k7 (m:=Builtin.Tuple.tupleExact _) (kq (k8 (k8 ⟨_,rfl,k8 h⟩)) htake))
  |exact k7 (k7 (m:=Builtin.Tuple.tupleExact _) (kq (k8 ⟨_,rfl,k8 h⟩) htake))
end
end HT
namespace L2
open PySem PySem.Spec PyProof.Rows
abbrev TO:=St->Hp->(Option Int->Hp->Prop)->Prop
def PO(X:Cx)(e:Option Expr)(t:TO):Prop :=
 ∀(qE:qr) (s:qZ) (σ:St) (H:Hp) (Q:Option Int->Hp->Prop),Inv X qE σ H s->t σ H Q ->
  wpAny (model X.prog X.w) X.A (evalPart e X.env) (λu s'=>∃o H',Inv X qE σ H' s'/\IsPart u o/\Q o H') X.xe s
def pB:TO:=λ_ H Q=>Q none H
def pC(t:TE):TO:=λσ H Q=>t σ H λx H1=>∃i,x=.int i/\Q (some i) H1
section
variable {X:Cx}{e:Expr}{te:TE}{lo hi:Option Expr}{tl th:TO}{pos p2:Pos}
def Y2:PO X none pB:=by
 intro qE s σ H Q I h;rw[evalPart_none];exact k8 ⟨none,H,I,.none,h⟩
def QV(h:PE X e te):PO X (some e) (pC te):=by
 intro qE s σ H Q I hw;rw[evalPart_some];refine thn (h qE s σ H _ I hw) λu s1 c9=>?_;obtain⟨x,H1,I1,r1,q1⟩:=c9;obtain⟨i,rfl,q⟩:=q1;obtain⟨t,rfl⟩:=r1;exact⟨some i,H1,I1,.int i t,q⟩
def SlR(X:Cx)(r:V->Option Int->Option Int->Hp->VK->Prop):Prop :=
 ∀(qE:qr) (s:qZ) (σ:St) (H:Hp) (x:V) (v vl vu:qY) (lo hi:Option Int) (sl:xb) (Q:VK),Inv X qE σ H s->RelV x v->s.heap.IsSliceOf sl vl vu .none->IsPart vl lo->IsPart vu hi->r x lo hi H Q ->
  ∃T id,typeLookup (.type T) "__getitem__" = pure (some (.builtin id))/\s.TypeIs v T/\wpAny (model X.prog X.w) X.A (getItem v (.ref sl)) (EP X qE σ Q) X.xe s
def SlR.or(h:SlR X r)(h':SlR X r'):SlR X (λx lo hi H Q=>r x lo hi H Q\/r' x lo hi H Q):=by
 intro qE s σ H x v vl vu lo hi sl Q I rx hs pl pu q;rcases q with q|q
 . exact h qE s σ H x v vl vu lo hi sl Q I rx hs pl pu q
 . exact h' qE s σ H x v vl vu lo hi sl Q I rx hs pl pu q
def tSl(r:V->Option Int->Option Int->Hp->VK->Prop)(te:TE)(tl th:TO):TE:=λσ H Q=>te σ H λx H1=>tl σ H1 λl H2=>th σ H2 λu H3=>r x l u H3 Q
theorem XC(hr:SlR X r)(he:PE X e te)(hl:PO X lo tl)(hu:PO X hi th):PE X (.Subscript e (.Slice lo hi none p2) pos) (tSl r te tl th):=by
 intro qE s σ H Q I h;refine Subscript_ (thn (he qE s σ H _ I h) λv s1 c9=>?_);obtain⟨x,H1,I1,r1,q1⟩:=c9;refine wpAny_Slice (thn (hl qE s1 σ H1 _ I1 q1) λvl s2 c9=>?_);obtain⟨l,H2,I2,pl,q2⟩:=c9;refine thn (hu qE s2 σ H2 _ I2 q2) λvu s3 yX=>?_;obtain⟨u,H3,I3,pu,q3⟩:=yX;rw[evalPart_none];refine k8 ?_;have I4:Inv X qE σ H3 { s3 with heap:=s3.heap.push { cls := .type "slice",data := .fields #[vl,vu,.none] } }:=I3.kept (t':=s3.toks) λb ob q=>jF _ q;obtain⟨T,id,hT,ht,hg⟩:=hr qE { s3 with heap:=s3.heap.push { cls := .type "slice",data := .fields #[vl,vu,.none] } } σ H3 x v vl vu l u s3.heap.objs.size Q I4 r1 (Heap.IsSliceOf.new ..) pl pu q3;show wpAny (model X.prog X.w) X.A (subscriptTail e (.Slice lo hi none p2) v (.ref s3.heap.objs.size)) (EP X qE σ Q) X.xe { s3 with heap:=s3.heap.push { cls := .type "slice",data := .fields #[vl,vu,.none] } };exact tail_any (ops:=[.ref s3.heap.objs.size,v]) ht hT hg (by with_unfolding_all rfl)
def Jw(xs:List V)(lo hi:Option Int):List V:=(xs.drop (HT.sIx xs.length 0 lo)).take (HT.sIx xs.length xs.length hi - HT.sIx xs.length 0 lo)
def fE(xs:List V)(lo hi:Option Int):(Jw xs lo hi).length<=xs.length:=by
 unfold Jw;rw[jo,j8];omega
def fF(K:qu):V->Option Int->Option Int->Hp->VK->Prop:=λx lo hi H Q=>∃a xs,x=.ref a/\SqT K H a xs /\
 ¬(HT.sIx xs.length 0 lo=0/\HT.sIx xs.length xs.length hi=xs.length)/\∀p,H p=none->Q (.ref p) (upd H p (.tup (Jw xs lo hi)))
def pD:SlR X (fF X.K):=by
 intro qE s σ H x v vl vu lo hi sl Q I rx hs pl pu h;obtain⟨a,xs,rfl,hx,hw,q⟩:=h
 cases rx
 obtain⟨its,r,ht,hz⟩:=I.tuple hx;have qP:its.toArray.size=xs.length:=by rw[jK];exact r.length.symm
 refine⟨"tuple",_,PyProof.Rows.slot_tuple_getitem.lookup,ht.typeIs,?_⟩;refine HT.getItem_tuple_cut ht hs pl pu (by rw[qP];exact hw) ?_ (by rw[qP];exact hz);rw[qP];refine⟨.ref s.heap.objs.size,_,I.laid (t':=s.toks) (o := .tup (Jw xs lo hi)) (λb ob q=>jF _ q) (jG _) ?_,rfl,q _ (I.hok.fresh (jG _))⟩;exact⟨je (fE xs lo hi) hz,_,(r.drop (HT.sIx xs.length 0 lo)).take (HT.sIx xs.length xs.length hi - HT.sIx xs.length 0 lo),IsTup.new _ _⟩
def fG(K:qu):R2:=λx y H Q=>∃a b xs ys,x=.ref a/\y=.ref b/\SqT K H a xs/\SqT K H b ys/\xs≠[]/\xs.length+ys.length<=sizeLine /\
 (ys=[]->Q (.ref a) H)/\(ys≠[]->∀p,H p=none->Q (.ref p) (upd H p (.tup (xs++ys))))
def Vals.nil_iff(r:Vals xs us):us=[]↔xs=[]:=by
 cases r with
 |nil=>simp
 |cons _ _=>simp
def pE:OpR X (binaryOp .Add) (fG X.K):=by
 intro qE s σ H x y v u Q I rx ry h;obtain⟨a,b,xs,ys,rfl,rfl,ha,hb,hx,hz,q1,q2⟩:=h
 cases rx
 cases ry
 obtain⟨its,r1,p1,_⟩:=I.tuple ha;obtain⟨its2,r2,p2,_⟩:=I.tuple hb;refine HT.cat_tup p1 p2 (λz=>hx (r1.nil_iff.mp z)) (λz=>⟨.ref a,H,I,rfl,q1 (r2.nil_iff.mp z)⟩) (λz=>?_) (by rw[<- r1.length,<- r2.length];exact hz);refine⟨.ref s.heap.objs.size,_,I.laid (t':=s.toks) (o := .tup (xs++ys)) (λb ob q=>jF _ q) (jG _) ?_,rfl,q2 (λw=>z (r2.nil_iff.mpr w)) _ (I.hok.fresh (jG _))⟩;exact⟨by rw[jY];exact hz,_,r1.append r2,IsTup.new _ _⟩
end
def ixN(n:Nat)(i:Int):Option Nat:=if 0<=i then(if i<n then some i.toNat else none) else if -(n:Int)<=i then some (i+n).toNat else none
def atI{α:Type}(xs:List α)(i:Int):Option α:=(ixN xs.length i).bind λj=>xs[j]?
def fH(h:ixN n i=some j):seqIndex? i n=some j/\j<n /\ -(n:Int)<=i/\i<n:=by
 unfold ixN at h
 by_cases h0:0<=i
 . rw[ke h0]at h
   by_cases h1:i<n
   . rw[ke h1]at h;have e:i.toNat=j:=Option.some.inj h;exact⟨by rw[seqIndex_of h0 h1,e],by omega,by omega,h1⟩
   . rw[k9 h1]at h;cases h
 . rw[k9 h0]at h
   by_cases h1 : -(n:Int)<=i
   . rw[ke h1]at h;have e:(i+n).toNat=j:=Option.some.inj h;exact⟨by rw[seqIndex_neg 'd' h1,e],by omega,h1,by omega⟩
   . rw[k9 h1]at h;cases h
def bf{α:Type}{xs:List α}{i:Int}{v:α}(h:atI xs i=some v):∃j,seqIndex? i xs.length=some j/\xs[j]?=some v/\j<xs.length /\ -(xs.length:Int)<=i/\i<xs.length:=by
 unfold atI at h
 cases e:ixN xs.length i with
 |none=>rw[e]at h;cases h
 |some j =>
  rw[e]at h;obtain⟨h1,h2,h3,h4⟩:=fH e;exact⟨j,h1,h,h2,h3,h4⟩
def Jx{α:Type}{xs:List α}{j:Nat}{v:α}(h:xs[j]?=some v):atI xs (j:Int)=some v:=by
 have hj:j<xs.length:=(jV.mp h).1
 have e:ixN xs.length (j:Int)=some j:=by
  unfold ixN;rw[ke 'd',ke 'd'];simp
 unfold atI;rw[e];exact h
def pF(b:Expr):Prop:=∀o i,subscripted b false o i=operate [o,i] (getItem o i)
def IxR(X:Cx)(r:R2):Prop :=
 ∀(value qR:Expr) (qE:qr) (s:qZ) (σ:St) (H:Hp) (x y:V) (v u:qY) (Q:VK),Inv X qE σ H s->RelV x v->RelV y u->r x y H Q ->
  subscripted qR false v u=operate [v,u] (getItem v u)->wpAny (model X.prog X.w) X.A (subscriptTail value qR v u) (EP X qE σ Q) X.xe s
def MtR(X:Cx)(id:String)(r:V->List V->Hp->VK->Prop):Prop :=
 ∀(qE:qr) (s:qZ) (σ:St) (H:Hp) (x:V) (xs:List V) (v:qY) (us:qA) (Q:VK),Inv X qE σ H s->RelV x v->Vals xs us->r x xs H Q ->
  wpAny (model X.prog X.w) X.A (call (.builtin id) (v::us)) (EP X qE σ Q) X.xe s
section
variable {X:Cx}{a b:Expr}{ta tb:TE}{pos:Pos}
def IxR.or(h:IxR X r)(h':IxR X r'):IxR X (λx y H Q=>r x y H Q\/r' x y H Q):=by
 intro value qR qE s σ H x y v u Q I rx ry q hs;rcases q with q|q
 . exact h value qR qE s σ H x y v u Q I rx ry q hs
 . exact h' value qR qE s σ H x y v u Q I rx ry q hs
def xD(hr:IxR X r)(ha:PE X a ta)(hb:PE X b tb)(hs:pF b):PE X (.Subscript a b pos) (tOp r ta tb):=by
 intro qE s σ H Q I h;exact Subscript_ (aX ha hb I h λv u s2 x y H2 I2 rx ry q=>hr a b qE s2 σ H2 x y v u Q I2 rx ry q (hs _ _))
def fI(K:qu):R2:=λx y H Q=>∃p xs i v,x=.ref p/\y=.int i/\SqL K H p xs/\atI xs i=some v/\Q v H
def fJ(K:qu):R2:=λx y H Q=>∃p xs i v,x=.ref p/\y=.int i/\SqT K H p xs/\atI xs i=some v/\Q v H
def fK:R2:=λx y H Q=>∃z i c,x=.str z/\y=.int i/\z.length<=sizeLine/\atI z.cps.toList i=some c/\Q (.str ⟨#[c]⟩) H
def pG:IxR X (fI X.K):=by
 intro value qR qE s σ H x y v u Q I rx ry h hs;obtain⟨p,xs,i,z,rfl,rfl,hq,he,q⟩:=h
 cases rx
 obtain⟨t,rfl⟩:=ry;obtain⟨its,r,pl,hz⟩:=I.list hq;obtain⟨j,h1,h2,h3,h4,h5⟩:=bf he;obtain⟨w,ew,rw'⟩:=r.get h2;have hl:=r.length;have hn:=Z9;have qJ:EP X qE σ Q w s:=⟨z,H,I,rw',q⟩
 by_cases h0:0<=i
 . have hj:i.toNat=j:=by
    rw[seqIndex_of h0 h5]at h1;exact Option.some.inj h1
   exact item_listR pl.isList h0 'd' (by rw[hj];simpa using ew) qJ hs
 . have hj:(i + (its.toArray.size:Int)).toNat=j:=by
    rw[seqIndex_neg 'd' h4]at h1;rw[jK,<- hl];exact Option.some.inj h1
   exact subscriptTail_builtinR (x:=w) pl.isList.typeIs slot_list_getitem.lookup
    (wpAny_getItem_list_neg (Q:=λr s'=>r=w/\EP X qE σ Q r s') pl.isList 'd' (by rw[jK]<;>omega) 'd' (by rw[hj];simpa using ew) ⟨rfl,qJ⟩) hs
def pH:IxR X (fJ X.K):=by
 intro value qR qE s σ H x y v u Q I rx ry h hs;obtain⟨p,xs,i,z,rfl,rfl,hq,he,q⟩:=h
 cases rx
 obtain⟨t,rfl⟩:=ry;obtain⟨its,r,pl,hz⟩:=I.tuple hq;obtain⟨j,h1,h2,h3,h4,h5⟩:=bf he;obtain⟨w,ew,rw'⟩:=r.get h2;have hl:=r.length;have hn:=Z9;have qJ:EP X qE σ Q w s:=⟨z,H,I,rw',q⟩
 exact subscriptTail_builtinR (x:=w) pl.typeIs slot_tuple_getitem.lookup
  (getItem_tuple (j:=j) (Q:=λr s'=>r=w/\EP X qE σ Q r s') pl 'd' 'd' (by rw[jK,<- hl];exact h1) (by simpa using ew) ⟨rfl,qJ⟩) hs
def pI:IxR X fK:=by
 intro value qR qE s σ H x y v u Q I rx ry h hs;obtain⟨z,i,c,rfl,rfl,hz,he,q⟩:=h;obtain⟨t,rfl⟩:=rx;obtain⟨t',rfl⟩:=ry;obtain⟨j,h1,h2,h3,h4,h5⟩:=bf he;have hl:z.cps.toList.length=z.length:=by simp[Str.length]
 rw[hl]at h1 h4 h5;have hn:=Z9
 exact tail_any (typeIs_str s z t) slot_str_getitem.lookup (getItem_str (c:=c) (by
  have e1:decide (i < -(2 ^ 63:Int))=false:=kg 'd';have e2:decide (i ≥ 2 ^ 63)=false:=kg 'd';rw[e1,e2,Bool.or_false]) (by rw[h1];simpa using h2) ⟨.str ⟨#[c]⟩,H,I.tok _,⟨_,rfl⟩,q⟩) hs
def rIx(K:qu):R2:=λx y H Q=>fI K x y H Q\/fJ K x y H Q\/fK x y H Q
def pJ:IxR X (rIx X.K):=pG.or (pH.or pI)
def pK(its:qA)(n j:Nat)(u:qY):Obj.mapSeq (·.setIfInBounds j u) { cls := .type "list",data := .seq its.toArray n }={ cls := .type "list",data := .seq (its.set j u).toArray n }:=by
 simp[Obj.mapSeq]
theorem Inv.lst{qE:qr}{σ:St}{H:Hp}{s:qZ}{p:xb}{xs:List V}(I:Inv X qE σ H s)(h:H p=some (.lst xs)) :
 ∃(its:qA) (n:Nat),Vals xs its/\s.heap.get? p=some { cls := .type "list",data := .seq its.toArray n }/\xs.length<=sizeLine:=by
 obtain⟨z,its,n,r,e⟩:=I.hok p _ h;exact⟨its,n,r,e,z⟩
def Inv.lstUpd{qE:qr}{σ:St}{H:Hp}{s:qZ}{p:xb}{xs ys:List V}{its its':qA}{n n':Nat}{f:Obj->Obj}(I:Inv X qE σ H s)(h:H p=some (.lst xs))
 (ho:s.heap.get? p=some { cls := .type "list",data := .seq its.toArray n }) (hf:f { cls := .type "list",data := .seq its.toArray n }={ cls := .type "list",data := .seq its'.toArray n' }) (r:Vals ys its') (hz:ys.length<=sizeLine) (t:Nat) :
 Inv X qE σ (upd H p (.lst ys)) { s with heap:=s.heap.update p f,toks:=t }:=by
 have e:(s.heap.update p f).get? p=some { cls := .type "list",data := .seq its'.toArray n' }:=by
  rw[jh f ho (by rw[hf]<;>rfl),hf]
 refine I.write (x:=p) (e:=p) (by rw[h];trivial) (.inl rfl) (λb u hb q=>(jm _ _ (Ne.symm hb)).trans q) ⟨_,e⟩ ?_;exact⟨hz,its',n',r,e⟩
def pL:V->V->V->Hp->(Hp->Prop)->Prop:=λo i v H Q=>∃p xs k j,o=.ref p/\i=.int k/\H p=some (.lst xs)/\ixN xs.length k=some j/\Q (upd H p (.lst (xs.set j v)))
def pM:eF X pL:=by
 intro qE s σ H o i v ov iv u Q I ro ri rv h;obtain⟨p,xs,k,j,rfl,rfl,hp,hj,q⟩:=h
 cases ro
 obtain⟨t,rfl⟩:=ri;obtain⟨its,n,r,ho,hz⟩:=I.lst hp;obtain⟨h1,h2,h3,h4⟩:=fH hj;have hl:=r.length;have hn:=Z9
 have I':Inv X qE σ (upd H p (.lst (xs.set j v))) { s with heap:=s.heap.update p (Obj.mapSeq (·.setIfInBounds j u)) } :=
  I.lstUpd hp ho (pK its n j u) (r.set rv j) (by rw[List.length_set];exact hz) s.toks
 by_cases h0:0<=k
 . have hk:k.toNat=j:=by
    rw[seqIndex_of h0 h4]at h1;exact Option.some.inj h1
   exact PySem.W.ki_setAt ho h0 'd' (by rw[jK,<- hl];exact h4) (by rw[hk];exact⟨_,I',q⟩)
 . have hk:(k + (its.toArray.size:Int)).toNat=j:=by
    rw[seqIndex_neg 'd' h3]at h1;rw[jK,<- hl];exact Option.some.inj h1
   exact PySem.W.ki_setBack ho 'd' (by rw[jK,<- hl];exact h3) 'd' (by rw[hk];exact⟨_,I',q⟩)
def pN(lo hi:Option Int)(n:Nat):(sliceBounds lo hi none n).1=((HT.sIx n 0 lo:Nat):Int)/\(sliceBounds lo hi none n).2.1=((HT.sIx n n hi:Nat):Int)/\(sliceBounds lo hi none n).2.2=1:=by
 refine⟨?_,?_,rfl⟩
 . cases lo with
   |none=>simp[sliceBounds,HT.sIx]
   |some i =>
    simp only[sliceBounds,HT.sIx,Option.getD_none,show(1:Int) > 0 by decide,if_true]
    by_cases h:i<0
    . simp only[h,if_true]<;>omega
    . simp only[h,if_false]<;>omega
 . cases hi with
   |none=>simp[sliceBounds,HT.sIx]
   |some i =>
    simp only[sliceBounds,HT.sIx,Option.getD_none,show(1:Int) > 0 by decide,if_true]
    by_cases h:i<0
    . simp only[h,if_true]<;>omega
    . simp only[h,if_false]<;>omega
def pO(its:qA)(lo hi:Option Int):slicePick its.toArray lo hi none=((its.drop (HT.sIx its.length 0 lo)).take (HT.sIx its.length its.length hi - HT.sIx its.length 0 lo)).toArray:=by
 obtain⟨h1,h2,h3⟩:=pN lo hi its.toArray.size;unfold slicePick;rw[h1,h2,h3];simp only[sliceRange_one,pick_run,jK]<;>rfl
def fL(K:qu):V->Option Int->Option Int->Hp->VK->Prop:=λx lo hi H Q=>∃a xs,x=.ref a/\SqL K H a xs/\∀p,H p=none->Q (.ref p) (upd H p (.lst (Jw xs lo hi)))
def pP:SlR X (fL X.K):=by
 intro qE s σ H x v vl vu lo hi sl Q I rx hs pl pu h;obtain⟨a,xs,rfl,hx,q⟩:=h
 cases rx
 obtain⟨its,r,ht,hz⟩:=I.list hx;have qP:=r.length;refine⟨"list",_,slot_list_getitem.lookup,ht.isList.typeIs,?_⟩;refine wpAny_getItem_list_slice ht.isList hs pl pu .none 'j' ?_ (by rw[jK]<;>omega);rw[pO,<- qP];refine⟨.ref s.heap.objs.size,_,I.laid (t':=s.toks) (o := .lst (Jw xs lo hi)) (λb ob q=>jF _ q) (jG _) ?_,rfl,q _ (I.hok.fresh (jG _))⟩;exact⟨je (fE xs lo hi) hz,_,0,(r.drop (HT.sIx xs.length 0 lo)).take (HT.sIx xs.length xs.length hi - HT.sIx xs.length 0 lo),jO _ rfl⟩
def QJ:V->Bool
 |.non=>true
 |.bl _=>true
 |.int _=>true
 |.str _=>true
 |_=>false
def eqV:V->V->Bool
 |.non,.non=>true
 |.bl a,.bl b=>a==b
 |.bl a,.int b=>(if a then 1 else 0)==b
 |.int a,.bl b=>a==(if b then 1 else 0)
 |.int a,.int b=>a==b
 |.str a,.str b=>a==b
 |_,_=>false
def pQ(ry:RelV y u)(rx:RelV x v)(fy:QJ y=true)(fx:QJ x=true):SeqAt.EqAt A s u v (eqV y x):=by
 cases y with
 |non =>
  cases ry
  cases x with
  |non=>cases rx;exact SeqAt.EqAt.same _
  |bl b=>cases rx;exact SeqAt.EqAt.none_bool b
  |int b=>obtain⟨t,rfl⟩:=rx;exact SeqAt.EqAt.none_int b t
  |str b=>obtain⟨t,rfl⟩:=rx;exact SeqAt.EqAt.none_str b t
  |_=>exact absurd (show false=true from fx) jQ
 |bl a =>
  cases ry
  cases x with
  |non=>cases rx;exact SeqAt.EqAt.bool_none a
  |bl b=>cases rx;exact SeqAt.EqAt.bool_bool a b
  |int b=>obtain⟨t,rfl⟩:=rx;exact SeqAt.EqAt.bool_int a b t
  |str b=>obtain⟨t,rfl⟩:=rx;exact SeqAt.EqAt.bool_str a b t
  |_=>exact absurd (show false=true from fx) jQ
 |int a =>
  obtain⟨t',rfl⟩:=ry
  cases x with
  |non=>cases rx;exact SeqAt.EqAt.int_none a t'
  |bl b=>cases rx;exact SeqAt.EqAt.int_bool a t' b
  |int b=>obtain⟨t,rfl⟩:=rx;exact SeqAt.EqAt.int_int a t' b t
  |str b=>obtain⟨t,rfl⟩:=rx;exact SeqAt.EqAt.int_str a t' b t
  |_=>exact absurd (show false=true from fx) jQ
 |str a =>
  obtain⟨t',rfl⟩:=ry
  cases x with
  |non=>cases rx;exact SeqAt.EqAt.str_none a t'
  |bl b=>cases rx;exact SeqAt.EqAt.str_bool a t' b
  |int b=>obtain⟨t,rfl⟩:=rx;exact SeqAt.EqAt.str_int a t' b t
  |str b=>obtain⟨t,rfl⟩:=rx;exact SeqAt.EqAt.str_str a t' b t
  |_=>exact absurd (show false=true from fx) jQ
 |_=>exact absurd (show false=true from fy) jQ
def eqU(x:V)(u:qY):Bool:=match u with
 |.none=>eqV .non x
 |.bool b=>eqV (.bl b) x
 |.int i _=>eqV (.int i) x
 |.str z _=>eqV (.str z) x
 |_=>false
def fN(r:RelV y u)(f:QJ y=true):eqU x u=eqV y x:=by
 cases y with
 |non=>cases r;rfl
 |bl b=>cases r;rfl
 |int i=>obtain⟨t,rfl⟩:=r;rfl
 |str z=>obtain⟨t,rfl⟩:=r;rfl
 |_=>exact absurd (show false=true from f) jQ
theorem Zc:∀{xs:List V}{us:qA},Vals xs us->xs.all QJ=true->us.any (eqU x)=xs.any λy=>eqV y x
 |_,_,.nil,_=>rfl
 |y::xs,u::us,.cons r t,f=>by
  rw[List.all_cons,jj]at f;rw[List.any_cons,List.any_cons,fN r f.1,Zc t f.2]
theorem Zd{A:Around}{s:qZ}{x:V}{v:qY}(rx:RelV x v)(fx:QJ x=true):∀{xs:List V}{us:qA},Vals xs us->xs.all QJ=true->∀u∈us,SeqAt.EqAt A s u v (eqU x u)
 |_,_,.nil,_=>λu hu=>by cases hu
 |y::xs,u::us,.cons r t,f=>λu' hu=>by
  rw[List.all_cons,jj]at f;rcases jB.mp hu with rfl|hu
  . rw[fN r f.1];exact pQ r rx f.1 fx
  . exact Zd rx fx t f.2 u' hu
def inV(x:V)(xs:List V):Bool:=xs.any λy=>eqV y x
def rIn(K:qu)(neg:Bool):R2:=λx y H Q=>∃p xs,y=.ref p/\(SqL K H p xs\/SqT K H p xs)/\QJ x=true/\xs.all QJ=true/\Q (.bl (if neg then !inV x xs else inV x xs)) H
def pR:OpR X (compareOp .In) (rIn X.K false):=by
 intro qE s σ H x y v u Q I rx ry h;obtain⟨p,xs,rfl,hq,fx,fs,q⟩:=h
 cases ry
 rcases hq with hq|hq
 . obtain⟨its,r,pl,hz⟩:=I.list hq;refine SeqAt.in_listAt (eqU x) pl.isList (λw hw=>Zd rx fx r fs w (by simpa using hw)) ⟨.bl _,H,I,rfl,?_⟩;rw[show its.toArray.any (eqU x)=its.any (eqU x) by simp,Zc r fs];exact q
 . obtain⟨its,r,pl,hz⟩:=I.tuple hq;refine SeqAt.in_tupleAt (eqU x) pl (λw hw=>Zd rx fx r fs w (by simpa using hw)) ⟨.bl _,H,I,rfl,?_⟩;rw[show its.toArray.any (eqU x)=its.any (eqU x) by simp,Zc r fs];exact q
def pU:OpR X (compareOp .NotIn) (rIn X.K true):=by
 intro qE s σ H x y v u Q I rx ry h;obtain⟨p,xs,rfl,hq,fx,fs,q⟩:=h
 cases ry
 rcases hq with hq|hq
 . obtain⟨its,r,pl,hz⟩:=I.list hq;refine SeqAt.notIn_listAt (eqU x) pl.isList (λw hw=>Zd rx fx r fs w (by simpa using hw)) ⟨.bl _,H,I,rfl,?_⟩;rw[show its.toArray.any (eqU x)=its.any (eqU x) by simp,Zc r fs];exact q
 . obtain⟨its,r,pl,hz⟩:=I.tuple hq;refine SeqAt.notIn_tupleAt (eqU x) pl (λw hw=>Zd rx fx r fs w (by simpa using hw)) ⟨.bl _,H,I,rfl,?_⟩;rw[show its.toArray.any (eqU x)=its.any (eqU x) by simp,Zc r fs];exact q
def pV:Jv X (.type "list") (λxs H Q=>∃p ys,xs=[.ref p]/\(SqL X.K H p ys\/SqT X.K H p ys)/\∀l,H l=none->Q (.ref l) (upd H l (.lst ys))):=by
 intro qE s σ H xs us Q I r h;obtain⟨p,ys,rfl,hq,q⟩:=h;obtain⟨u,rfl,rx⟩:=QU r
 cases rx
 have qJ:∀(its:qA),Vals ys its->ys.length<=sizeLine->∀(h':Heap) (c':Nat),(∀b o',s.heap.get? b=some o'->h'.get? b=some o') ->
  h'.get? s.heap.objs.size=some { cls := .type "list",dict:=none,data := .seq its.toArray c',slots:=#[] }->EP X qE σ Q (.ref s.heap.objs.size) { s with heap:=h' }:=λits r' hz h' c' kp e =>
  ⟨.ref s.heap.objs.size,_,I.laid (t':=s.toks) kp (jG _) (show ObjOk X.prog X.w _ h' _ (.lst ys) from⟨hz,its,c',r',e⟩),rfl,q _ (I.hok.fresh (jG _))⟩
 rcases hq with hq|hq
 . obtain⟨its,r',pl,hz⟩:=I.list hq;have qP:=r'.length;obtain⟨o,ho,hc,n,hd⟩:=pl.isList;exact call_list_seq p (.inl rfl) ho hc hd (λh' c' kp e=>qJ its r' hz h' c' kp e) (by simp only[jK]<;>omega)
 . obtain⟨its,r',pl,hz⟩:=I.tuple hq;have qP:=r'.length;obtain⟨o,ho,hc,n,hd⟩:=pl;exact call_list_seq p (.inr rfl) ho hc hd (λh' c' kp e=>qJ its r' hz h' c' kp e) (by simp only[jK]<;>omega)
def pW:Jv X (.type "tuple") (λxs H Q=>∃p ys,xs=[.ref p]/\((SqL X.K H p ys/\∀l,H l=none->Q (.ref l) (upd H l (.tup ys)))\/(SqT X.K H p ys/\Q (.ref p) H))):=by
 intro qE s σ H xs us Q I r h;obtain⟨p,ys,rfl,h⟩:=h;obtain⟨u,rfl,rx⟩:=QU r
 cases rx
 rcases h with ⟨hq,q⟩|⟨hq,q⟩
 . obtain⟨its,r',pl,hz⟩:=I.list hq;have qP:=r'.length;refine call_tuple_list pl.isList (λh' kp=>?_) (by simp only[jK]<;>omega);have I1:Inv X qE σ H { s with heap:=h' }:=I.kept (t':=s.toks) kp
   have I2:Inv X qE σ (upd H h'.objs.size (.tup ys)) { s with heap:=h'.push { cls := .type "tuple",data := .seq its.toArray } } :=
    I1.laid (t':=s.toks) (λb o e=>jF _ e) (jG _) (show ObjOk X.prog X.w _ _ _ (.tup ys) from⟨hz,its,r',IsTup.new _ _⟩)
   exact⟨.ref h'.objs.size,_,I2,rfl,q _ (I1.hok.fresh (jG _))⟩
 . obtain⟨its,r',pl,hz⟩:=I.tuple hq;exact call_tuple_same pl ⟨.ref p,H,I,rfl,q⟩
def tyV(K:qu)(T:String)(x:V)(H:Hp):Prop:=match x with
 |.str _=>T = "str"
 |.int _=>T = "int"
 |.ref p=>(T = "list" /\ ∃xs,SqL K H p xs)\/(T = "tuple" /\ ∃o,K.lookup p=some o/\o.cls=.type "tuple" /\ o.dict=none) \/
  (T = "dict" /\ ((∃kvs,H p=some (.dK kvs))\/∃kvs,H p=some (.dT kvs)))\/(T = "set" /\ ∃S n,H p=some (.set S n))
 |_=>False
def fO{qE:qr}{σ:St}{H:Hp}{s:qZ}{T:String}{x:V}{v:qY}(I:Inv X qE σ H s)(r:RelV x v)(ty:tyV X.K T x H) :
 s.TypeIs v T/\∀a,v=.ref a->∃ob,s.heap.get? a=some ob/\ob.dict=none:=by
 cases x with
 |str z =>
  obtain⟨t,rfl⟩:=r
  cases (show T = "str" from ty)
  exact⟨typeIs_str s z t,λ_ e=>nomatch e⟩
 |int i =>
  obtain⟨t,rfl⟩:=r
  cases (show T = "int" from ty)
  exact⟨typeIs_int s i t,λ_ e=>nomatch e⟩
 |ref p =>
  cases r
  rcases ty with ⟨rfl,xs,hq⟩|⟨rfl,o,hk,hc,hd⟩|⟨rfl,hk⟩|⟨rfl,S,n,hk⟩
  . obtain⟨its,_,pl,_⟩:=I.list hq;refine⟨pl.isList.typeIs,λa e=>?_⟩
    cases e
    obtain⟨o,n,e,c,hd,_⟩:=pl;exact⟨o,e,hd⟩
  . refine⟨⟨o,I.kIn p o hk,hc⟩,λa e=>?_⟩
    cases e
    exact⟨o,I.kIn _ o hk,hd⟩
  . have z:∃o,s.heap.get? p=some o/\o.ExactDict:=by
     rcases hk with ⟨kvs,hk⟩|⟨kvs,hk⟩
     . obtain⟨_,_,_,_,o,_,_,e,ex,_⟩:=I.hok p _ hk;exact⟨o,e,ex⟩
     . obtain⟨_,_,_,_,o,_,_,e,ex,_⟩:=I.hok p _ hk;exact⟨o,e,ex⟩
    obtain⟨o,e,ex⟩:=z;refine⟨⟨o,e,ex.1⟩,λa e2=>?_⟩
    cases e2
    exact⟨o,e,ex.2.1⟩
  . obtain⟨o,_,_,_,e,ex,_⟩:=I.hok p _ hk;refine⟨⟨o,e,ex.1⟩,λa e2=>?_⟩
    cases e2
    exact⟨o,e,ex.2.1⟩
 |_=>exact False.elim ty
def pX(K:qu)(T:String)(r:V->List V->Hp->VK->Prop)(to:TE):TE:=λσ H Q=>to σ H λx H1=>tyV K T x H1/\r x [] H1 Q
def tBM(K:qu)(T:String)(r:V->List V->Hp->VK->Prop)(to:TE)(t:TA):TE:=λσ H Q=>to σ H λx H1=>tyV K T x H1/\t σ H1 λxs H2=>r x xs H2 Q
variable {o e:Expr}{es:List Expr}{to:TE}{t:TA}{name:Str}{apos cpos:Pos}{T id:String}{r:V->List V->Hp->VK->Prop}
theorem fP(pa:PlainAttrs T)(slot:Slot T name id)(hty:typeOf (.builtin id)=pure (.type "method_descriptor"))(hm:MtR X id r)(ho:PE X o to)
 (hbase:attributeBase o name X.env (eval o X.env)=eval o X.env:=by rfl) (hline:(apos.endLine==cpos.line)=true:=by rfl):PE X (.Call (.Attribute o name apos) [] [] cpos) (pX X.K T r to):=by
 intro qE s σ H Q I h;refine wpAny_Call_method0_late hbase hline (thn (ho qE s σ H _ I h) λv s1 c9=>?_);obtain⟨x,H1,I1,r1,ty,q1⟩:=c9;obtain⟨h1,h2⟩:=fO I1 r1 ty;exact⟨T,id,pa,slot,hty,h1,h2,Calls.callWith_builtin rfl (PySem.evalArgs_none (hm qE s1 σ H1 x [] v [] Q I1 r1 .nil q1))⟩
theorem JD(pa:PlainAttrs T)(slot:Slot T name id)(hty:typeOf (.builtin id)=pure (.type "method_descriptor"))(hm:MtR X id r)(ho:PE X o to)(ha:PA X (e::es) t)
 (hbase:attributeBase o name X.env (eval o X.env)=eval o X.env:=by rfl)
 (hfew:((backTo cpos (starEach (e::es) X.env)).all (λx => !x.1)&&(backToKw cpos (keywordEach [] X.env)).all (λx=>x.1.isSome)
  && decide ((e::es).length+([]:List Keyword).length+(if ([]:List Keyword).isEmpty then 0 else 1)<30))=true:=by rfl)
 (hline:(apos.endLine==cpos.line)=true:=by rfl) (hs:starEach (e::es) X.env=(false,eval e X.env)::starEach es X.env:=by rfl) (hplain:(backTo cpos (starEach es X.env)).any (·.1)=false:=by rfl) :
 PE X (.Call (.Attribute o name apos) (e::es) [] cpos) (tBM X.K T r to t):=by
 intro qE s σ H Q I h;refine wpAny_Call_method_late hbase hfew hline rfl (thn (ho qE s σ H _ I h) λv s1 c9=>?_);obtain⟨x,H1,I1,r1,ty,q1⟩:=c9;obtain⟨h1,h2⟩:=fO I1 r1 ty;refine⟨T,id,pa,slot,hty,h1,h2,?_⟩;have hA:=ha cpos qE s1 σ H1 _ I1 q1;rw[hs]at hA ⊢;refine Calls.callWith_builtin (by show(false||(backTo cpos (starEach es X.env)).any (·.1))=false;rw[hplain]<;>rfl) (Calls.evalArgs_plain ?_);exact thn hA λus s2 ⟨vs,H2,I2,r2,q2⟩=>hm qE s2 σ H2 x vs v us Q I2 r1 r2 q2
end
def MtM(X:Cx)(id:String)(r:V->List V->Hp->VK->Prop):Prop :=
 ∀(qE:qr) (s:qZ) (σ:St) (H:Hp) (x:V) (xs:List V) (v:qY) (us:qA) (Q:VK),Inv X qE σ H s->RelV x v->Vals xs us->r x xs H Q ->
  wpAny (model X.prog X.w) X.A (call (.builtin id) (v::us)) (EP X qE σ Q) X.xe s
theorem Vals.one:∀{x:V}{us:qA},Vals [x] us->∃u,us=[u]/\RelV x u
 |_,_,.cons r .nil=>⟨_,rfl,r⟩
theorem Vals.zero:∀{us:qA},Vals [] us->us=[]
 |_,.nil=>rfl
theorem Vals.dropLast(h:Vals xs us):Vals xs.dropLast us.dropLast:=by
 induction h with
 |nil=>exact .nil
 |cons r t ih =>
  cases t with
  |nil=>exact .nil
  |cons q t'=>exact .cons r ih
def pY{α:Type}(l:List α):l.eraseIdx (l.length - 1)=l.dropLast:=by
 induction l with
 |nil=>rfl
 |cons a r ih =>
  cases r with
  |nil=>rfl
  |cons b r =>
   have e:(a::b::r).length - 1=((b::r).length - 1)+1:=by
    have h1:(a::b::r).length=r.length+2:=rfl;have h2:(b::r).length=r.length+1:=rfl;omega
   rw[e,List.eraseIdx_cons_succ,ih]
   all_goals rfl
section
variable {X:Cx}{qE:qr}{σ:St}{H:Hp}{s:qZ}{l b:xb}{xs ys zs:List V}
def Inv.lset{its its':qA}{n:Nat}{f:qz->qz}{t':Nat}(I:Inv X qE σ H s)(hH:H l=some (.lst xs))
 (e:s.heap.get? l=some { cls := .type "list",data := .seq its.toArray n }) (hf:f its.toArray=its'.toArray) (hv:Vals ys its') (hz:ys.length<=sizeLine) :
 Inv X qE σ (upd H l (.lst ys)) { s with heap:=s.heap.update l (Obj.mapSeq f),toks:=t' }:=by
 have q:=PySem.IsL.update e f;rw[hf]at q;refine I.write (x:=l) (e:=l) (by rw[hH];exact trivial) (.inl rfl) (λb' u hb hu=>(jm s.heap (Obj.mapSeq f) (Ne.symm hb)).trans hu) ⟨_,q⟩ ?_;exact⟨hz,its',_,hv,q⟩
def Inv.lnew(I:Inv X qE σ H s)(hv:Vals ys its)(hz:ys.length<=sizeLine) :
 Inv X qE σ (upd H s.heap.objs.size (.lst ys)) { s with heap:=s.heap.push { cls := .type "list",data := .seq its.toArray },toks:=t' } :=
 I.laid (λ_ _ q=>jF _ q) (jG _) ⟨hz,its,0,hv,jO _ rfl⟩
theorem Inv.fresh(I:Inv X qE σ H s):H s.heap.objs.size=none:=I.hok.fresh (jG _)
def Inv.lstM(I:Inv X qE σ H s)(hH:H l=some (.lst xs)):xs.length<=sizeLine/\∃(its:qA) (n:Nat),Vals xs its/\xs.length=its.length/\s.heap.get? l=some { cls := .type "list",data := .seq its.toArray n }:=by
 obtain⟨z,its,n,r,e⟩:=I.hok l _ hH;exact⟨z,its,n,r,r.length,e⟩
end
section
variable {X:Cx}
def pZ:V->List V->Hp->VK->Prop:=λx vs H Q=>∃l xs y,x=.ref l/\vs=[y]/\H l=some (.lst xs)/\xs.length<sizeLine/\Q .non (upd H l (.lst (xs++[y])))
def Jy:MtM X "list.append" pZ:=by
 intro qE s σ H x vs v us Q I rx rv h;obtain⟨l,xs,y,rfl,rfl,hH,hz,q⟩:=h
 cases rx
 obtain⟨u,rfl,ru⟩:=rv.one;obtain⟨z,its,n,r,hl,e⟩:=I.lstM hH;refine call_meets F.slot_list_append ⟨_,e,rfl⟩ F.entry_list_append (F.args_list_append_2 _ _) (PySem.list_append l its.toArray n u (by rw[jK];omega)) ⟨e,?_⟩;refine⟨.non,_,I.lset (its':=its++[u]) hH e 'j' (r.append (.cons ru .nil)) ?_,rfl,q⟩;rw[jY,List.length_singleton];omega
def r6:V->List V->Hp->VK->Prop:=λx vs H Q=>∃l xs y,x=.ref l/\vs=[]/\H l=some (.lst xs)/\xs[xs.length - 1]?=some y/\Q y (upd H l (.lst xs.dropLast))
def r8:MtM X "list.pop" r6:=by
 intro qE s σ H x vs v us Q I rx rv h;obtain⟨l,xs,y,rfl,rfl,hH,hy,q⟩:=h
 cases rx
 have hus:=rv.zero;subst hus;obtain⟨z,its,n,r,hl,e⟩:=I.lstM hH;obtain⟨u,hu,ru⟩:=r.get hy
 have hy':its.toArray[its.toArray.size - 1]?=some u:=by
  show its.toArray[its.length - 1]?=some u;rw[<- kG,<- hl];exact hu
 refine call_meets F.slot_list_pop ⟨_,e,rfl⟩ F.entry_list_pop (F.args_list_pop_1 _) (MeetsSeq.list_pop_last l its.toArray n u hy' (by rw[jK];omega)) ⟨e,?_⟩;refine⟨y,_,I.lset (its':=its.dropLast) hH e ?_ r.dropLast ?_,ru,q⟩
 . show its.toArray.eraseIdxIfInBounds (its.toArray.size - 1)=its.dropLast.toArray;rw[jK,List.eraseIdxIfInBounds_toArray,pY]
 . rw[List.length_dropLast];omega
def r9:V->List V->Hp->VK->Prop:=λx vs H Q=>∃l xs,x=.ref l/\vs=[]/\H l=some (.lst xs)/\Q .non (upd H l (.lst []))
def rf:MtM X "list.clear" r9:=by
 intro qE s σ H x vs v us Q I rx rv h;obtain⟨l,xs,rfl,rfl,hH,q⟩:=h
 cases rx
 have hus:=rv.zero;subst hus;obtain⟨z,its,n,r,hl,e⟩:=I.lstM hH;refine call_meets F.slot_list_clear ⟨_,e,rfl⟩ F.entry_list_clear (F.args_list_clear_1 _) (AutoSeq1.list_clear_list_0 l its.toArray n (by rw[jK];omega)) ⟨e,?_⟩;exact⟨.non,_,I.lset (its':=[]) (ys:=[]) hH e rfl .nil (jS _),rfl,q⟩
def rg:R2:=λx y H Q=>∃l b xs zs,x=.ref l/\y=.ref b/\H l=some (.lst xs)/\H b=some (.lst zs)/\xs.length+zs.length<=sizeLine/\∀p,H p=none->Q (.ref p) (upd H p (.lst (xs++zs)))
def bg:OpR X (binaryOp .Add) rg:=by
 intro qE s σ H x y v u Q I rx ry h;obtain⟨l,b,xs,zs,rfl,rfl,hH,hB,hz,q⟩:=h
 cases rx
 cases ry
 obtain⟨z,its,n,r,hl,e⟩:=I.lstM hH;obtain⟨z2,its2,n2,r2,hl2,e2⟩:=I.lstM hB;refine PySem.P.add_list e e2 ?_ (by rw[jK,jK];omega);have ea:its.toArray++its2.toArray=(its++its2).toArray:=by simp
 rw[ea];exact⟨.ref _,_,I.lnew (t':=s.toks) (r.append r2) (by rw[jY];omega),rfl,q _ I.fresh⟩
end
end L2
namespace Att
open PySem PySem.W PySem.Calls PyProof.Rows
def rh:∀(ns:qD) (vs:qA),WellAll P h vs (ns.map WData.int)->IntsAre vs ns:=by
 intro ns
 induction ns with
 |nil =>
  intro vs w;rw[List.map_nil]at w
  cases w
  exact .nil
 |cons n ns ih =>
  intro vs w;rw[jg]at w
  cases w with
  |cons a b =>
   cases a
   exact .cons _ _ (ih _ b)
def rj{l:OpenLaw}{n:Nat}(hn:l.most=some n){P:Params}{args:List WData}{vals:qA}
 (hpre:l.row.toRowW.claim.pre args=true) (hwl:WellAll P h vals args) :
 ∃a vs ns,vals=[Value.ref a]/\args=[WData.list (ns.map WData.int)]/\h.get? a=some { cls := .type "list",data := .seq vs.toArray }/\IntsAre vs ns/\ns.length<=n:=by
 have hsh:WShape.hasAll [] args [.list .int]=true:=(pre_splitW hpre).1;have hc:l.pre.holds [] { args:=args }=true:=(pre_splitW hpre).2;obtain⟨d,r,rfl,h1,h2⟩:=hasAllW_cons hsh;obtain rfl:=hasAllW_nil h2;obtain⟨xs,rfl,h3⟩:=hasW_list h1;obtain⟨ns,rfl⟩:=items_int h3
 have qP:ns.length<=n:=by
  unfold OpenLaw.pre at hc
  have h4:(WTm.not (.lt (.lit (.int (n:Int))) (.len (.arg 0)))).holds [] { args:=[.list (ns.map .int)] }=true:=by
   have h4:=(holds_andW hc).1;rw[hn]at h4;exact h4
  have h5:=condW_of h4 (w_not (w_lt w_lit (w_len_list (w_arg rfl))));rw[jC]at h5;refine Nat.le_of_not_lt λq=>?_;have q':(n:Int)<((ns.length:Nat):Int):=by omega
  first
   |(rw[kf q']at h5;exact absurd h5 'f')
   |(simp at h5;omega)
 cases hwl with
 |cons w1 w2 =>
  cases w2
  cases w1 with
  |list ho hall=>exact⟨_,_,ns,rfl,rfl,ho,rh ns _ hall,qP⟩
def rm(l:OpenLaw)(args:List WData):l.row.toRowW.claim.post args (.bool true) args=true :=
 postW_of (r:=l.row.toRowW) (X:=(true==true))
  (show WShape.has [] (.bool true) .bool=true by first|rfl|decide|simp[WShape.has,WShape.arms,WShape.armsAll])
  (show(WTm.eq .res (.lit (.bool true))).value [] { args:=args,res:=some (.bool true),after:=args }=some (.bool (true==true)) from w_eq_bool (w_res rfl) w_lit) rfl
def attach_call{l:OpenLaw}{n:Nat}{loose:qB}{XP:(qm)->Heap->Prop}{YP:xh->Heap->Prop}{d:DefRec}
 (hn:l.most=some n) (hdf:d.params.defaults=[])
 (call:∀(w:xh) (s₀ s₁:qZ) (mg mb:qm) (fa:xb) (o:Obj) (pm cd qX:qY) (a:xb) (vs:qA) (ns:qD),
  Ground q loose [] XP w s₀ mg mb s₁.heap->YP w s₁.heap ->
  s₁.heap.get? fa=some o->o.data=.func (docDef d.name d.params d.body d.scope pm cd qX)->s₁.heap.CodeRec cd d.name->mg d.name=some (.ref fa) ->
  s₁.heap.get? a=some { cls := .type "list",data := .seq vs.toArray }->IntsAre vs ns->ns.length<=n->s₁.gens=#[] ->
  codeAny (model l.prog w) callerA (.call (.ref fa) ⟨[.ref a],[]⟩) (λr s'=>r=.ok (.ret (.bool true))/\OldK s₁.heap s'.heap/\s'.os=s₁.os/\AllBare s'.gens) s₁) :
 WalkO q loose XP YP l.row.toRowW d [] (λf vs=>PySem.call f vs):=by
 intro w s₀ s₁ mg mb G Y fa o pm cd qX dV kV ho hd hcd hD hmg hg args vals as hpre hlay hrd hwl hlo;obtain rfl:dV=.none:=Dflts.none hD hdf;obtain rfl:kV=.none:=Dflts.noKw hD;obtain⟨a,vs,ns,rfl,rfl,hobj,hints,qP⟩:=rj hn hpre hwl;refine enter_call (codeAny_mono (call w s₀ s₁ mg mb fa o pm cd qX a vs ns G Y ho (fd_plain hd) hcd hmg hobj hints qP hg) λr s' hq=>?_);obtain⟨rfl,h2,h3,h4⟩:=hq;exact⟨.inl ⟨.bool true,.bool true,[],rfl,λ_=>rfl,.bool true,rm l _,λ_=>⟨List.Pairwise.nil,λ_ hm=>(nomatch hm)⟩⟩,h2,h3,h4⟩
end Att
namespace L2
open PySem PySem.Spec PyProof.Rows
theorem fQ:∀{vs:qA}{ns:qD},IntsAre vs ns->Vals (ns.map V.int) vs
 |_,_,.nil => .nil
 |_,_,.cons n t h => .cons ⟨t,rfl⟩ (fQ h)
def bh(H:Hp):Prop:=∀b,H b=none\/∃o xs,H b=some (.frz o (.lst xs))
def rp{P:xf}{w:xh}{K:qu}{mg mb:qm}{CX:CXT}{k:Nat}{fa a:xb}{fd:FuncData}{x:Str}{sp:Sp}{s₁:qZ}{vs:qA}{ns:qD}
 (KX:K.In s₁.heap) (hns:s₁.heap.Ns mainGlobals mg) (hb:s₁.heap.Ns builtinsNs mb) (hbb:∀x:Str,x ≠ "__name__" -> mb x=bootBuiltins x) (hlim:s₁.heap.NoLimit) (hg:s₁.gens=#[])
 (ha:s₁.heap.get? a=some { cls := .type "list",data := .seq vs.toArray }) (hi:IntsAre vs ns) (hl:ns.length<=sizeLine) (hr:Room k callerA)
 (F:∀base:Heap,K.In base->base.Ns mainGlobals mg->FnOk P w K mg base CX k fa fd [x] sp) (hbind:∀(s:qZ) (u:qY),BindsTo s fd ⟨[u],[]⟩ [(x,u)])
 (hsp:∀H:Hp,bh H->SqL K H a (ns.map V.int)->sp [.ref a] H (λv _=>v=.bl true) λ_ _ _=>False)
 (hCX:∀H e s',CX [] H s₁ (λ_ _ _=>False) e s'->False) :
 codeAny (model P w) callerA (.call (.ref fa) ⟨[.ref a],[]⟩) (λr s'=>r=.ok (.ret (.bool true))/\OldK s₁.heap s'.heap/\s'.os=s₁.os/\AllBare s'.gens) s₁:=by
 have rv:=fQ hi;have lenV:=hi.length
 -- from an abstract heap in which nothing but the script may be tracked
 have core:∀H:Hp,bh H->SqL K H a (ns.map V.int)->HOk P w H s₁.heap->(∀b,H b≠none->b=a)->(H a≠none->K.lookup a=none) ->
  codeAny (model P w) callerA (.call (.ref fa) ⟨[.ref a],[]⟩) (λr s'=>r=.ok (.ret (.bool true))/\OldK s₁.heap s'.heap/\s'.os=s₁.os/\AllBare s'.gens) s₁:=by
  intro H hO hS hok hA hK;have base_of:∀{b:xb}{o:Obj},s₁.heap.get? b=some o->H b=none->(QH s₁.heap H).get? b=some o:=λe n=>nE e n
  have noA:∀{b:xb}{o:Obj}{es:Array DictEntry}{ep:Nat},s₁.heap.get? b=some o->o.data=.dict es ep->H b=none:=fun {b o es ep} e d=>by
   cases q:H b with
   |none=>rfl
   |some u =>
    have e':b=a:=hA b (by rw[q];simp);subst e';rw[ha]at e;cases e;have d':Data.seq vs.toArray _=Data.dict es ep:=d
    cases d'
  have nsK:∀{b:xb}{m:qm},s₁.heap.Ns b m->(QH s₁.heap H).Ns b m:=fun {b m} ⟨o,es,ep,e,d,r⟩=>⟨o,es,ep,base_of e (noA e d),d,r⟩
  have hKb:K.In (QH s₁.heap H):=λb o e=>base_of (KX b o e) (by
   cases q:H b with
   |none=>rfl
   |some u =>
    have e':b=a:=hA b (by rw[q];simp);subst e';rw[hK (by rw[q];simp)]at e;cases e)
  have hM:Mod K mg (QH s₁.heap H):=⟨hKb,nsK hns,⟨mb,nsK hb,hbb⟩,let ⟨mc,h1,h2⟩:=hlim;⟨mc,nsK h1,h2⟩⟩;have e0:Env0 P w K mg (QH s₁.heap H) callerA [] s₁ H:=⟨rfl,hM,λb o e=>nF e,Nat.le_of_eq (nB _ _),trivial,λb hb=>absurd (show b∈([]:List xb) from hb) 'j',hok,.of_eq hg⟩;refine codeAny_mono ((F _ hKb (nsK hns)).run callerA [] s₁ H ⟨[.ref a],[]⟩ [.ref a] [.ref a] _ _ hr e0 (hbind s₁ (.ref a)) (.cons rfl .nil) (hsp H hO hS)) λr s' h=>?_
  cases r with
  |error e=>exact(hCX H e s' h).elim
  |ok fl =>
   cases fl with
   |next=>exact False.elim h
   |brk=>exact False.elim h
   |cont=>exact False.elim h
   |ret u =>
    obtain⟨v,H',os,bare,un,hok',r',q⟩:=h;have q':v=.bl true:=q;subst q';obtain rfl:u=Value.bool true:=r';refine⟨rfl,OldK.of_keep λb o e=>?_,os,bare⟩
    cases q:H b with
    |none=>exact un.keep b o e q (by intro z;exact absurd (show b∈([]:List xb) from z) 'j') 'j'
    |some u =>
     rcases hO b with z|⟨ob,xs,z⟩
     . rw[q]at z;cases z
     . have z2:=un.frzs b ob _ z;obtain⟨e1,_⟩:=hok b _ z;obtain⟨e2,_⟩:=hok' b _ z2;rw[e]at e1;cases e1;exact e2
 cases hk:K.lookup a with
 |some o =>
  -- the script is one of the module's own objects
  have e:=KX a o hk;rw[ha]at e
  cases e
  refine core (λ_=>none) (λ_ => .inl rfl) (.inr ⟨_,vs.toArray,_,hk,rfl,rfl,rfl,by rw[jK,lenV];exact hl,by simpa using rv⟩) (λb u z=>by have z':(none:Option HO)=some u:=z;cases z') (λb z=>absurd rfl z) λz=>absurd rfl z
 |none =>
  refine core (λb=>if b=a then some (.frz { cls := .type "list",data := .seq vs.toArray } (.lst (ns.map V.int))) else none) (λb=>?_) (.inl (.inr ⟨{ cls := .type "list",data := .seq vs.toArray },ke rfl⟩)) (λb u z=>?_) (λb z=>?_) λ_=>hk
  . by_cases hb:b=a
    . exact .inr ⟨_,_,ke hb⟩
    . exact .inl (k9 hb)
  . by_cases hb:b=a
    . have z':=(ke hb).symm.trans z
      cases z'
      subst hb;exact⟨ha,by rw[jC];exact hl,vs,_,rv,ha⟩
    . have z':=(k9 hb).symm.trans z
      cases z'
  . by_cases hb:b=a
    . exact hb
    . exact absurd (k9 hb) z
def rq{l:PySem.W.OpenLaw}{n k:Nat}{loose:qB}{XP:(qm)->Heap->Prop}{YP:xh->Heap->Prop}{d:DefRec}{K:Params->qu}{CX:xh->CXT}{sp:xh->Sp}{x:Str}
 (hn:l.most=some n) (hn2:n<=sizeLine) (hdf:d.params.defaults=[]) (hr:Room k callerA)
 (hY:∀(w:xh) (h:Heap),YP w h->(K w.params).In h)
 (F:∀(w:xh) (mg:qm) (fa:xb) (h:Heap),(K w.params).In h->h.Ns mainGlobals mg->mg d.name=some (.ref fa) ->
  ∃fd:FuncData,(∀(s:qZ) (u:qY),BindsTo s fd ⟨[u],[]⟩ [(x,u)]) /\
   ∀base:Heap,(K w.params).In base->base.Ns mainGlobals mg->FnOk l.prog w (K w.params) mg base (CX w) k fa fd [x] (sp w))
 (hsp:∀(w:xh) (H:Hp) (a:xb) (ns:qD),ns.length<=n->bh H->SqL (K w.params) H a (ns.map V.int)->sp w [.ref a] H (λv _=>v=.bl true) λ_ _ _=>False)
 (hCX:∀(w:xh) (H:Hp) (s:qZ) (e:qY) (s':qZ),CX w [] H s (λ_ _ _=>False) e s'->False) :
 PySem.W.WalkO q loose XP YP l.row.toRowW d [] (λf vs=>PySem.call f vs):=by
 refine Att.attach_call hn hdf λw s₀ s₁ mg mb fa o pm cd qX a vs ns G Y ho hd hcd hmg hobj hints qP hg=>?_;have KX:=hY w _ Y;obtain⟨fd,hb,hF⟩:=F w mg fa _ KX G.T.g hmg;exact rp KX G.T.g G.T.b G.T.builtins G.T.nolimit hg hobj hints (je qP hn2) hr hF hb (λH hO hS=>hsp w H a ns qP hO hS) λH e s'=>hCX w H s₁ e s'
def defArgs(s:Stmt):Arguments:=match s with
 |.FunctionDef _ a _ _ _ _ _ _ _ _=>a
 |_=>{ posonlyargs:=[],args:=[],vararg:=none,kwonlyargs:=[],kw_defaults:=[],kwarg:=none,defaults:=[] }
def defBody(s:Stmt):List Stmt:=match s with
 |.FunctionDef _ _ b _ _ _ _ _ _ _=>b
 |_=>[]
def defScope(s:Stmt):Scope:=match s with
 |.FunctionDef _ _ _ _ _ _ sc _ _ _=>sc
 |_=>{ kind := .function,names:=[],isGenerator:=false,isCoroutine:=false }
abbrev CX0:CXT:=λ_ _ _ _ _ _=>False
abbrev E0:XK:=λ_ _ _=>False
def rA:JX CX0 X E0:=λ_ _ _ _ _ _ _ h=>h.elim
structure Fun (K:qu) (x qual:Str) (st:Stmt) (f:xb) (fd:FuncData):Prop where
 ex:∃(oc:qY) (od:Option xb) (kV qX pm:qY) (an:Option xb) (qF ct:qY) (osl:Array (qv)),
  fd=PySem.W.fnOf x qual (defArgs st) (defBody st) (defScope st) .none kV qX pm an qF ct/\K.lookup f=some ⟨oc,od,.func fd,osl⟩/\PySem.W.codeIn K qF qual=true
 kp:PySem.W.keepIn K (.ref f)=true
section
variable {P:xf}{w:xh}{K:qu}{mg:qm}{base:Heap}
def Fun.ok{x qual:Str}{st:Stmt}{f:xb}{fd:FuncData}{N ps:qB}{k:Nat}{sp:Sp}(F:Fun K x qual st f fd)(S:FnScope N ps (defScope st))(len:∀vs H Q E,sp vs H Q E->vs.length=ps.length)
 (qQ:∀(qF:qY) (A:Around) (outer:List Env) (s:qZ) (H:Hp) (vs:List V) (Q:VK) (E:XK),Room k (A.deeper (envOfC qual (defScope st) s.heap.objs.size f qF))->sp vs H Q E ->
  ∃t,PSs (Q7 CX0 P w K mg base N qual (defScope st) f qF A outer s H E).nox (defBody st) t/\t { nx:=λ_ H'=>Q .non H',rt:=Q } (J2 N vs) H):FnOk P w K mg base CX0 (k+1) f fd ps sp:=by
 obtain⟨oc,od,kV,qX,pm,an,qF,ct,osl,rfl,lk,hcd⟩:=F.ex;refine bc lk hcd S len λA outer s H vs Q E hr hsp=>?_;obtain⟨t,h,q⟩:=qQ qF A outer s H vs Q E hr hsp;exact⟨t,h.nox,q⟩
def Fun.binds{x qual:Str}{st:Stmt}{f:xb}{fd:FuncData}{ps:qB}(F:Fun K x qual st f fd)
 (h:∀(kV qX pm:qY) (an:Option xb) (qF ct:qY) (us:qA),us.length=ps.length->bindArgs (PySem.W.fnOf x qual (defArgs st) (defBody st) (defScope st) .none kV qX pm an qF ct) ⟨us,[]⟩=pure (ps.zip us)):Binds K fd ps []:=by
 obtain⟨oc,od,kV,qX,pm,an,qF,ct,osl,rfl,lk,hcd⟩:=F.ex;exact .all (h kV qX pm an qF ct)
def bj{x qual:Str}{st:Stmt}{f:xb}{oc:qY}{od an:Option xb}{osl:Array (qv)}{kV qX pm qF ct:qY}(l:K.lookup f=some ⟨oc,od,.func (PySem.W.fnOf x qual (defArgs st) (defBody st) (defScope st) .none kV qX pm an qF ct),osl⟩)
 (c:PySem.W.codeIn K qF qual=true) (k:PySem.W.keepIn K (.ref f)=true):Fun K x qual st f (PySem.W.fnOf x qual (defArgs st) (defBody st) (defScope st) .none kV qX pm an qF ct):=⟨⟨oc,od,kV,qX,pm,an,qF,ct,osl,rfl,l,c⟩,k⟩
end
def xG(hr:Room k A):A.units+1<cLine:=jk (Nat.add_le_add_left (by decide:1<=64) _) hr.units
def Y3(h:n<=1000):n<sizeLine:=jk h 'f'
section
variable {X:Cx}
def pv(i:Nat){x:Str}{pos:Pos}(hN:X.N[i]?=some x:=by rfl)(hv:Vis X.env.scope x:=by first|exact Or.inl rfl|exact Or.inr (Or.inl rfl)|exact Or.inr (Or.inr rfl))(hd:(x==("__debug__" : Str))=false:=by decide)
 (hcd:(x==("__classdict__" : Str))=false:=by decide):PE X (.Name x pos) (Qo i):=nG hN hv hd hcd
end
def xY{A B:Prop}(h:B):if false=true then A else B:=by
 rw[k9 jQ];exact h
def Jc{A B:Prop}(h:A):if true=true then A else B:=by
 rw[ke rfl];exact h
def Same(H H':Hp):Prop:=∀b o,H b=some o->H' b=some o
def Same.refl(H:Hp):Same H H:=λ_ _ h=>h
def Same.trans(a:Same H H1)(b:Same H1 H2):Same H H2:=λc o h=>b c o (a c o h)
def Same.free(e:Same H H')(h:H' l=Option.none):H l=Option.none:=by
 cases q:H l with
 |none=>rfl
 |some o =>
  rw[e l o q]at h
  cases h
def Same.seq{K:qu}{H H':Hp}{a:xb}{xs:List V}(e:Same H H')(h:SqL K H a xs):SqL K H' a xs:=by
 rcases h with (h|⟨o,h⟩)|h
 . exact .inl (.inl (e _ _ h))
 . exact .inl (.inr ⟨o,e _ _ h⟩)
 . exact .inr h
section
variable {κ:Type} [DecidableEq κ]
def valV(kvs:List (κ×V))(k:κ):Option V:=(kvs.find? λkv=>decide (kv.1=k)).map (·.2)
def xH(kvs:List (κ×V))(k:κ)(v:V):List (κ×V) :=
 if (kvs.any λkv=>decide (kv.1=k))=true then kvs.map (λkv=>if kv.1=k then(kv.1,v) else kv) else kvs++[(k,v)]
def Qg{p:κ×V}{r:List (κ×V)}{k:κ}(e:p.1=k):valV (p::r) k=some p.2:=by simp[valV,jy,e]
def Qh{p:κ×V}{r:List (κ×V)}{k:κ}(e:¬p.1=k):valV (p::r) k=valV r k:=by simp[valV,jy,e]
theorem Ze(k:κ):∀kvs:List (κ×V),(kvs.any λkv=>decide (kv.1=k))=(valV kvs k).isSome
 | []=>rfl
 |p::r=>by
  rw[List.any_cons]
  by_cases e:p.1=k
  . simp only[Qg e,kf e,Bool.true_or,Option.isSome_some]
  . rw[Qh e,kg e,Bool.false_or];exact Ze k r
theorem fR(k j:κ)(y:V):∀kvs:List (κ×V),valV (kvs.map λkv=>if kv.1=k then(kv.1,y) else kv) j=(valV kvs j).map λx=>if j=k then y else x
 | []=>rfl
 |p::r=>by
  have ih:=fR k j y r;rw[jg]
  by_cases h:p.1=k
  . rw[ke h]
    by_cases e:p.1=j
    . rw[Qg (p:=(p.1,y)) e,Qg e,Option.map_some,ke (e.symm.trans h)]
    . rw[Qh (p:=(p.1,y)) e,Qh e,ih]
  . rw[k9 h]
    by_cases e:p.1=j
    . rw[Qg (p:=p) e,Qg e,Option.map_some,k9 (λz=>h (e.trans z))]
    . rw[Qh (p:=p) e,Qh e,ih]
theorem fU(k j:κ)(y:V):∀kvs:List (κ×V),valV kvs k=none->valV (kvs++[(k,y)]) j=if j=k then some y else valV kvs j
 | [],_=>by
  by_cases e:k=j
  . rw[ke e.symm];exact Qg (p:=(k,y)) e
  . rw[k9 (λz=>e z.symm)];exact Qh (p:=(k,y)) e
 |p::r,hn=>by
  rw[List.cons_append];have hk:¬p.1=k:=λz=>by rw[Qg z]at hn;cases hn
  rw[Qh hk]at hn;have ih:=fU k j y r hn
  by_cases e:p.1=j
  . rw[Qg e,Qg e,k9 (λz=>hk (e.trans z))]
  . rw[Qh e,Qh e,ih]
def Y4(kvs:List (κ×V))(k j:κ)(y:V):valV (xH kvs k y) j=if j=k then some y else valV kvs j:=by
 unfold xH
 by_cases a:(kvs.any λkv=>decide (kv.1=k))=true
 . rw[ke a,fR];rw[Ze]at a
   by_cases e:j=k
   . obtain⟨x,hx⟩:=jl.mp a;rw[ke e,e,hx,Option.map_some,ke rfl]
   . rw[k9 e]
     cases valV kvs j with
     |none=>rfl
     |some x=>rw[Option.map_some,k9 e]
 . rw[k9 a];refine fU k j y kvs ?_;rw[Ze]at a
   cases q:valV kvs k with
   |none=>rfl
   |some x=>rw[q]at a;exact(a rfl).elim
def bm(kvs:List (κ×V))(k:κ)(v:V):(xH kvs k v).length<=kvs.length+1:=by
 unfold xH;split
 . rw[jC];omega
 . rw[jY,jU,List.length_nil];omega
def RelO.isSome_eq(r:RelO o u):o.isSome=u.isSome:=by
 cases o with
 |none=>cases u with
  |none=>rfl
  |some _=>exact(show False from r).elim
 |some _=>cases u with
  |none=>exact(show False from r).elim
  |some _=>rfl
def KV.val(r:KV kvs vs)(k:κ):RelO (valV kvs k) (valueAt vs k):=by
 unfold KV at r
 induction r with
 |nil=>exact True.intro
 | @cons p q ps qs h t ih =>
  obtain⟨h1,h2⟩:=h
  by_cases e:p.1=k
  . have e':q.1=k:=h1.symm.trans e;have b:valueAt (q :: qs) k=some q.2:=by simp[valueAt,jy,e']
    rw[Qg e,b];exact h2
  . have e':¬q.1=k:=λz=>e (h1.trans z);have b:valueAt (q :: qs) k=valueAt qs k:=by simp[valueAt,jy,e']
    rw[Qh e,b];exact ih
theorem KV.any(r:KV kvs vs)(k:κ):(kvs.any λkv=>decide (kv.1=k))=vs.any λkv=>decide (kv.1=k):=by
 unfold KV at r
 induction r with
 |nil=>rfl
 |cons h t ih=>rw[List.any_cons,List.any_cons,ih,h.1]
def KV.repl(r:KV kvs vs)(k:κ)(ry:RelV y u) :
 KV (kvs.map λkv=>if kv.1=k then(kv.1,y) else kv) (vs.map λkv=>if kv.1=k then(kv.1,u) else kv):=by
 unfold KV at r ⊢
 induction r with
 |nil=>exact .nil
 | @cons p q ps qs h t ih =>
  rw[jg,jg];refine .cons ?_ ih;obtain⟨h1,h2⟩:=h
  by_cases e:p.1=k
  . rw[ke e,ke (h1.symm.trans e)];exact⟨h1,ry⟩
  . rw[k9 e,k9 (λz=>e (h1.trans z))];exact⟨h1,h2⟩
def KV.put(r:KV kvs vs)(k:κ)(ry:RelV y u):KV (xH kvs k y) (stored vs k u):=by
 unfold xH stored;rw[r.any k]
 by_cases e:(vs.any λkv=>decide (kv.1=k))=true
 . rw[ke e,ke e];exact r.repl k ry
 . rw[k9 e,k9 e];exact Paired.snoc r ⟨rfl,ry⟩
theorem KV.length{kvs:List (κ×V)}{vs:List (κ×qY)}(r:KV kvs vs):kvs.length=vs.length:=Paired.length r
end
def XD(r:RelV (kV k) u):(Jf P w).is k u=true:=by
 cases k with
 |inl i=>obtain⟨t,e⟩:=(show ∃t,u=Value.int i t from r);subst e;exact ny P w i t
 |inr x=>obtain⟨t,e⟩:=(show ∃t,u=Value.str x t from r);subst e;exact nA P w x t
theorem fV:∀{ks:List Key}{us:qA},Vals (ks.map kV) us->ItemsAre (Jf P w) ks us
 | [],_,r=>by rw[List.map_nil]at r;cases r;exact .nil
 |k::ks,_,r=>by
  rw[jg]at r
  cases r with
  |cons h t=>exact .cons (XD h) (fV t)
abbrev KT(H:Hp):List (List Key×V)->List (List Key×xb×qY)->Prop:=Paired λp q=>p.1=q.1/\H q.2.1=some (.tup (p.1.map kV))/\RelV p.2 q.2.2
def KT.val(r:KT H kvs xs)(k:List Key):RelO (valV kvs k) ((atKey xs k).map (·.2)):=by
 induction r with
 |nil=>exact True.intro
 | @cons p q ps qs h t ih =>
  obtain⟨h1,_,h2⟩:=h
  by_cases e:p.1=k
  . have e':q.1=k:=h1.symm.trans e;have b:atKey (q :: qs) k=some q.2:=by simp[atKey,jy,e']
    rw[Qg e,b];exact h2
  . have e':¬q.1=k:=λz=>e (h1.trans z);have b:atKey (q :: qs) k=atKey qs k:=by simp[atKey,jy,e']
    rw[Qh e,b];exact ih
def KT.repl(r:KT H kvs xs)(k:List Key)(ry:RelV y u) :
 KT H (kvs.map λkv=>if kv.1=k then(kv.1,y) else kv) (xs.map (putAt k u)):=by
 induction r with
 |nil=>exact .nil
 | @cons p q ps qs h t ih =>
  rw[jg,jg];refine .cons ?_ ih;obtain⟨h1,h2,h3⟩:=h;unfold putAt
  by_cases e:p.1=k
  . rw[ke e,ke (h1.symm.trans e)];exact⟨h1,h2,ry⟩
  . rw[k9 e,k9 (λz=>e (h1.trans z))];exact⟨h1,h2,h3⟩
def KT.put(r:KT H kvs xs)(k:List Key)(hb:H b=some (.tup (k.map kV)))(ry:RelV y u) :
 KT H (xH kvs k y) (storedH xs k b u):=by
 have e:(kvs.any λkv=>decide (kv.1=k))=(atKey xs k).isSome:=by
  rw[Ze,(r.val k).isSome_eq,Option.isSome_map]
 unfold xH storedH;rw[e]
 by_cases q:(atKey xs k).isSome=true
 . rw[ke q,ke q];exact r.repl k ry
 . rw[k9 q,k9 q];exact Paired.snoc r ⟨rfl,hb,ry⟩
def KT.keeps(r:KT H kvs xs)(ht:∀b ys,H b=some (.tup ys)->H' b=some (.tup ys)):KT H' kvs xs :=
 Paired.mapP r λ_ _ z=>⟨z.1,ht _ _ z.2.1,z.2.2⟩
section
variable {P:xf}{w:xh}{H:Hp}{h:Heap}{a:xb}
def fW(ok:HOk P w H h)(e:Rd H a u):ObjOk P w H h a u:=e.ok ok
def Zf(ok:HOk P w H h)(e:Rd H a (.dK kvs)):kvs.length<=sizeLine/\(a==sysModules)=false/\∃vs,KV kvs vs/\h.DictOf (Jf P w) a vs :=
 show ObjOk P w H h a (.dK kvs) from fW ok e
def Zg(ok:HOk P w H h)(e:H a=some (.dK kvs)):kvs.length<=sizeLine/\(a==sysModules)=false/\∃vs,KV kvs vs/\h.DictOf (Jf P w) a vs:=Zf ok (.inl e)
def Y5(ok:HOk P w H h)(e:H a=some (.tup (ks.map kV))):(tupleKind (Jf P w)).is h ks a:=by
 obtain⟨_,its,r,o,h1,h2,n,h3⟩:=(show ObjOk P w H h a (.tup (ks.map kV)) from ok a _ e);exact⟨o,its.toArray,n,h1,h2,h3,by simpa using fV r⟩
def Y6(ok:HOk P w H h)(e:Rd H a (.dT kvs)):kvs.length<=sizeLine/\(a==sysModules)=false /\
 ∃xs,KT H kvs xs/\h.DictOfH (tupleKind (Jf P w)) a xs:=by
 obtain⟨z,y,xs,r,o,es,ep,h1,h2,h3,h4,h5⟩:=(show ObjOk P w H h a (.dT kvs) from fW ok e);refine⟨z,y,xs,r,o,es,ep,h1,h2,h3,h4,λx hx=>?_,h5⟩
 have all:∀{l:List (List Key×V)}{m:List (List Key×xb×qY)},KT H l m->∀x∈m,(tupleKind (Jf P w)).is h x.1 x.2.1:=by
  intro l m q
  induction q with
  |nil=>intro x hx;exact nomatch hx
  | @cons p q ps qs hq t ih =>
   intro x hx;rcases jB.mp hx with e|hx
   . subst e;exact Y5 ok (by rw[<- hq.1];exact hq.2.1)
   . exact ih x hx
 exact all r x hx
def rB(ok:HOk P w H h)(e:H a=some (.dT kvs)):kvs.length<=sizeLine/\(a==sysModules)=false /\
 ∃xs,KT H kvs xs/\h.DictOfH (tupleKind (Jf P w)) a xs:=Y6 ok (.inl e)
end
def DGet(H:Hp)(a:xb)(y:V)(r:Option V):Prop :=
 (∃kvs k,Rd H a (.dK kvs)/\y=kV k/\r=valV kvs k)\/∃kvs k b,Rd H a (.dT kvs)/\y=.ref b/\H b=some (.tup (k.map kV))/\r=valV kvs k
def DPut(H:Hp)(a:xb)(y v:V)(H':Hp):Prop :=
 (∃kvs k,H a=some (.dK kvs)/\y=kV k/\kvs.length<sizeLine/\H'=upd H a (.dK (xH kvs k v))) \/
 ∃kvs k b,H a=some (.dT kvs)/\y=.ref b/\H b=some (.tup (k.map kV))/\kvs.length<sizeLine/\H'=upd H a (.dT (xH kvs k v))
theorem DGet.k{kvs:List (Key×V)}{k:Key}(e:H a=some (.dK kvs)):DGet H a (kV k) (valV kvs k) := .inl ⟨kvs,k,.inl e,rfl,rfl⟩
theorem DPut.k{kvs:List (Key×V)}{k:Key}{v:V}(e:H a=some (.dK kvs))(hl:kvs.length<sizeLine):DPut H a (kV k) v (upd H a (.dK (xH kvs k v))) := .inl ⟨kvs,k,e,rfl,hl,rfl⟩
section
variable {X:Cx}{qE:qr}{σ:St}{H:Hp}{s:qZ}{a:xb}{y v:V}{u r:qY}{o:Option V}{A:Around}{E:qk}
def Inv.big(I:Inv X qE σ H s):sysModules<s.heap.objs.size:=by
 have h:mainGlobals<s.heap.objs.size:=(I.mod.glob.keeps I.bk).lt;exact Nat.lt_trans 'f' h
def rC(hu:A.units+1<cLine)(I:Inv X qE σ H s)(g:DGet H a y (some v))(ry:RelV y u)(h:∀w' s',Inv X qE σ H s'->RelV v w'->Q w' s') :
 wpAny (model X.prog X.w) A (getItem (.ref a) u) Q E s:=by
 rcases g with ⟨kvs,k,e,ey,l⟩|⟨kvs,k,b,e,ey,eb,l⟩
 . subst ey;obtain⟨z,hd,vs,rel,dd⟩:=Zf I.hok e;obtain⟨w',hw,rw'⟩:=RelO.some_of (v:=v) (o:=valueAt vs k) (by rw[l];exact rel.val k);exact wpAny_getItem_of (XD ry) dd.mapOf hw (h w' _ (I.tok _) rw')
 . subst ey
   cases (show u=Value.ref b from ry)
   obtain⟨z,hd,xs,rel,dd⟩:=Y6 I.hok e;obtain⟨w',hw,rw'⟩:=RelO.some_of (v:=v) (o:=(atKey xs k).map (·.2)) (by rw[l];exact rel.val k);obtain⟨p,hp,hp2⟩:=jT.mp hw;refine wpAny_getItem_heap (tupleKind_room_in1 hu) (Y5 I.hok eb) dd hp ?_;rw[hp2];exact h w' _ (I.tok _) rw'
def rD(hu:A.units+1<cLine)(I:Inv X qE σ H s)(g:DGet H a y o)(ry:RelV y u)(h:∀s',Inv X qE σ H s'->Q (.bool o.isSome) s') :
 wpAny (model X.prog X.w) A (compareOp .In u (.ref a)) Q E s:=by
 rcases g with ⟨kvs,k,e,ey,l⟩|⟨kvs,k,b,e,ey,eb,l⟩
 . subst ey;obtain⟨z,hd,vs,rel,dd⟩:=Zf I.hok e;refine wpAny_in_of (XD ry) hd dd.mapOf ?_;rw[<- (rel.val k).isSome_eq,<- l];exact h _ (I.tok _)
 . subst ey
   cases (show u=Value.ref b from ry)
   obtain⟨z,hd,xs,rel,dd⟩:=Y6 I.hok e;refine wpAny_in_heap (tupleKind_room_in1 hu) (Y5 I.hok eb) hd dd ?_;have q:=(rel.val k).isSome_eq;rw[Option.isSome_map]at q;rw[<- q,<- l];exact h _ (I.tok _)
def bn(I:Inv X qE σ H s)(mu:Mut (H a))(hs:Heap.SameBut a s.heap h')(he:∃q,h'.get? a=some q)(new:ObjOk X.prog X.w (upd H a ob) h' a ob) :
 Inv X qE σ (upd H a ob) { s with heap:=h',toks:=t' } :=
 I.write (x:=a) (e:=a) mu (.inl rfl) (λb q hb z=>(hs.2 b hb).trans z) he new
def Y7(z:kvs.length<=sizeLine)(hd:(a==sysModules)=false)(rel:KV kvs vs)(dd:h'.DictOf (Jf P w) a vs) :
 ObjOk P w H' h' a (.dK kvs):=⟨z,hd,vs,rel,dd⟩
def rE(hu:A.units+1<cLine)(I:Inv X qE σ H s)(g:DPut H a y v H')(ry:RelV y u)(rv:RelV v r)(h:∀s',Inv X qE σ H' s'->Q () s') :
 wpAny (model X.prog X.w) A (setItem (.ref a) u r) Q E s:=by
 rcases g with ⟨kvs,k,e,ey,l,eH⟩|⟨kvs,k,b,e,ey,eb,l,eH⟩
 . subst ey eH;obtain⟨z,hd,vs,rel,dd⟩:=Zg I.hok e;have hz:vs.length<=sizeLine:=by rw[<- rel.length];exact z
   have hl:(xH kvs k v).length<=sizeLine:=by have:=bm kvs k v;omega
   refine wpAny_setItem_pairs (hsz:=hz) (XD ry) dd λh' dd' hs=>h _ ?_;have he:∃q,h'.get? a=some q:=let ⟨q,_,_,hq,_⟩:=dd';⟨q,hq⟩;exact bn I (by rw[e];exact True.intro) hs he (Y7 hl hd (rel.put k rv) dd')
 . subst ey eH
   cases (show u=Value.ref b from ry)
   obtain⟨z,hd,xs,rel,dd⟩:=rB I.hok e;have hz:xs.length<=sizeLine:=by rw[<- Paired.length rel];exact z
   have hl:(xH kvs k v).length<=sizeLine:=by have:=bm kvs k v;omega
   refine wpAny_setItem_heap (hsz:=hz) (tupleKind_room_in1 hu) (Y5 I.hok eb) dd λh' dd' hs=>h _ ?_;obtain⟨q,es,ep,hq,h2,h3,h4,_,h5⟩:=dd';refine bn I (by rw[e];exact True.intro) hs ⟨q,hq⟩ ⟨hl,hd,_,(rel.put k eb rv).keeps λc ys ec=>?_,q,es,ep,hq,h2,h3,h4,h5⟩;rw[xz (Qe ec e (λz=>nomatch z))];exact ec
end
def fX(i:Expr):Prop:=∀ov iv,subscripted i false ov iv=operate [ov,iv] (getItem ov iv)
theorem rF{E:qk}{env:Env}{pos:Pos}{T id:String}{Q:qk}
 (hl:typeLookup (.type T) "__getitem__" = pure (some (.builtin id))) (hs:fX qR)
 (h:wpAny (model prog w) A (eval value env) (λo s₁=>wpAny (model prog w) A (eval qR env) (λi s₂=>s₂.TypeIs o T/\wpAny (model prog w) A (getItem o i) Q E s₂) E s₁) E s) :
 wpAny (model prog w) A (eval (.Subscript value qR pos) env) Q E s:=by
 refine Subscript_ (kx h (λo s₁ h₁=>kx h₁ (λi s₂ h₂=>?_) λ_ _ x=>x) λ_ _ x=>x);obtain⟨hT,h₂⟩:=h₂;unfold subscriptTail;refine k7 ?_;rw[getitemInPython_of_ne hT.not_modules];refine k7 (wpAny_specialOf hT hl ?_)
 have qJ:wpAny (model prog w) A (subscripted qR false o i) (λr s₃=>wpAny (model prog w) A (letTemporaryGo value o r >>= λ_=>pure r) Q E s₃) E s₂:=by
  rw[hs o i];exact wpAny_operating (kx h₂ (λr s₃ h₃=>k7 (wpAny_letTemporaryGo (k8 h₃))) λ_ _ x=>x)
 first
  |exact k8 (k7 qJ)
  |exact k7 (k8 (k7 qJ))
  |exact k7 qJ
def rG{X:Cx}{qE:qr}{σ:St}{H:Hp}{s:qZ}{a:xb}{y:V}{o:Option V}(I:Inv X qE σ H s)(g:DGet H a y o):s.TypeIs (.ref a) "dict" := by
 rcases g with ⟨kvs,k,e,_,_⟩|⟨kvs,k,b,e,_,_,_⟩
 . obtain⟨_,_,vs,_,dd⟩:=Zf I.hok e;exact dd.typeIs
 . obtain⟨_,_,xs,_,dd⟩:=Y6 I.hok e;exact dd.typeIs
def rH(td ty:TE):TE:=λσ H Q=>td σ H λx H1=>ty σ H1 λy H2=>∃a v,x=.ref a/\DGet H2 a y (some v)/\Q v H2
def fY(td ty tv:TE):TS:=λD σ H=>tv σ H λv H1=>td σ H1 λx H2=>ty σ H2 λy H3=>∃a H4,x=.ref a/\DPut H3 a y v H4/\D.nx σ H4
section
variable {X:Cx}{o i e value:Expr}{pos pos' tpos:Pos}{td ty tv:TE}
def xL(hu:X.A.units+1<cLine)(ho:PE X o td)(hi:PE X i ty)(hs:fX i):PE X (.Subscript o i pos) (rH td ty):=by
 intro qE s σ H Q I h;refine rF PySem.F.slot_dict_getitem.lookup hs (thn (ho qE s σ H _ I h) λu s1 c9=>?_);obtain⟨x,H1,I1,rx,q1⟩:=c9;refine thn (hi qE s1 σ H1 _ I1 q1) λiv s2 yX=>?_;obtain⟨y,H2,I2,ry,a,v,ex,g,q2⟩:=yX;subst ex;obtain rfl:u=Value.ref a:=rx;exact⟨rG I2 g,rC hu I2 g ry λw' s3 I3 rw'=>⟨v,H2,I3,rw',q2⟩⟩
def Je(hu:X.A.units+1<cLine)(ho:PE X o td)(hi:PE X i ty)(hv:PE X value tv)(hs:swapsWith value (some (.Subscript o i pos')) pos.line X.env=pure false) :
 PS X (.Assign [.Subscript o i pos'] value pos) (fY td ty tv):=by
 intro qE s σ H D I h;refine wpAny_Assign_Subscript (thn (hv qE s σ H _ I h) λr s1 c9=>?_) hs;obtain⟨v,H1,I1,rv,q1⟩:=c9;refine thn (ho qE s1 σ H1 _ I1 q1) λu s2 yX=>?_;obtain⟨x,H2,I2,rx,q2⟩:=yX;refine thn (hi qE s2 σ H2 _ I2 q2) λiv s3 yZ=>?_;obtain⟨y,H3,I3,ry,a,H4,ex,g,q3⟩:=yZ;subst ex;obtain rfl:u=Value.ref a:=rx;exact rE hu I3 g ry rv λs4 I4=>⟨σ,H4,I4,q3⟩
end
def fZ(h:Heap)(hb:sysModules<h.objs.size):ObjOk P w H (h.push { cls := .type "dict",data := .dict #[] }) h.objs.size (.dK []) :=
 ⟨jS _,beq_eq_false_iff_ne.mpr (Ne.symm (jZ hb)),[],.nil,Heap.DictOf.new h⟩
def rJ:TE:=λ_ H Q=>∀p,H p=none->Q (.ref p) (upd H p (.dK []))
section
variable {X:Cx}{pos:Pos}
def Zh:PE X (.Dict [] [] pos) rJ:=λqE s σ H Q I h =>
 wpAny_Dict_empty ⟨.ref s.heap.objs.size,_,I.laid (a:=s.heap.objs.size) (o := .dK []) (t':=s.toks) (λ_ _ q=>jF _ q) (jG _) (fZ s.heap I.big),rfl,h _ (I.hok.fresh (jG _))⟩
end
def bo:List (TE×TE)->St->Hp->(List (V×V)->Hp->Prop)->Prop
 | [],_,H,Q=>Q [] H
 |(tk,tv)::r,σ,H,Q=>tk σ H λx H1=>tv σ H1 λy H2=>bo r σ H2 λps H3=>Q ((x,y)::ps) H3
abbrev VV:List (V×V)->List (qY×qY)->Prop:=Paired λp q=>RelV p.1 q.1/\RelV p.2 q.2
def PPs(X:Cx)(pos:Pos)(keys:List (Option Expr))(values:List Expr)(trs:List (TE×TE)):Prop :=
 ∀(qE:qr) (s:qZ) (σ:St) (H:Hp) (Q:List (V×V)->Hp->Prop),Inv X qE σ H s->bo trs σ H Q ->
  wpAny (model X.prog X.w) X.A (evalPairs (pairTrees keys values X.env pos)) (λvs s'=>∃ps H',Inv X qE σ H' s'/\VV ps vs/\Q ps H') X.xe s
def gb:PPs X pos [] [] []:=λqE s σ H Q I h=>pairTrees_nil_walk ⟨[],H,I,.nil,h⟩
def Q8(hk:PE X k tk)(hv:PE X v tv)(hr:PPs X pos ks vs trs) :
 PPs X pos (some k::ks) (v::vs) ((tk,tv)::trs):=λqE s σ H Q I h =>
 pairTrees_cons_walk (thn (hk qE s σ H _ I h) λu s1 ⟨x,H1,I1,rx,q1⟩=>thn (hv qE s1 σ H1 _ I1 q1) λw2 s2 ⟨y,H2,I2,ry,q2⟩ =>
  thn (hr qE s2 σ H2 _ I2 q2) λws s3 ⟨ps,H3,I3,rel,q3⟩=>⟨(x,y)::ps,H3,I3,.cons ⟨rx,ry⟩ rel,q3⟩)
def Qi(kvs more:List (Key×V)):List (Key×V):=more.foldl (λacc kv=>xH acc kv.1 kv.2) kvs
def KV.merge:∀{more:List (Key×V)}{rs:List (Key×qY)}{kvs:List (Key×V)}{vs:List (Key×qY)},KV more rs->KV kvs vs->KV (Qi kvs more) (merged vs rs):=by
 intro more rs kvs vs r;unfold KV at r
 induction r generalizing kvs vs with
 |nil=>intro q;exact q
 | @cons p q ps qs h t ih =>
  intro r0
  have e:KV (xH kvs p.1 p.2) (stored vs q.1 q.2):=by
   have:=r0.put p.1 h.2;rw[<- h.1];exact this
  exact ih e
theorem bq:∀(more kvs:List (Key×V)),(Qi kvs more).length<=kvs.length+more.length
 | [],kvs=>by show kvs.length<=kvs.length+0;omega
 |p::r,kvs=>by
  have h1:=bq r (xH kvs p.1 p.2);have h2:=bm kvs p.1 p.2;show(Qi (xH kvs p.1 p.2) r).length<=_;rw[jU];omega
theorem gc:∀{kvs:List (Key×V)}{ws:List (qY×qY)},VV (kvs.map λkv=>(kV kv.1,kv.2)) ws->∃rs,Carries (Jf P w) ws rs/\KV kvs rs
 | [],_,r=>by rw[List.map_nil]at r;cases r;exact⟨[],True.intro,.nil⟩
 |p::kvs,_,r=>by
  rw[jg]at r
  cases r with
  | @cons a b as bs h t =>
   obtain⟨rs,c,q⟩:=gc (P:=P) (w:=w) t;obtain⟨b1,b2⟩:=b;exact⟨(p.1,b2)::rs,⟨XD h.1,rfl,c⟩,.cons ⟨rfl,h.2⟩ q⟩
def bt(trs:List (TE×TE)):TE:=λσ H Q=>∀p,H p=none->bo trs σ (upd H p (.dK [])) λps H2=>H2 p=some (.dK [])/\∃kvs:List (Key×V),ps=kvs.map (λkv=>(kV kv.1,kv.2))/\kvs.length<=15/\Q (.ref p) (upd H2 p (.dK (Qi [] kvs)))
def gf(h:PPs X pos keys values trs)(hall:keys.all (·.isSome)=true)(hl:keys.length=values.length)(h0:keys≠[])
 (h15:keys.length<=15):PE X (.Dict keys values pos) (bt trs):=by
 intro qE s σ H Q I q;have hn:=I.hok.fresh (jG s.heap.objs.size);have I1:=I.laid (a:=s.heap.objs.size) (o := .dK []) (h':=s.heap.push { cls := .type "dict",data := .dict #[] }) (t':=s.toks) (λ_ _ q=>jF _ q) (jG _) (fZ s.heap I.big);refine wpAny_Dict_walk (knd:=Jf X.prog X.w) hall hl h0 h15 (thn (h qE _ σ _ _ I1 (q _ hn)) λws s2 c9=>?_);obtain⟨ps,H2,I2,rel,e,kvs,ep,lk,q2⟩:=c9;subst ep;obtain⟨rs,c,rk⟩:=gc (P:=X.prog) (w:=X.w) rel;obtain⟨z,hd,vs0,r0,dd⟩:=Zg I2.hok e
 cases r0
 refine⟨rs,c,dd,λh' dd' hs=>⟨.ref s.heap.objs.size,_,?_,rfl,q2⟩⟩
 have hz:(Qi [] kvs).length<=sizeLine:=by
  have h1:=bq kvs [];rw[List.length_nil]at h1;rw[kR];omega
 have he:∃q,h'.get? s.heap.objs.size=some q:=let ⟨q,_,_,hq,_⟩:=dd';⟨q,hq⟩;exact bn I2 (by rw[e];exact True.intro) hs he (Y7 hz hd (rk.merge .nil) dd')
section
variable {X:Cx}{qE:qr}{σ:St}{H:Hp}{s:qZ}{a:xb}{kvs:List (Key×V)}{A:Around}{E:qk}
def rK(I:Inv X qE σ H s)(e:Rd H a (.dK kvs))(h:∀p s',H p=none->Inv X qE σ (upd H p (.dK kvs)) s'->Q (.ref p) s'):wpAny (model X.prog X.w) A (call (.type "dict") [.ref a]) Q E s:=by
 obtain⟨z,hd,vs,rel,dd⟩:=Zf I.hok e;refine kt_call_dict hd dd (by rw[<- rel.length];exact z) λh' dd' hs=>?_;refine h _ _ (I.hok.fresh (jG _)) (I.laid (a:=s.heap.objs.size) (o := .dK kvs) (t':=s.toks) (λb q hq=>?_) (jG _) (Y7 z (beq_eq_false_iff_ne.mpr (Ne.symm (jZ I.big))) rel dd'));exact(hs.2 b (jZ (jL hq))).trans (jF _ hq)
end
section
variable {X:Cx}
def JE:OpR X (binaryOp .Mult) (rI (λi j=>IntMulOk i j) λi j => .int (i*j)):=opI λ_ _ _ _ _ _ _ hc q=>mul_int q hc
def J6:OpR X (binaryOp .FloorDiv) (rI (λ_ j=>0<j/\j.natAbs.log2<9000) λi j => .int (i / j)):=opI λi j _ _ _ _ _ hc q=>by
 have h1:(0:Int)<j:=hc.1;exact floordiv_int 'd' (by rw[Int.fdiv_eq_ediv_of_nonneg i 'd'];exact q) (.inl (PyProof.noPylong_of_log2 hc.2))
def QW(ha:a.natAbs<2 ^ m)(hb:b.natAbs<2 ^ n)(h:m+n<=134217728):IntMulOk a b :=
 PyProof.Rows.mulOk_of_bits (PyProof.Rows.intBits_le ha) (PyProof.Rows.intBits_le hb) h
def Ji:OpR X (compareOp .Eq) (rI0 λi j => .bl (decide (i=j))):=ZW λ_ _ _ _ _ _ _ q=>eq_int (by rw[Bool.beq_eq_decide_eq];exact q)
def bu:OpR X (compareOp .NotEq) (rI0 λi j => .bl (!decide (i=j))):=ZW λ_ _ _ _ _ _ _ q=>ne_int (by rw[bne,Bool.beq_eq_decide_eq];exact q)
def Jb:OpR X (compareOp .Eq) (λx y H Q=>∃i j,x=.str i/\y=.str j/\Q (.bl (decide (i=j))) H):=by
 intro qE s σ H x y v u Q I rx ry h;obtain⟨i,j,rfl,rfl,q⟩:=h;have e:decide (V.str i=V.str j)=decide (i=j):=by simp
 refine eY qE s σ H _ _ v u Q I rx ry ⟨rfl,?_⟩;rw[e];exact q
def Y8:OpR X (compareOp .NotEq) (λx y H Q=>∃i j,x=.str i/\y=.str j/\Q (.bl (!decide (i=j))) H):=by
 intro qE s σ H x y v u Q I rx ry h;obtain⟨i,j,rfl,rfl,q⟩:=h;have e:decide (V.str i=V.str j)=decide (i=j):=by simp
 refine eZ qE s σ H _ _ v u Q I rx ry ⟨rfl,?_⟩;rw[e];exact q
def XE:OpR X (compareOp .Eq) (λx y H Q=>∃i j,x=.bl i/\y=.bl j/\Q (.bl (decide (i=j))) H):=by
 intro qE s σ H x y v u Q I rx ry h;obtain⟨i,j,rfl,rfl,q⟩:=h;have e:decide (V.bl i=V.bl j)=decide (i=j):=by simp
 refine eY qE s σ H _ _ v u Q I rx ry ⟨rfl,?_⟩;rw[e];exact q
def bv:OpR X (compareOp .NotEq) (λx y H Q=>∃i j,x=.bl i/\y=.bl j/\Q (.bl (!decide (i=j))) H):=by
 intro qE s σ H x y v u Q I rx ry h;obtain⟨i,j,rfl,rfl,q⟩:=h;have e:decide (V.bl i=V.bl j)=decide (i=j):=by simp
 refine eZ qE s σ H _ _ v u Q I rx ry ⟨rfl,?_⟩;rw[e];exact q
def bw:V->qY
 |.ty n => .type n
 |.ref a => .ref a
 |_ => .none
def isC:V->Bool
 |.ty _=>true
 |.ref _=>true
 |_=>false
def rL(r:RelV c u)(h:isC c=true):u=bw c:=by
 cases c<;>first|exact r|cases h
inductive TyD (K:qu) (H:Hp):V->qY->Prop where
 |of {x:V}{t:qY} (h:TyOf K H x t):TyD K H x t
 |tupS {a:xb}{xs:List V} (h:SqT K H a xs):TyD K H (.ref a) (.type "tuple")
 |lstS {a:xb}{xs:List V} (h:SqL K H a xs):TyD K H (.ref a) (.type "list")
def rM:Jv X (.builtin "isinstance") (λxs H Q=>∃x c t b,xs=[x,c]/\isC c=true/\TyD X.K H x t/\PySem.W.kitOne X.K t (bw c)=some b/\Q (.bl b) H):=by
 intro qE s σ H xs us Q I r h;obtain⟨x,c,t,b,rfl,hc,ty,e,q⟩:=h;obtain⟨u,w',rfl,rx,rc⟩:=Xz r;have:=rL rc hc;subst this
 cases ty with
 |of ty=>exact oQ I rx ty e λtk=>⟨.bl b,H,I.tok _,rfl,q⟩
 |tupS hs =>
  cases rx
  obtain⟨its,_,⟨o,h1,h2,_⟩,_⟩:=I.tuple hs;exact PySem.W.kia_one PySem.W.kitx_tuple I.kIn ⟨o,h1,h2⟩ e (λz=>nomatch z) λtk=>⟨.bl b,H,I.tok _,rfl,q⟩
 |lstS hs =>
  cases rx
  obtain⟨its,_,pl,_⟩:=I.list hs;obtain⟨o,h1,h2,_⟩:=pl.isList;exact PySem.W.kia_one PySem.W.kitx_list I.kIn ⟨o,h1,h2⟩ e (λz=>nomatch z) λtk=>⟨.bl b,H,I.tok _,rfl,q⟩
end
structure Fn (K:qu) (mg:qm) (x:Str) (st:Stmt) (ps:qB):Prop where
 ex:∃f fd,Fun K x x st f fd/\Binds K fd ps []/\mg x=some (.ref f)
structure Def (P:xf) (w:xh) (K:qu) (mg:qm) (base:Heap) (x:Str) (k:Nat) (ps:qB) (sp:Sp):Prop where
 ex:∃f fd,FnOk P w K mg base CX0 k f fd ps sp/\Binds K fd ps []/\PySem.W.keepIn K (.ref f)=true/\mg x=some (.ref f)
section
variable {P:xf}{w:xh}{K:qu}{mg:qm}{base:Heap}
theorem Fn.ok{x:Str}{st:Stmt}{N ps:qB}{k:Nat}{sp:Sp}(F:Fn K mg x st ps)(S:FnScope N ps (defScope st))(len:∀vs H Q E,sp vs H Q E->vs.length=ps.length)
 (qQ:∀(f:xb) (qF:qY) (A:Around) (outer:List Env) (s:qZ) (H:Hp) (vs:List V) (Q:VK) (E:XK),Room k (A.deeper (envOfC x (defScope st) s.heap.objs.size f qF))->sp vs H Q E ->
  ∃t,PSs (Q7 CX0 P w K mg base N x (defScope st) f qF A outer s H E).nox (defBody st) t/\t { nx:=λ_ H'=>Q .non H',rt:=Q } (J2 N vs) H):Def P w K mg base x (k+1) ps sp:=by
 obtain⟨f,fd,FF,b,m⟩:=F.ex;exact⟨f,fd,FF.ok S len (qQ f),b,FF.kp,m⟩
end
section
variable {X:Cx}{k j:Nat}{ps:qB}{sp:Sp}{x:Str}{p pos:Pos}{e:Expr}{es:List Expr}{t:TA}
def xI(D:Def X.prog X.w X.K X.mg X.base x j ps sp)(hr:Room k X.A)(hg:Gl X x)(ha:PA X (e::es) t)(hjk:j<=k:=by decide)(hdb:(x==("__debug__" : Str))=false:=by decide)
 (he:starEach (e::es) X.env=(false,eval e X.env)::starEach es X.env:=by rfl) (qW:(backTo pos (starEach es X.env)).any (·.1)=false:=by rfl) :
 PE X (.Call (.Name x p) (e::es) [] pos) (Zb sp [] E0 t):=by
 obtain⟨f,fd,F,b,kp,m⟩:=D.ex;exact ft F (hr.mono hjk) hg m kp b .nil rA ha hdb he qW
end
def xU{c:Prop}[Decidable c]{A B:Prop}(h1:c->A)(h2:¬c->B):if decide c=true then A else B:=by
 by_cases h:c
 . rw[ke (kf h)];exact h1 h
 . rw[k9 (by rw[kg h];exact jQ)];exact h2 h
def Y9{c:Prop}[Decidable c]{A B:Prop}(h1:¬c->A)(h2:c->B):if (!decide c)=true then A else B:=by
 by_cases h:c
 . rw[k9 (by rw[kf h];exact jQ)];exact h2 h
 . rw[ke (by rw[kg h];rfl)];exact h1 h
def bx(ns:qD)(k:Nat):Jw (ns.map V.int) (some (k:Int)) none=(ns.drop k).map V.int:=by
 unfold Jw;rw[HT.sIx_nat,HT.sIx_none,jC,<- List.map_drop,<- List.map_take];congr 1
 by_cases h:k<=ns.length
 . rw[Nat.min_eq_left h,kE (by rw[j8];exact jG _)]
 . have h':ns.length<=k:=by omega
   rw[Nat.min_eq_right h',kF (jG _),kF h'];simp
def bz(xs:List V)(k:Nat):Jw xs (some (k:Int)) none=xs.drop k:=by
 unfold Jw;rw[HT.sIx_nat,HT.sIx_none]
 by_cases h:k<=xs.length
 . rw[Nat.min_eq_left h,kE (by rw[j8];exact jG _)]
 . have h':xs.length<=k:=by omega
   rw[Nat.min_eq_right h',kF (jG _),kF h'];simp
def JZ{K:qu}{H:Hp}{a:xb}{xs:List V}(h:SqL K H a xs):aY K (.ref a) H xs.length := .inl ⟨xs,h,rfl⟩
def xj{X:Cx}{e:Expr}{es:List Expr}{te:TE}{t:TA}(ha:PE X e te)(hr:PA X es t)(hs:starEach (e::es) X.env=(false,eval e X.env)::starEach es X.env):PA X (e::es) (J8 te t):=xC ha hr hs
end L2
namespace PySem
section
variable {prog:xf}{w:xh}{A:Around}{E:qk}{R:Result->qZ->Prop}{s:qZ}
def rN(I:Nat->qZ->Prop)
 (turn:∀n s,I n s->wpAny (model prog w) A (pyNext it) (λr s₁=>match r with
  |none=>R (.ok .next) s₁
  |some v=>wpAny (model prog w) A (letOwnedTupleGo target it v) (λ_ s₁'=>wpAny (model prog w) A (assign target env v) (λ_ s₂ =>
   wpAny (model prog w) A (forIn ifs true λc r=>if r=true then do let ok <- isTrue c env (eval c env);pure (ForInStep.yield ok) else pure (ForInStep.yield r)) (λok s₃ =>
    if ok=true then wpAny (model prog w) A (eval elt env) (λx s₄ =>
     wpAny (model prog w) A (call (.builtin "list.append") [acc,x]) (λ_ s₅=>∃m,m<n/\I m s₅) (notedBy (model prog w) A env λe s'=>R (.error e) s') s₄) (notedBy (model prog w) A env λe s'=>R (.error e) s') s₃
    else ∃m,m<n/\I m s₃) (notedBy (model prog w) A env λe s'=>R (.error e) s') s₂) (notedBy (model prog w) A env λe s'=>R (.error e) s') s₁') (notedBy (model prog w) A env λe s'=>R (.error e) s') s₁) (notedBy (model prog w) A env λe s'=>R (.error e) s') s)
 (n:Nat) (h:I n s) :
 codeAny (model prog w) A (.compLoop (.ListComp elt [⟨target,qN,ifs,0⟩] scope pos) 0 it acc env) R s:=by
 refine codeAny_loop rfl I (λn s hI=>?_) n h;show wpAny _ A ((compTurn (.ListComp elt [⟨target,qN,ifs,0⟩] scope pos) 0 it acc env).onRaise (λx=>do noteFrame x env;theTreesLotGoes x)) _ _ s;refine wpAny_noted ?_;rw[compTurn_list];refine k7 (wpAny_standAt (k7 (kx (turn n s hI) (λr s₁ h₁=>?_) λ_ _ h'=>h')))
 cases r with
 |none=>exact k8 h₁
 |some v =>
  refine k7 (kx h₁ (λ_ s₁' h₁'=>?_) λ_ _ h'=>h');refine k7 (kx h₁' (λ_ s₂ h₂=>k7 (kx h₂ (λok s₃ h₃=>?_) λ_ _ h'=>h')) λ_ _ h'=>h')
  cases ok with
  |false=>exact k8 ⟨rfl,h₃⟩
  |true =>
   exact k7 (k7 (kx h₃ (λx s₄ h₄=>k7 (kx h₄ (λ_ s₅ h₅=>k8 (k8 ⟨rfl,h₅⟩)) λ_ _ h'=>h')) λ_ _ h'=>h'))
end
end PySem
namespace L2
open PySem PySem.Spec PyProof.Rows
section
variable {X:Cx}
def cap(ix:qC)(σ:St):St:=ix.map λi=>(σ[i]?).getD none
def JL(ix:qC)(wi:TI)(tt:TT)(te:TE):TE:=λσ H Q=>wi σ H λJ H1=>∀D,H1 D=none->∃W:Nat->Nat->Hp->Prop,(∃m,W 0 m (upd H1 D (.lst []))) /\
 ∀i m H,W i m H->(J.stop i H/\Q (.ref D) H)\/(J.go i H/\∀x H',J.yld i H x H'->tt (some x::cap ix σ) H' λb H2 =>
  if b=true then te (some x::cap ix σ) H2 λy H3=>∃ys,H3 D=some (.lst ys)/\ys.length<sizeLine/\∃m',m'<m/\W (i+1) m' (upd H3 D (.lst (ys++[y]))) else ∃m',m'<m/\W (i+1) m' H2)
def Qj(X:Cx)(zs M:qB)(scope:Scope)(cl:List (Str×xb))(C:xb)(qE:qr)(fp:List xb)(s:qZ)(H:Hp):Cx where
 prog:=X.prog
 w:=X.w
 K:=X.K
 mg:=X.mg
 base:=X.base
 A:=X.A
 N:=zs++M
 s₀:=s
 H₀:=H
 env:=compEnvC scope cl C X.env
 outer:=X.stack
 stack:=X.stack
 ex:=fp
 calm:=X.calm
 fn:=λ_=>false
 pn:=X.pn++qE
 xe:=λ_ _=>False
abbrev Zi(X:Cx)(x:Str)(M:qB)(scope:Scope)(cl:List (Str×xb))(C:xb)(qE:qr)(fp:List xb)(s:qZ)(H:Hp):Cx:=Qj X [x] M scope cl C qE fp s H
structure CompOk (X:Cx) (x:Str) (M:qB) (ix:qC) (scope:Scope) (cl:List (Str×xb)):Prop where
 clos:closureFor scope X.env=pure cl
 kind:scope.kind=.function
 names:∀y∈scope.names,y.2=.local->scope.names.lookup y.1=some .local
 nocell:∀y∈scope.names,y.2 ≠ .cell
 loc:scope.names.lookup x=some .local
 sub:∀y c,cl.lookup y=some c->X.env.cells.lookup y=some c
 has:∀y,((compEnvC scope cl 0 X.env).kindOf y=some .cell\/(compEnvC scope cl 0 X.env).kindOf y=some .free)->∃c,cl.lookup y=some c
 len:ix.length=M.length
 cap:∀(i:Nat) (y:Str) (j:Nat),M[i]?=some y->ix[i]?=some j->X.N[j]?=some y/\Vis X.env.scope y/\∃c,cl.lookup y=some c/\((compEnvC scope cl 0 X.env).kindOf y=some .cell\/(compEnvC scope cl 0 X.env).kindOf y=some .free)/\X.env.kindOf y≠some .local
theorem rO{x:Str}{zs M:qB}{ix:qC}{scope:Scope}{cl:List (Str×xb)}{qE:qr}{σ:St}{H:Hp}{s:qZ}{fp:List xb}{h4:Heap}{tk:Nat}{m:qm}(O:CompOk X x M ix scope cl)(I:Inv X qE σ H s)
 (hfp:∀b∈fp,FpOk X qE H b/\∃o,s.heap.get? b=some o) (hn:h4.Ns s.heap.objs.size m) (hk:∀b o,s.heap.get? b=some o->h4.get? b=some o) :
 Inv (Qj X zs M scope cl s.heap.objs.size qE fp s H) [] (zs.map (λ_=>none)++cap ix σ) H { s with heap:=h4,toks:=tk }:=by
 have fresh:H s.heap.objs.size=none:=I.hok.fresh (jG _)
 have ex1:∀b∈fp,b≠s.heap.objs.size:=λb hb z=>by
  obtain⟨_,o,e⟩:=hfp b hb;exact absurd (jL e) (by rw[z];exact js _)
 refine⟨⟨I.ok.mod,O.kind,I.ok.glob,I.ok.blt,jG _,λy z c h1 h2=>I.ok.inj y z c (O.sub y c h1) (O.sub z c h2),λy hy=>O.has y hy,λy c h=>(nomatch h),I.ok.hd,I.ok.frames,.inl rfl,λb hb=>⟨ex1 b hb,λy c e=>(hfp b hb).1.2.2.2.2.1 y c (O.sub y c e)⟩,
  I.bs,je I.ok.bsz I.sz,λb o e hb=>?_,λb hb z=>?_,I.stack,I.stkFree⟩,rfl,I.bare,Un.kept hk,⟨m,hn,λi y v h1 h2 h3=>?_⟩,λy c e=>?_,fresh,λy c e=>I.freeC y c (O.sub y c e),λp hp=>?_,I.hok.kept hk,?_⟩
 . have f:=(hfp b hb).1.2.2.2.1;rcases f with f | f
   . exact I.ok.noex b o e f
   . exact absurd (jX (jL e) (je I.ok.bsz f)) (js _)
 . rcases jB.mp (I.stkSub b z) with q | q
   . exact(hfp b hb).1.2.1 q
   . exact(hfp b hb).1.2.2.1 q
 . have h1:(zs ++ M)[i]? = some y:=h1;have h2:(zs.map (λ_=>none) ++ cap ix σ)[i]? = some (some v):=h2
   by_cases hz:i<zs.length
   . rw[List.getElem?_append_left (by rw[jC];exact hz),jJ,jD hz]at h2;exact absurd (Option.some.inj h2) (λz=>nomatch z)
   . rw[List.getElem?_append_right 'd']at h1;rw[List.getElem?_append_right (by rw[jC];omega),jC]at h2;generalize i - zs.length=i at h1 h2;have h2':(ix.map λi=>(σ[i]?).getD none)[i]? = some (some v):=h2;rw[jJ]at h2'
     cases ej:ix[i]? with
     |none=>rw[ej]at h2';cases h2'
     |some j =>
      rw[ej]at h2';have h2'':(σ[j]?).getD none=some v:=Option.some.inj h2';obtain⟨hN,hV,c,hc,hk',hnl⟩:=O.cap i y j h1 ej
      cases eσ:σ[j]? with
      |none=>rw[eσ]at h2'';cases h2''
      |some ov =>
       rw[eσ]at h2'';have:ov=some v:=h2'';subst this;obtain⟨mm,hnn,hl⟩:=I.loc;obtain⟨u,r,l⟩:=hl j y v hN eσ hV;refine⟨u,r,?_⟩;rcases l with ⟨k,_⟩|⟨k,c',e',z⟩
       . exact absurd k hnl
       . have:c'=c:=Option.some.inj (e'.symm.trans (O.sub y c hc));subst this;obtain⟨o,ho,hd⟩:=z;exact .inr ⟨hk',c',hc,o,hk _ _ ho,hd⟩
 . obtain⟨v,o,ho,hd⟩:=I.cell y c (O.sub y c e);exact⟨v,o,hk _ _ ho,hd⟩
 . have hp':p∈X.pn ++ qE:=by
    have:=(jI.mp hp);exact this.elim id λz=>absurd z 'j'
   obtain⟨e,n,ne,nf,d⟩:=I.pin p hp';refine⟨hk _ _ e,n,λz=>?_,λz=>?_,d⟩
   . exact absurd (jL e) (by rw[show p.1=s.heap.objs.size from z];exact js _)
   . rcases jB.mp (I.stkSub _ z) with q | q
     . exact ne q
     . exact nf q
 . show(zs.map _++ix.map _).length=(zs++M).length;simp[O.len]
end
section
variable {X:Cx}
def PTs(X:Cx)(ifs:List Expr)(t:TT):Prop :=
 ∀(qE:qr) (s:qZ) (σ:St) (H:Hp) (Q:Bool->Hp->Prop),Inv X qE σ H s->t σ H Q ->
  wpAny (model X.prog X.w) X.A (forIn ifs true λc r=>if r=true then do let ok <- isTrue c X.env (eval c X.env);pure (ForInStep.yield ok) else pure (ForInStep.yield r)) (TP X qE σ Q) X.xe s
def Q9:TT:=λ_ H Q=>Q true H
def JP:PTs X [] Q9:=λ_ _ _ H _ I h=>wpAny_tests_nil ⟨H,I,h⟩
def Yb(h:PT X c t):PTs X [c] t:=λqE s σ H Q I q=>wpAny_tests_one (h qE s σ H Q I q)
theorem gh{elt qN tg:Expr}{x:Str}{g:TG}{ifs:List Expr}{scope:Scope}{cl:List (Str×xb)}{pos:Pos}{zs M:qB}{ix:qC}{tt:TT}{te:TE}{qE:qr}{σ:St}{H2:Hp}{s2:qZ}{it:xb}{fp:List xb}{tn:Nat->Heap->Prop}{J:It}
 (O:CompOk X x M ix scope cl) (hc:X.calm=true) (hg:∀C qE fp s H,PG (Qj X zs M scope cl C qE fp s H) tg g)
 (ht:∀C qE fp s H,PTs (Qj X zs M scope cl C qE fp s H) ifs tt) (he:∀C qE fp s H,PE (Qj X zs M scope cl C qE fp s H) elt te)
 (I2:Inv X qE σ H2 s2) (T:Turn X.prog X.w X.K (tg) J fp it tn) (st2:tn 0 s2.heap) (f2:∀b∈fp,FpOk X qE H2 b)
 {RR:qY->xb->Result->qZ->Prop}{E:qk}{Q:VK}
 (h:∀D,H2 D=none->∃W:Nat->Nat->Hp->Prop,(∃m,W 0 m (upd H2 D (.lst []))) /\
  ∀i m H,W i m H->(J.stop i H/\Q (.ref D) H)\/(J.go i H/\∀x H',J.yld i H x H'->∀vs:St,vs.length=zs.length->g x (vs++cap ix σ) H' λσ2 H'=>∃us:St,us.length=zs.length/\σ2=us++cap ix σ/\tt σ2 H' λok H2 =>
   if ok=true then te σ2 H2 λy H3=>∃ys,H3 D=some (.lst ys)/\ys.length<sizeLine/\∃m',m'<m/\W (i+1) m' (upd H3 D (.lst (ys++[y]))) else ∃m',m'<m/\W (i+1) m' H2))
 (hR:∀(C D:xb) (H':Hp) (s':qZ) (m:qm),Inv X qE σ H' s'->Q (.ref D) H'->s'.heap.Ns C m->H' C=none->C≠X.env.locals->X.s₀.heap.objs.size<=C->(∀y c,X.env.cells.lookup y=some c->c≠C)->(∀p∈X.pn++qE,p.1≠C)->RR (.ref D) C (.ok .next) s') :
 wpAny (model X.prog X.w) X.A (newList []) (λacc s₃=>wpAny (model X.prog X.w) X.A (newFunctionEnv scope X.env.globals cl [] X.env.qual none .none (some X.env)) (λcenv s₄ =>
  codeAny (model X.prog X.w) X.A (.compStart (.ListComp elt [⟨tg,qN,ifs,0⟩] scope pos) 0 (.ref it) acc { cenv with scope:=relabel scope X.env }) (RR acc cenv.locals) s₄) E s₃) E s2:=by
 have hD:H2 s2.heap.objs.size=none:=I2.hok.fresh (jG _);obtain⟨W,⟨m0,w0⟩,turn⟩:=h s2.heap.objs.size hD;refine kq (wpAny_newFunctionEnv O.nocell (by intro y hy;simp at hy) (λh₁ hns₁ hsb₁=>?_) O.kind);dsimp only at hns₁ hsb₁ ⊢;generalize hH3:s2.heap.push { cls := .type "list",dict:=none,data := .seq ([]:qA).toArray }=hp3 at hns₁ hsb₁ ⊢;have k23:∀b o,s2.heap.get? b=some o->hp3.get? b=some o:=λb o e=>hH3 ▸ jF _ e
 have I3:Inv X qE σ (upd H2 s2.heap.objs.size (.lst [])) { s2 with heap:=hp3,toks:=s2.toks }:=by
  refine I2.laid (o := .lst []) (t':=s2.toks) k23 (jG _) ?_;exact⟨jS _,[],0,.nil,hH3 ▸ jO _ rfl⟩
 have hfp:∀b∈fp,FpOk X qE (upd H2 s2.heap.objs.size (.lst [])) b/\∃o,hp3.get? b=some o:=λb hb=>by
  obtain⟨o,e,_⟩:=T.obj _ _ st2 b hb;obtain⟨q0,q1⟩:=f2 b hb;exact⟨⟨by rw[xz (jZ (jL e))];exact q0,q1⟩,o,k23 b o e⟩
 have k34:∀b o,hp3.get? b=some o->h₁.get? b=some o:=λb o e=>hsb₁.extBut b o (jZ (jL e)) (jF _ e);have I4:=rO (zs:=zs) (tk:=s2.toks+([]:List (Str×qY)).length) O I3 hfp hns₁ k34;have st4:tn 0 h₁:=T.keep _ _ _ st2 λb hb o e=>k34 b o (k23 b o e);have fr4:∀b∈fp,(upd H2 s2.heap.objs.size (.lst [])) b=none:=λb hb=>(hfp b hb).1.1
 -- what stays true of the iterator's objects in the block
 have stat:∀{H':Hp},(∀b∈fp,H' b=none)->∀b∈fp,FpOk (Qj X zs M scope cl hp3.objs.size qE fp { s2 with heap:=hp3,toks:=s2.toks } (upd H2 s2.heap.objs.size (.lst []))) [] H' b:=λhn b hb=>by
  obtain⟨⟨_,q1,q2,q3,q4,q5⟩,o,e⟩:=hfp b hb;refine⟨hn b hb,jZ (jL e),λz=>?_,.inl hb,λy c ec=>q4 y c (O.sub y c ec),λp hp=>?_⟩
  . rcases jB.mp (I3.stkSub b z) with q | q
    . exact q1 q
    . exact q2 q
  . have hp':p∈X.pn++qE:=(jI.mp hp).elim id λz=>absurd z 'j';exact q5 p hp'
 have loop:codeAny (model X.prog X.w) X.A (.compLoop (.ListComp elt [⟨tg,qN,ifs,0⟩] scope pos) 0 (.ref it) (.ref s2.heap.objs.size) (compEnvC scope cl hp3.objs.size X.env)) (RR (.ref s2.heap.objs.size) hp3.objs.size)
  { s2 with heap:=h₁,toks:=s2.toks+([]:List (Str×qY)).length }:=by
  refine rN (λn s'=>∃i vs H',vs.length=zs.length/\Inv (Qj X zs M scope cl hp3.objs.size qE fp { s2 with heap:=hp3,toks:=s2.toks } (upd H2 s2.heap.objs.size (.lst []))) [] (vs++cap ix σ) H' s'/\tn i s'.heap/\(∀b∈fp,H' b=none)/\W i n H') ?_ m0 ⟨0,_,_,jC ..,I4,st4,fr4,w0⟩;rintro n s5 ⟨i,v5,H5,l5,I5,st5,fr5,w5⟩;rcases turn i n H5 w5 with ⟨stop,qn⟩|⟨go,step⟩
  . refine thn (T.done (Qj X zs M scope cl hp3.objs.size qE fp { s2 with heap:=hp3,toks:=s2.toks } (upd H2 s2.heap.objs.size (.lst []))) rfl rfl rfl hc i [] s5 _ H5 _ I5 (stat fr5) st5 stop) λr s6 ⟨hr,I6⟩=>?_;subst hr;obtain⟨m6,hn6,_⟩:=id I6.loc
    have hch:∀b∈fp,(b∈X.ex\/X.s₀.heap.objs.size<=b)/\b≠X.env.locals/\(∀x c,X.env.cells.lookup x=some c->c≠b)/\∀p∈X.pn++qE,p.1≠b:=λb hb=>by
     obtain⟨⟨_,q1,q2,q3,q4,q5⟩,_⟩:=hfp b hb;exact⟨q3,q1,q4,q5⟩
    have IX:Inv X qE σ H5 s6:=I3.call' (s':=s6) (ch:=fp) I6.os I6.base I6.hok I6.bare hch;refine hR _ _ _ _ m6 IX qn hn6 I6.free (kI I3.lt) I3.sz (λy c e z=>?_) λp hp z=>?_
    . obtain⟨v,q⟩:=I3.cell y c e;exact absurd q.lt (by rw[z];exact js _)
    . exact absurd (jL (I3.pin p hp).1) (by rw[z];exact js _)
  . refine thn (T.item (Qj X zs M scope cl hp3.objs.size qE fp { s2 with heap:=hp3,toks:=s2.toks } (upd H2 s2.heap.objs.size (.lst []))) rfl rfl rfl hc i [] s5 _ H5 _ I5 (stat fr5) st5 go) λr s6 ⟨u,hr,h6⟩=>?_;subst hr;refine thn h6 λ_ s7 c9=>?_;obtain⟨xv,H7,I7,r7,y7,st7,fr7⟩:=c9;have I7':=I7.pinned (stat fr7) (T.obj _ _ st7)
    have keepT:∀{σ8:St}{H8:Hp}{s8:qZ},Inv (Qj X zs M scope cl hp3.objs.size qE fp { s2 with heap:=hp3,toks:=s2.toks } (upd H2 s2.heap.objs.size (.lst []))) ([]++Z7 fp s7.heap) σ8 H8 s8->tn (i+1) s8.heap/\∀b∈fp,H8 b=none:=λI8=>by
     refine⟨T.keep _ _ _ st7 λb hb o e=>(I8.pin (b,o) (jM _ (jM _ (ZV hb e)))).1,λb hb=>?_⟩;obtain⟨o,e,d⟩:=T.obj _ _ st7 b hb;exact(I8.pin (b,o) (jM _ (jM _ (ZV hb e)))).2.1
    refine kx (hg _ _ _ _ _ _ s7 _ H7 xv u _ I7' r7 (step xv H7 y7 _ l5)) (λ_ s8 c9=>?_) λ_ _ z=>z.elim;obtain⟨σ8,H8,I8,us,lu,e8,step'⟩:=c9;subst e8;refine kx (ht _ _ _ _ _ _ s8 _ _ _ I8 step') (λok s9 ⟨H9,I9,q9⟩=>?_) λ_ _ z=>z.elim
    cases ok with
    |false =>
     rw[k9 jQ]
     have q9':∃m',m'<n/\W (i+1) m' H9:=by
      have:=q9
      rwa [k9 jQ]at this
     obtain⟨m',hm,w9⟩:=q9';obtain⟨k1,k2⟩:=keepT I9;exact⟨m',hm,i+1,us,H9,lu,I9.unpinned,k1,k2,w9⟩
    |true =>
     rw[ke rfl]at q9 ⊢;refine kx (he _ _ _ _ _ _ s9 _ H9 _ I9 q9) (λyv s10 c9=>?_) λ_ _ z=>z.elim;obtain⟨y,H10,I10,r10,ys,eD,hz,m',hm,w10⟩:=c9;refine kx (Jy (X:=Qj X zs M scope cl hp3.objs.size qE fp { s2 with heap:=hp3,toks:=s2.toks } (upd H2 s2.heap.objs.size (.lst []))) _ s10 _ H10 (.ref s2.heap.objs.size) [y] (.ref s2.heap.objs.size) [yv] (λ_ H11=>H11=upd H10 s2.heap.objs.size (.lst (ys++[y]))) I10 rfl (.cons r10 .nil) ⟨_,ys,y,rfl,rfl,eD,hz,rfl⟩) (λ_ s11 c9=>?_) λ_ _ z=>z.elim;obtain⟨_,H11,I11,_,e11⟩:=c9;subst e11;obtain⟨k1,k2⟩:=keepT I11;exact⟨m',hm,i+1,us,_,lu,I11.unpinned,k1,k2,w10⟩
 exact codeAny_compStart_list loop (T.self X.A 0 _ _ _ st4 loop)
def rP{vs:St}{x:Str}(h:vs.length=[x].length):∃v,vs=[v]:=match vs,h with | [v],_=>⟨v,rfl⟩
theorem gj {ix : List Nat} {tt : TT} {te : TE} {J : It} {Q : VK} {x : Str} (h : ∀ D, H2 D = none -> ∃ W : Nat -> Nat -> Hp -> Prop, (∃ m, W 0 m (upd H2 D (.lst []))) /\
      ∀i m H,W i m H->(J.stop i H/\Q (.ref D) H)\/(J.go i H/\∀x H',J.yld i H x H'->tt (some x::cap ix σ) H' λb H2 =>
       if b=true then te (some x::cap ix σ) H2 λy H3=>∃ys,H3 D=some (.lst ys)/\ys.length<sizeLine/\∃m',m'<m/\W (i+1) m' (upd H3 D (.lst (ys++[y]))) else ∃m',m'<m/\W (i+1) m' H2)) :
 ∀D,H2 D=none->∃W:Nat->Nat->Hp->Prop,(∃m,W 0 m (upd H2 D (.lst []))) /\
  ∀i m H,W i m H->(J.stop i H/\Q (.ref D) H)\/(J.go i H/\∀y H',J.yld i H y H'->∀vs:St,vs.length=[x].length->xF 0 y (vs++cap ix σ) H' λσ2 H'=>∃us:St,us.length=[x].length/\σ2=us++cap ix σ/\tt σ2 H' λok H2 =>
   if ok=true then te σ2 H2 λy H3=>∃ys,H3 D=some (.lst ys)/\ys.length<sizeLine/\∃m',m'<m/\W (i+1) m' (upd H3 D (.lst (ys++[y]))) else ∃m',m'<m/\W (i+1) m' H2):=λD hD=>by
 obtain⟨W,w0,t⟩:=h D hD;refine⟨W,w0,λi m H w=>(t i m H w).imp id λc9=>?_⟩;obtain⟨g,st⟩:=c9;refine ⟨g,λy H' hy vs hv=>?_⟩;obtain⟨v,rfl⟩:=rP hv;exact⟨[some y],rfl,rfl,st y H' hy⟩
def gk(O:CompOk X x M ix scope cl)(nd:(x::M).Nodup):∀C qE fp s H,PG (Zi X x M scope cl C qE fp s H) (.Name x px) (xF 0):=λ_ _ _ _ _=>Ju nd rfl (.inl (lookup_relabel_local O.loc)) (.inr (lookup_relabel_local O.loc))
def Qa
 (O:CompOk X x M ix scope cl) (hc:X.calm=true) (nd:(x::M).Nodup) (hi:PI X (.Name x px) qN wi)
 (ht:∀C qE fp s H,PTs (Zi X x M scope cl C qE fp s H) ifs tt) (he:∀C qE fp s H,PE (Zi X x M scope cl C qE fp s H) elt te) (hs:∀x,foldedSetIterable qN X.env x=pure x:=by intro _;rfl) :
 PE X (.ListComp elt [⟨.Name x px,qN,ifs,0⟩] scope pos) (JL ix wi tt te):=by
 intro qE s σ H Q I h;rw[eval_ListComp];refine wpAny_comprehension_free (use:=none) rfl hs O.clos O.kind O.names (thn (hi qE s σ H _ I h) λxv s₁ h₁=>thn h₁ λitv s₂ c9=>?_);obtain⟨it,fp,tn,J,H2,e,I2,T,st2,f2,hW⟩:=c9;subst e;refine gh (RR:=λacc C=>compPost (model X.prog X.w) X.A X.xe none (EP X qE σ Q) acc C) (Q:=Q) O hc (gk O nd) ht he I2 T st2 f2 (gj hW) ?_;intro C D H' s' m IX q hn hC hCL hCz hcc hpc;refine⟨m,hn,λh' hs'=>⟨.ref D,H',?_,rfl,q⟩⟩;exact IX.turned (h':=h') (t':=s'.toks) (λb o hb e=>hs'.extBut b o hb e) hC (Ne.symm hCL).symm (.inr hCz) hcc hpc
end
section
variable {X:Cx}
def XF{x y:Str}{px py:Pos}{ifs:List Expr}{scope:Scope}{cl:List (Str×xb)}{pos spos:Pos}{M:qB}{ix:qC}{wi:TI}{tt:TT}{te:TE}{j:Nat}
 (hN:X.N.Nodup) (hj:X.N[j]?=some y) (hy:X.env.scope.names.lookup y=some .local)
 (O:CompOk X x M ix scope cl) (hc:X.calm=true) (nd:(x::M).Nodup) (hi:PI X (.Name x px) qN wi)
 (ht:∀C qE fp s H,PTs (Zi X x M scope cl C qE fp s H) ifs tt) (he:∀C qE fp s H,PE (Zi X x M scope cl C qE fp s H) elt te)
 (hsw:swapsWith (.ListComp elt [⟨.Name x px,qN,ifs,0⟩] scope pos) (some (.Name y py)) spos.line X.env=pure true:=by rfl) (hs:∀x,foldedSetIterable qN X.env x=pure x:=by intro _;rfl) :
 PS X (.Assign [.Name y py] (.ListComp elt [⟨.Name x px,qN,ifs,0⟩] scope pos) spos) (Qr (JL ix wi tt te) (xF j)):=by
 intro qE s σ H D I h;rw[exec_Assign_Name_used _ _ _ _ hsw];refine k7 (wpAny_standAt (k7 ?_));show wpAny _ X.A (do let _ <- comprehension (.ListComp elt [⟨.Name x px,qN,ifs,0⟩] scope pos) scope X.env _ (newList []) false (eval qN X.env) (some (assign (.Name y py) X.env))) _ _ s
 refine k7 (kx (wpAny_comprehension_free (use:=some (assign (.Name y py) X.env)) (Q:=λ_ s'=>SP X qE D .next s') rfl hs O.clos O.kind O.names
  (thn (hi qE s σ H _ I h) λxv s₁ h₁=>thn h₁ λitv s₂ ⟨it,fp,tn,J,H2,e,I2,T,st2,f2,hW⟩=>?_)) (λ_ s' hq=>k8 (k8 hq)) λ_ _ e=>e)
 subst e;refine gh (RR:=λacc C=>compPost (model X.prog X.w) X.A X.xe (some (assign (.Name y py) X.env)) (λ_ s'=>SP X qE D .next s') acc C) (Q:=λv H'=>D.nx (σ.set j (some v)) H') O hc (gk O nd) ht he I2 T st2 f2 (gj (Q:=λv H'=>D.nx (σ.set j (some v)) H') hW) ?_;intro C Da H' s' m IX q hn hC hCL hCz hcc hpc;show wpAny _ X.A (assign (.Name y py) X.env (.ref Da)) _ _ _;refine wpAny_assign_Name (dZ (v := .ref Da) IX hN hj (.inl hy) rfl (λs'' I'' ⟨a,sb,ha⟩=>?_) (.inr hy))
 have hCa:C≠a:=by
  rcases ha with z|z
  . rw[z];exact hCL
  . exact λw=>hcc _ _ z w.symm
 refine⟨m,hn.at' λo e=>sb.extBut C o hCa e,λh' hs'=>⟨_,H',?_,q⟩⟩;exact I''.turned (h':=h') (t':=s''.toks) (λb o hb e=>hs'.extBut b o hb e) hC hCL (.inr hCz) hcc hpc
def AllL{α:Type}(P:α->Prop):List α->Prop
 | []=>True
 |a::r=>P a/\AllL P r
theorem AllL.mem{α:Type}{P:α->Prop}:∀{l:List α},AllL P l->∀a∈l,P a
 |_::_,h,_,.head _=>h.1
 |_::_,h,a,.tail _ m=>AllL.mem h.2 a m
def capOk(X:Cx)(scope:Scope)(cl:List (Str×xb)):qB->qC->Prop
 |y::M,j::ix=>(X.N[j]?=some y/\X.env.scope.names.lookup y=some .cell/\(relabel scope X.env).names.lookup y=some .cell/\(cl.lookup y).isSome=true)/\capOk X scope cl M ix
 | [],[]=>True
 |_,_=>False
theorem capOk.len:∀{M:qB}{ix:qC},capOk X scope cl M ix->ix.length=M.length
 | [],[],_=>rfl
 |_::_,_::_,h=>kN Nat.succ (capOk.len h.2)
 | [],_::_,h=>h.elim
 |_::_,[],h=>h.elim
theorem capOk.at:∀{M:qB}{ix:qC},capOk X scope cl M ix->∀(i:Nat) (y:Str) (j:Nat),M[i]?=some y->ix[i]?=some j ->
 (X.N[j]?=some y/\X.env.scope.names.lookup y=some .cell/\(relabel scope X.env).names.lookup y=some .cell/\(cl.lookup y).isSome=true)
 | [],[],_,_,_,_,e,_=>by simp at e
 |_::_,_::_,h,0,_,_,e1,e2=>by simp at e1 e2;subst e1 e2;exact h.1
 |_::_,_::_,h,i+1,y,j,e1,e2=>capOk.at h.2 i y j (by simpa using e1) (by simpa using e2)
 | [],_::_,h,_,_,_,_,_=>h.elim
 |_::_,[],h,_,_,_,_,_=>h.elim
def rQ(names:List (Str×NameKind))(cl:List (Str×xb)):Bool:=names.all λp => !(p.2==.cell||p.2==.free)||(cl.lookup p.1).isSome
theorem CompOk.of(clos:closureFor scope X.env=pure cl)(kind:scope.kind=.function)
 (names:∀y∈scope.names,y.2=.local->scope.names.lookup y.1=some .local) (nocell:∀y∈scope.names,y.2 ≠ .cell) (loc:scope.names.lookup x=some .local)
 (sub:AllL (λp=>X.env.cells.lookup p.1=some p.2) cl) (has:rQ (relabel scope X.env).names cl=true) (cap:capOk X scope cl M ix):CompOk X x M ix scope cl where
 clos:=clos
 kind:=kind
 names:=names
 nocell:=nocell
 loc:=loc
 sub:=λy c h=>sub.mem _ (PySem.mem_of_lookup h)
 has:=λy h=>by
  have h':(relabel scope X.env).names.lookup y=some .cell\/(relabel scope X.env).names.lookup y=some .free:=h
  have q:∀k,(k=NameKind.cell\/k=NameKind.free)->(relabel scope X.env).names.lookup y=some k->∃c,cl.lookup y=some c:=λk hk e=>by
   have:=List.all_eq_true.mp has _ (PySem.mem_of_lookup e);have hk':(!(k==NameKind.cell||k==NameKind.free))=false:=by rcases hk with rfl|rfl<;>rfl
   simp only[hk',Bool.false_or]at this;exact jl.mp this
  rcases h' with e|e
  . exact q _ (.inl rfl) e
  . exact q _ (.inr rfl) e
 len:=cap.len
 cap:=λi y j e1 e2=>by
  obtain⟨h1,h2,h3,h4⟩:=cap.at i y j e1 e2;obtain⟨c,hc⟩:=jl.mp h4;exact⟨h1,.inr (.inl h2),c,hc,.inl h3,by rw[show X.env.kindOf y=X.env.scope.names.lookup y from rfl,h2];decide⟩
end
inductive D where
 |non|bl (b:Bool)|int (i:Int)|str (x:Str)|tup (ds:List D)|lst (ds:List D)
mutual
def IsD(K:qu)(H:Hp):D->V->Prop
 |.non,x=>x=.non
 |.bl b,x=>x=.bl b
 |.int i,x=>x=.int i
 |.str z,x=>x=.str z
 |.tup ds,x=>∃a xs,x=.ref a/\SqT K H a xs/\IsDs K H ds xs
 |.lst ds,x=>∃a xs,x=.ref a/\SqL K H a xs/\IsDs K H ds xs
def IsDs(K:qu)(H:Hp):List D->List V->Prop
 | [],xs=>xs=[]
 |d::ds,xs=>∃x r,xs=x::r/\IsD K H d x/\IsDs K H ds r
end
mutual
def D.deep:D->Nat
 |.tup ds=>D.deeps ds+1
 |.lst ds=>D.deeps ds+1
 |_=>0
def D.deeps:List D->Nat
 | []=>0
 |d::ds=>max d.deep (D.deeps ds)
end
def Same.tupq{K:qu}{H H':Hp}{a:xb}{xs:List V}(e:Same H H')(h:SqT K H a xs):SqT K H' a xs:=by
 rcases h with (h|⟨o,h⟩)|h
 . exact .inl (.inl (e _ _ h))
 . exact .inl (.inr ⟨o,e _ _ h⟩)
 . exact .inr h
mutual
theorem IsD.same{K:qu}{H H':Hp}(e:Same H H'):∀{d:D}{x:V},IsD K H d x->IsD K H' d x
 |.non,_,h=>h
 |.bl _,_,h=>h
 |.int _,_,h=>h
 |.str _,_,h=>h
 |.tup _,_,⟨a,xs,h1,h2,h3⟩=>⟨a,xs,h1,e.tupq h2,IsDs.same e h3⟩
 |.lst _,_,⟨a,xs,h1,h2,h3⟩=>⟨a,xs,h1,e.seq h2,IsDs.same e h3⟩
theorem IsDs.same{K:qu}{H H':Hp}(e:Same H H'):∀{ds:List D}{xs:List V},IsDs K H ds xs->IsDs K H' ds xs
 | [],_,h=>h
 |_::_,_,⟨x,r,h1,h2,h3⟩=>⟨x,r,h1,IsD.same e h2,IsDs.same e h3⟩
end
theorem IsDs.length{K:qu}{H:Hp}:∀{ds:List D}{xs:List V},IsDs K H ds xs->xs.length=ds.length
 | [],_,h=>by
  have h':_=[]:=h;rw[h'];rfl
 |_::_,_,⟨x,r,h1,_,h3⟩=>by rw[h1];exact kN Nat.succ (IsDs.length h3)
theorem IsDs.get{K:qu}{H:Hp}:∀{ds:List D}{xs:List V}{i:Nat}{d:D},IsDs K H ds xs->ds[i]?=some d->∃x,xs[i]?=some x/\IsD K H d x
 | [],_,_,_,_,e=>by simp at e
 |_::_,_,0,_,⟨x,r,h1,h2,_⟩,e=>by
  simp at e;subst e h1;exact⟨x,rfl,h2⟩
 |_::_,_,i+1,_,⟨x,r,h1,_,h3⟩,e=>by
  obtain⟨y,e1,e2⟩:=IsDs.get (i:=i) h3 (by simpa using e);subst h1;exact⟨y,by simpa using e1,e2⟩
theorem IsDs.append{K:qu}{H:Hp}:∀{ds es:List D}{xs ys:List V},IsDs K H ds xs->IsDs K H es ys->IsDs K H (ds++es) (xs++ys)
 | [],_,_,_,h,h'=>by
  have:_=[]:=h;subst this;exact h'
 |_::_,_,_,_,⟨x,r,h1,h2,h3⟩,h'=>by subst h1;exact⟨x,_,rfl,h2,IsDs.append h3 h'⟩
section
variable {X:Cx}{qE:qr}{σ:St}{H:Hp}{s:qZ}
def Yc(n:Nat):(List.range n).all (λ_=>true)=true:=by simp
def Yd(A:Around):A.in1.units=A.units+1:=rfl
mutual
theorem rR(I:Inv X qE σ H s):∀(d:D) {A:Around}{x y:V}{u v:qY},IsD X.K H d x->IsD X.K H d y->RelV x u->RelV y v->A.units+d.deep<cLine->SeqAt.EqAt A s u v true
 |.non,_,_,_,_,_,hx,hy,rx,ry,_=>by
  have hx':_=V.non:=hx;have hy':_=V.non:=hy;subst hx' hy';cases rx;cases ry;exact SeqAt.EqAt.same _
 |.bl b,_,_,_,_,_,hx,hy,rx,ry,_=>by
  have hx':_=V.bl b:=hx;have hy':_=V.bl b:=hy;subst hx' hy';cases rx;cases ry;exact SeqAt.EqAt.same _
 |.int i,A,_,_,_,_,hx,hy,rx,ry,_=>by
  have hx':_=V.int i:=hx;have hy':_=V.int i:=hy;subst hx' hy';obtain⟨t,rfl⟩:=rx;obtain⟨t',rfl⟩:=ry;have:=SeqAt.EqAt.int_int (A:=A) (s:=s) i t i t'
  rwa [beq_self_eq_true]at this
 |.str z,A,_,_,_,_,hx,hy,rx,ry,_=>by
  have hx':_=V.str z:=hx;have hy':_=V.str z:=hy;subst hx' hy';obtain⟨t,rfl⟩:=rx;obtain⟨t',rfl⟩:=ry;have:=SeqAt.EqAt.str_str (A:=A) (s:=s) z t z t'
  rwa [beq_self_eq_true]at this
 |.tup ds,A,_,_,_,_,⟨a,xs,hx,qx,dx⟩,⟨b,ys,hy,qy,dy⟩,rx,ry,hu=>by
  subst hx hy
  cases rx;cases ry
  by_cases e:a=b
  . subst e;exact SeqAt.EqAt.same _
  . have hu':A.units + (D.deeps ds + 1) < cLine:=hu;obtain⟨its,r1,t1,_⟩:=I.tuple qx;obtain⟨jts,r2,t2,_⟩:=I.tuple qy
    have:=SeqAt.RcAt.tuples (A:=A) (e:=λ_=>true) t1 t2 'd' λj h1 h2=>by
     have q:=Zj I ds (A:=A.in1) dx dy r1 r2 (by rw[Yd];omega) j (by simpa using h1) (by simpa using h2);simpa using q
    have l1:=r1.length;have l2:=r2.length;have l3:=dx.length;have l4:=dy.length;have sz:(its.toArray.size==jts.toArray.size)=true:=by rw[jK,jK,beq_iff_eq];omega
    rw[Yc,sz]at this;exact SeqAt.EqAt.of_refs e this
 |.lst ds,A,_,_,_,_,⟨a,xs,hx,qx,dx⟩,⟨b,ys,hy,qy,dy⟩,rx,ry,hu=>by
  subst hx hy
  cases rx;cases ry
  by_cases e:a=b
  . subst e;exact SeqAt.EqAt.same _
  . have hu':A.units + (D.deeps ds + 1) < cLine:=hu;obtain⟨its,r1,t1,_⟩:=I.list qx;obtain⟨jts,r2,t2,_⟩:=I.list qy;have l1:=r1.length;have l2:=r2.length;have l3:=dx.length;have l4:=dy.length
    have:=SeqAt.RcAt.lists (A:=A) (e:=λ_=>true) t1.isList t2.isList (by rw[jK,jK];omega) 'd' λj h1 h2=>by
     have q:=Zj I ds (A:=A.in1) dx dy r1 r2 (by rw[Yd];omega) j (by simpa using h1) (by simpa using h2);simpa using q
    rw[Yc]at this;exact SeqAt.EqAt.of_refs e this
theorem Zj(I:Inv X qE σ H s):∀(ds:List D) {A:Around}{xs ys:List V}{us vs:qA},IsDs X.K H ds xs->IsDs X.K H ds ys->Vals xs us->Vals ys vs->A.units+D.deeps ds<cLine ->
 ∀(j:Nat) (h1:j<us.length) (h2:j<vs.length),SeqAt.EqAt A s us[j] vs[j] true
 | [],_,_,_,_,_,hx,_,rx,_,_=>λj h1 _=>by
  have hx':_=([]:List V):=hx;subst hx';have:=rx.length;simp at this;omega
 |d::ds,A,_,_,_,_,⟨x,xs,ex,hx,hxs⟩,⟨y,ys,ey,hy,hys⟩,rx,ry,hu=>by
  subst ex ey;have hu':A.units+max d.deep (D.deeps ds)<cLine:=hu
  cases rx with
  |cons r1 t1 =>
   cases ry with
   |cons r2 t2 =>
    intro j h1 h2
    cases j with
    |zero=>exact rR I d hx hy r1 r2 'd'
    |succ j=>exact Zj I ds hxs hys t1 t2 'd' j (by simpa using h1) (by simpa using h2)
end
def rS(X:Cx)(b:Bool):R2:=λx y H Q=>∃d,IsD X.K H d x/\IsD X.K H d y/\(∃a,x=.ref a)/\X.A.units+d.deep<cLine/\Q (.bl b) H
def rT(I:Inv X qE σ H s)(hx:IsD X.K H d (.ref a))(hy:IsD X.K H d y)(ry:RelV y v)(hu:A.units+d.deep<cLine) :
 SeqAt.RcAt A s (.ref a) v true/\SeqAt.RcNeAt A s (.ref a) v false:=by
 cases d with
 |non=>exact absurd (show V.ref a=V.non from hx) (λz=>nomatch z)
 |bl b=>exact absurd (show V.ref a=V.bl b from hx) (λz=>nomatch z)
 |int b=>exact absurd (show V.ref a=V.int b from hx) (λz=>nomatch z)
 |str b=>exact absurd (show V.ref a=V.str b from hx) (λz=>nomatch z)
 |tup ds =>
  obtain⟨a',xs,ex,qx,dx⟩:=hx
  cases ex
  obtain⟨b,ys,ey,qy,dy⟩:=hy;subst ey;cases ry;have hu':A.units+(D.deeps ds+1)<cLine:=hu;obtain⟨its,r1,t1,_⟩:=I.tuple qx;obtain⟨jts,r2,t2,_⟩:=I.tuple qy;have l1:=r1.length;have l2:=r2.length;have l3:=dx.length;have l4:=dy.length;have sz:(its.toArray.size==jts.toArray.size)=true:=by rw[jK,jK,beq_iff_eq];omega
  have he:∀j (h1:j<its.toArray.size) (h2:j<jts.toArray.size),SeqAt.EqAt A.in1 s its.toArray[j] jts.toArray[j] true:=λj h1 h2=>by
   have q:=Zj I ds (A:=A.in1) dx dy r1 r2 (by rw[Yd];omega) j (by simpa using h1) (by simpa using h2);simpa using q
  have q1:=SeqAt.RcAt.tuples (A:=A) (e:=λ_=>true) t1 t2 'd' he;have q2:=SeqAt.RcNeAt.tuples (A:=A) (e:=λ_=>true) t1 t2 'd' he;rw[Yc,sz]at q1 q2;exact⟨q1,q2⟩
 |lst ds =>
  obtain⟨a',xs,ex,qx,dx⟩:=hx
  cases ex
  obtain⟨b,ys,ey,qy,dy⟩:=hy;subst ey;cases ry;have hu':A.units+(D.deeps ds+1)<cLine:=hu;obtain⟨its,r1,t1,_⟩:=I.list qx;obtain⟨jts,r2,t2,_⟩:=I.list qy;have l1:=r1.length;have l2:=r2.length;have l3:=dx.length;have l4:=dy.length;have sz:its.toArray.size=jts.toArray.size:=by rw[jK,jK];omega
  have he:∀j (h1:j<its.toArray.size) (h2:j<jts.toArray.size),SeqAt.EqAt A.in1 s its.toArray[j] jts.toArray[j] true:=λj h1 h2=>by
   have q:=Zj I ds (A:=A.in1) dx dy r1 r2 (by rw[Yd];omega) j (by simpa using h1) (by simpa using h2);simpa using q
  have q1:=SeqAt.RcAt.lists (A:=A) (e:=λ_=>true) t1.isList t2.isList sz 'd' he;have q2:=SeqAt.RcNeAt.lists (A:=A) (e:=λ_=>true) t1.isList t2.isList sz 'd' he;rw[Yc]at q1 q2;exact⟨q1,q2⟩
def rV:OpR X (compareOp .Eq) (rS X true):=by
 intro qE s σ H x y v u Q I rx ry h;obtain⟨d,hx,hy,⟨a,rfl⟩,hu,q⟩:=h
 cases rx
 exact(rT I hx hy ry hu).1 _ _ _ _ ⟨.bl true,H,I,rfl,q⟩
end
mutual
def D.noL:D->Bool
 |.lst _=>false
 |.tup ds=>D.noLs ds
 |_=>true
def D.noLs:List D->Bool
 | []=>true
 |d::ds=>d.noL&&D.noLs ds
end
def SqT.updL{K:qu}{H:Hp}{a b:xb}{xs ys zs:List V}(e:H b=some (.lst ys))(h:SqT K H a xs):SqT K (upd H b (.lst zs)) a xs:=by
 rcases h with (h|⟨o,h⟩)|h
 . exact .inl (.inl (by rw[xz (Qe h e (λz=>nomatch z))];exact h))
 . exact .inl (.inr ⟨o,by rw[xz (Qe h e (λz=>nomatch z))];exact h⟩)
 . exact .inr h
mutual
theorem IsD.updL{K:qu}{H:Hp}{b:xb}{ys zs:List V}(e:H b=some (.lst ys)):∀{d:D}{x:V},d.noL=true->IsD K H d x->IsD K (upd H b (.lst zs)) d x
 |.non,_,_,h=>h
 |.bl _,_,_,h=>h
 |.int _,_,_,h=>h
 |.str _,_,_,h=>h
 |.tup _,_,n,⟨a,xs,h1,h2,h3⟩=>⟨a,xs,h1,h2.updL e,IsDs.updL e n h3⟩
 |.lst _,_,n,_=>nomatch n
theorem IsDs.updL{K:qu}{H:Hp}{b:xb}{ys zs:List V}(e:H b=some (.lst ys)):∀{ds:List D}{xs:List V},D.noLs ds=true->IsDs K H ds xs->IsDs K (upd H b (.lst zs)) ds xs
 | [],_,_,h=>h
 |d::ds,_,n,⟨x,r,h1,h2,h3⟩=>by
  have n':(d.noL&&D.noLs ds)=true:=n;rw[jj]at n';exact⟨x,r,h1,IsD.updL e n'.1 h2,IsDs.updL e n'.2 h3⟩
end
theorem Ye:∀{ds:List D},(∀d∈ds,d.noL=true)->D.noLs ds=true
 | [],_=>rfl
 |d::ds,h=>by
  show(d.noL&&D.noLs ds)=true;rw[h d (jH ..),Ye λe he=>h e (jE _ he)];rfl
theorem gm:∀{ds:List D},D.noLs ds=true->∀d∈ds,d.noL=true
 |d::ds,h,e,he=>by
  have h':(d.noL&&D.noLs ds)=true:=h;rw[jj]at h';rcases jB.mp he with rfl|he
  . exact h'.1
  . exact gm h'.2 e he
def xy(h:H p=none)(o:HO):Same H (upd H p o):=λb u q=>by rw[xz (Jm q h)];exact q
def Zk(h:H p=none)(e:Same H H'):Same H (upd H' p o):=λb u q=>by rw[xz (Jm q h)];exact e b u q
def JQ(ix:qC)(te:TE)(σ:St)(Q:VK):It->Hp->Prop:=λJ H1=>∀D,H1 D=none->∃W:Nat->Nat->Hp->Prop,(∃m,W 0 m (upd H1 D (.lst []))) /\
 ∀i m H,W i m H->(J.stop i H/\Q (.ref D) H)\/(J.go i H/\∀x H',J.yld i H x H'->Q9 (some x::cap ix σ) H' λb H2 =>
  if b=true then te (some x::cap ix σ) H2 λy H3=>∃ys,H3 D=some (.lst ys)/\ys.length<sizeLine/\∃m',m'<m/\W (i+1) m' (upd H3 D (.lst (ys++[y]))) else ∃m',m'<m/\W (i+1) m' H2)
def nxt{D:Ends}(h:D.nx σ H):aU D σ H:=h
def Zl{ix:qC}{wi:TI}{te:TE}{g:TG}{u:TS}{D:Ends}(h:wi σ H (JQ ix te σ λx H1=>g x σ H1 (u D))):Qf (Qr (JL ix wi Q9 te) g) u D σ H:=h
def rW(h:wi σ H (JQ ix te σ Q)):JL ix wi Q9 te σ H Q:=h
def rX{K:qu}{J:It}{ix:qC}{te:TE}{σ:St}{H:Hp}{Q:VK}(n:Nat)(xs:Nat->V)(fs:List D)(hn:fs.length=n)(hz:n<=sizeLine)(hf:D.noLs fs=true)
 (hstop:∀H',Same H H'->J.stop n H') (hgo:∀i H',i<n->Same H H'->J.go i H'/\∀x qH,J.yld i H' x qH->x=xs i/\qH=H')
 (step:∀(i:Nat) (d:D) (H':Hp) (R:VK),i<n->fs[i]?=some d->Same H H'->(∀y qH,Same H' qH->IsD K qH d y->R y qH)->te (some (xs i)::cap ix σ) H' R)
 (qJ:∀p H' ys,Same H H'->H' p=some (.lst ys)->IsDs K H' fs ys->Q (.ref p) H') :
 JQ ix te σ Q J H:=by
 intro Da hD;refine⟨λi m H'=>m=n - i/\i<=n/\Same H H'/\∃ys,H' Da=some (.lst ys)/\IsDs K H' (fs.take i) ys,⟨n,by simp,jS _,xy hD _,[],xm,rfl⟩,?_⟩;rintro i m H' ⟨rfl,hi,sm,ys,eD,dys⟩
 by_cases qS:i<n
 . obtain⟨g,y⟩:=hgo i H' qS sm;refine .inr ⟨g,λx qH hy=>?_⟩;obtain⟨rfl,rfl⟩:=y x qH hy;show te (some (xs i) :: cap ix σ) qH _;have hi':i < fs.length:=by omega
   refine step i fs[i] qH _ qS (jD hi') sm λy H3 sm3 dy=>?_;have e3:H3 Da=some (.lst ys):=sm3 _ _ eD;have ly:=dys.length;rw[jo]at ly;refine⟨ys,e3,by omega,n - (i+1),by omega,rfl,qS,Zk hD (sm.trans sm3),ys++[y],xm,?_⟩;have nt:D.noLs (fs.take (i+1))=true:=Ye λd hd=>gm hf d (List.mem_of_mem_take hd);refine IsDs.updL e3 nt ?_;rw[jt hi'];exact(dys.same sm3).append ⟨y,[],rfl,dy,rfl⟩
 . have e:i=n:=by omega
   subst e;have:fs.take i=fs:=kE 'd';rw[this]at dys;exact .inl ⟨hstop H' sm,qJ Da H' ys sm eD dys⟩
def gn{K:qu}{a:xb}{xs:List V}{ix:qC}{te:TE}{σ:St}{H:Hp}{Q:VK}(fs:List D)(hS:SqT K H a xs)(hn:fs.length=xs.length)(hz:xs.length<=sizeLine)(hf:D.noLs fs=true)
 (step:∀(i:Nat) (x:V) (d:D) (H':Hp) (R:VK),xs[i]?=some x->fs[i]?=some d->Same H H'->(∀y qH,Same H' qH->IsD K qH d y->R y qH)->te (some x::cap ix σ) H' R)
 (qJ:∀p H' ys,Same H H'->H' p=some (.lst ys)->IsDs K H' fs ys->Q (.ref p) H'):JQ ix te σ Q (Itt K a) H:=by
 refine rX (K:=K) xs.length (λi=>xs.getD i .non) fs hn hz hf (λH' sm=>⟨xs,sm.tupq hS,jG _⟩) (λi H' hi sm=>⟨⟨xs,xs[i],sm.tupq hS,jD hi⟩,λx qH hy=>?_⟩) (λi d H' R hi hd sm hR=>?_) qJ
 . obtain⟨e,y⟩:=hy;refine⟨?_,e⟩;have z:=y xs (sm.tupq hS);rw[jN,z];rfl
 . have e:xs[i]? = some (xs.getD i .non):=by rw[jN,jD hi];rfl
   exact step i _ d H' R e hd sm hR
section
variable {X:Cx}
def JF(K:qu)(hK:X.K=K):Jv X (.builtin "len") (λxs H Q=>∃x n,xs=[x]/\aY K x H n/\Q (.int n) H):=hK ▸ oy
def xE(K:qu)(hK:X.K=K):IxR X (rIx K):=hK ▸ pJ
def XG(K:qu)(hK:X.K=K):SlR X (fL K):=hK ▸ pP
def XH(K:qu)(hK:X.K=K):SlR X (fF K):=hK ▸ pD
def bA(K:qu)(hK:X.K=K):OpR X (binaryOp .Add) (fG K):=hK ▸ pE
def Yg(K:qu)(hK:X.K=K):OpR X (compareOp .In) (rIn K false):=hK ▸ pR
def gq(K:qu)(hK:X.K=K):OpR X (compareOp .NotIn) (rIn K true):=hK ▸ pU
def Zm(K:qu)(hK:X.K=K):Jv X (.type "list") (λxs H Q=>∃p ys,xs=[.ref p]/\(SqL K H p ys\/SqT K H p ys)/\∀l,H l=none->Q (.ref l) (upd H l (.lst ys))):=hK ▸ pV
def bB(K:qu)(hK:X.K=K):Jv X (.type "tuple") (λxs H Q=>∃p ys,xs=[.ref p]/\((SqL K H p ys/\∀l,H l=none->Q (.ref l) (upd H l (.tup ys)))\/(SqT K H p ys/\Q (.ref p) H))):=hK ▸ pW
def Qs(K:qu)(hK:X.K=K):Jv X (.builtin "isinstance") (λxs H Q=>∃x c t b,xs=[x,c]/\isC c=true/\TyD K H x t/\PySem.W.kitOne K t (bw c)=some b/\Q (.bl b) H):=hK ▸ rM
def rY(K:qu)(b:Bool):R2:=λx y H Q=>∃d,IsD K H d x/\IsD K H d y/\(∃a,x=.ref a)/\d.deep<=60/\Q (.bl b) H
def XI(K:qu)(hK:X.K=K)(hu:X.A.units+64<cLine):OpR X (compareOp .Eq) (rY K true):=by
 subst hK;intro qE s σ H x y v u Q I rx ry h;obtain⟨d,hx,hy,ha,hd,q⟩:=h;exact rV qE s σ H x y v u Q I rx ry ⟨d,hx,hy,ha,by omega,q⟩
end
end L2
namespace L2
open PySem PySem.W PySem.Calls PyProof.Rows
def dR{Xt:qZ->Bool}{α:Type}{Yf:qZ->α}{Ya:xh->α}(e:opening p=plainProg p.main.scope.names)(hN:Nat.ble 600 N=true)(f:∀s,fenceModules? p s=some s)
 (h:∀(w:xh) (os:OsState),(topRun treeTable p w 11 (some (.ref 6)) N ⟨boot_heap w.params,Array.mk [],boot_drawn,boot_toks,os⟩ (topStub p)).map (λs =>
  ((staticsOk (importedModules p.main.body) (boot_heap w.params) s.heap&&namesBound p s.heap&&gensDone s&&laidKept (boot_heap w.params) s.heap),openSeen q loose (importedModules p.main.body) Xt true s,Yf s))=some (true,openGood q loose,Ya w)):LeftO p q loose Xt Yf Ya N:=λw=>by
 obtain⟨⟨hp,gs,d,k,os⟩,e1,e2⟩:=jT.mp (boot_open e hN f w);simp only[Prod.mk.injEq]at e2;obtain⟨rfl,rfl,rfl,rfl⟩:=e2;have size:((boot_heap w.params).isNs mainGlobals&&(Array.mk ([]:List GenState)).size==0)=true/\(boot_heap w.params).objs.size=11/\(boot_heap w.params).nsMap mainGlobals "__annotations__" = some (.ref 6):=⟨by kernel_rfl,by kernel_rfl,by kernel_rfl⟩;obtain⟨z1,z2,z3⟩:=size;obtain⟨s,r,l⟩:=jT.mp (h w os);simp only[Prod.mk.injEq]at l;obtain⟨l1,l2,l3⟩:=l
 have t:topFrom treeTable p w N ⟨boot_heap w.params,Array.mk [],boot_drawn,boot_toks,os⟩=some s:=by
  unfold topFrom;dsimp only;rw[z1,z2,z3,r];show(match staticsOk (importedModules p.main.body) (boot_heap w.params) s.heap&&namesBound p s.heap&&gensDone s&&laidKept (boot_heap w.params) s.heap with|true=>_|false=>_)=_;rw[l1]
 unfold openEnds;rw[e1];show(topFrom treeTable p w N _).map _=_;rw[t];exact kN some (Prod.ext l2 l3)
end L2
namespace L2
open PySem PySem.Spec PyProof.Rows
def Its(x:Str):It:=⟨λi _=>i<x.cps.size,λi H y H'=>H'=H/\∃c,x.cps[i]?=some c/\y=.str ⟨#[c]⟩,λi _=>x.cps.size<=i⟩
theorem rZ{P:xf}{w:xh}{K:qu}{tg:Expr}(x:Str)(t:Tok)(it:xb):Turn P w K tg (Its x) [it] it (λi h=>h.IsStrIter it "str_ascii_iterator" x t i) where
 mem:=by simp
 obj:=λi h st b hb=>by
  have e:b=it:=by simpa using hb
  subst e;obtain⟨o,e,c,d⟩:=st;exact⟨o,e,λv z=>by rw[d]at z;cases z⟩
 keep:=λi h h' ⟨o,e,r⟩ k=>⟨o,k it 'j' o e,r⟩
 item:=by
  intro X hP hw hK hc i qE s σ H E I hf st hg;subst hP hw hK;have hg':i<x.cps.size:=hg;have hx:x.cps[i]?=some x.cps[i]:=jf hg';obtain⟨f0,f1,f2,f3,f4,f5⟩:=hf it 'j';refine wpAny_pyNext_ascii_item st hx λh' st' sb=>?_;have I1:Inv X qE σ H { s with heap:=h',toks:=s.toks+1 }:=I.turned (t':=s.toks+1) (λb o hb e=>(sb.2 b hb).trans e) f0 f1 f3 f4 f5;obtain⟨o,e,c,d⟩:=id st';exact⟨_,rfl,Xv (s:={ s with heap:=h',toks:=s.toks+1 }) e c d 'f' ⟨.str ⟨#[x.cps[i]]⟩,H,I1,⟨_,rfl⟩,⟨rfl,_,hx,rfl⟩,st',λb hb=>(hf b hb).1⟩⟩
 done:=by
  intro X hP hw hK hc i qE s σ H E I hf st hg;subst hP hw hK;obtain⟨f0,f1,f2,f3,f4,f5⟩:=hf it 'j';exact wpAny_pyNext_ascii_end (I.ok.hd hc) st (jz hg) λh' eb=>⟨rfl,I.turned (t':=s.toks) (λb o hb e=>eb b o hb e) f0 f1 f3 f4 f5⟩
 self:=λ_ _ _ _ _ st h=>wpAny_pyIter_striter_ascii st h
theorem se{P:xf}{w:xh}{K:qu}{tg:Expr}(x:Str)(t:Tok)(it:xb):Turn P w K tg (Its x) [it] it (λi h=>h.IsStrIter it "str_iterator" x t i) where
 mem:=by simp
 obj:=λi h st b hb=>by
  have e:b=it:=by simpa using hb
  subst e;obtain⟨o,e,c,d⟩:=st;exact⟨o,e,λv z=>by rw[d]at z;cases z⟩
 keep:=λi h h' ⟨o,e,r⟩ k=>⟨o,k it 'j' o e,r⟩
 item:=by
  intro X hP hw hK hc i qE s σ H E I hf st hg;subst hP hw hK;have hg':i<x.cps.size:=hg;have hx:x.cps[i]?=some x.cps[i]:=jf hg';obtain⟨f0,f1,f2,f3,f4,f5⟩:=hf it 'j';refine wpAny_pyNext_wide_item st hx λh' st' sb=>?_;have I1:Inv X qE σ H { s with heap:=h',toks:=s.toks+1 }:=I.turned (t':=s.toks+1) (λb o hb e=>(sb.2 b hb).trans e) f0 f1 f3 f4 f5;obtain⟨o,e,c,d⟩:=id st';exact⟨_,rfl,Xv (s:={ s with heap:=h',toks:=s.toks+1 }) e c d 'f' ⟨.str ⟨#[x.cps[i]]⟩,H,I1,⟨_,rfl⟩,⟨rfl,_,hx,rfl⟩,st',λb hb=>(hf b hb).1⟩⟩
 done:=by
  intro X hP hw hK hc i qE s σ H E I hf st hg;subst hP hw hK;obtain⟨f0,f1,f2,f3,f4,f5⟩:=hf it 'j';exact wpAny_pyNext_wide_end (I.ok.hd hc) st (jz hg) λh' eb=>⟨rfl,I.turned (t':=s.toks) (λb o hb e=>eb b o hb e) f0 f1 f3 f4 f5⟩
 self:=λ_ _ _ _ _ st h=>wpAny_pyIter_striter_wide st h
section
variable {X:Cx}{tg:Expr}
def sj(te:TE):TI:=λσ H R=>te σ H λx H1=>∃z,x=.str z/\R (Its z) H1
def sk(he:PE X e te):PI X tg e (sj te):=by
 intro qE s σ H R I h;refine thn (he qE s σ H _ I h) λv s1 c9=>?_;obtain⟨x,H1,I1,r1,q1⟩:=c9;obtain⟨z,rfl,q⟩:=q1;obtain⟨t,rfl⟩:=r1
 have fp:∀b∈[s1.heap.objs.size],FpOk X qE H1 b:=λb hb=>by
  have e:b=s1.heap.objs.size:=by simpa using hb
  subst e;exact I1.fpOk (jG _) (I1.hok.fresh (jG _))
 cases ha:z.cps.all (· < 128) with
 |true=>exact wpAny_pyIter_ascii ha ⟨_,_,_,_,H1,rfl,I1.kept (t':=s1.toks) λb o e=>jF _ e,rZ z t _,⟨_,jO _ rfl,rfl,rfl⟩,fp,q⟩
 |false=>exact wpAny_pyIter_wide ha ⟨_,_,_,_,H1,rfl,I1.kept (t':=s1.toks) λb o e=>jF _ e,se z t _,⟨_,jO _ rfl,rfl,rfl⟩,fp,q⟩
end
section
variable {X:Cx}
theorem gu{α:Type}(x:Array α):∀(n:Nat) (a:Array α),((List.replicate n x).foldl (·++·) a).size=a.size+n*x.size
 |0,a=>by simp
 |n+1,a=>by
  rw[List.replicate_succ,kC,gu x n,Array.size_append,Nat.add_mul];omega
def bC(x:Str)(n:Int)(hx:x.length<=10)(hn:n<=100):(Txt.mul x n).length<=1000:=by
 unfold Txt.mul;split
 . exact jS _
 split
 . omega
 . show(Array.size _)<=1000;rw[gu];have h1:x.cps.size<=10:=hx;have h2:n.toNat<=100:=by omega
   have:=Nat.mul_le_mul h2 h1;simp;omega
def bD:OpR X (binaryOp .Mult) (λx y H Q=>∃i n,x=.str i/\y=.int n/\i.length<=10 /\ -100<=n/\n<=100/\Q (.str (Txt.mul i n)) H):=by
 intro qE s σ H x y v u Q I rx ry h;obtain⟨i,n,rfl,rfl,hi,h1,h2,q⟩:=h;obtain⟨t,rfl⟩:=rx;obtain⟨t',rfl⟩:=ry;refine SB.mul ⟨?_,λc _=>?_,λc _=>?_⟩ λt' k=>⟨.str _,H,I.tok _,⟨_,rfl⟩,q⟩
 . rw[kg 'd',kg 'd'];rfl
 . have h3:10<=(2 ^ 63 - 1) / n:=(Int.le_ediv_iff_mul_le 'd').mpr 'd';omega
 . have h3:n.toNat<=100:=by omega
   have h4:=Nat.mul_le_mul hi h3;have h5:(1000:Nat)<sizeLine:=by decide
   show decide (_ > sizeLine)=false;exact kg 'd'
end
section
variable {X:Cx}
def bE:Jv X (.type "dict") (λxs H Q=>∃a kvs,xs=[V.ref a]/\H a=some (.dK kvs)/\∀p,H p=none->Q (.ref p) (upd H p (.dK kvs))):=by
 intro qE s σ H xs us Q I r h;obtain⟨a,kvs,rfl,ha,q⟩:=h;obtain⟨u,rfl,ru⟩:=QU r
 cases ru
 exact rK I (.inl ha) λp s' hp I'=>⟨.ref p,_,I',rfl,q p hp⟩
end
section
variable {X:Cx}
def sn(hu:X.A.units+1<cLine):OpR X (compareOp .In) (λx y H Q=>∃a o,y=.ref a/\DGet H a x o/\Q (.bl o.isSome) H):=by
 intro qE s σ H x y v u Q I rx ry h;obtain⟨a,o,rfl,g,q⟩:=h
 cases ry
 exact rD hu I g rx λs' I'=>⟨.bl _,H,I',rfl,q⟩
end
def XJ(ix:qC)(tt:TT)(te:TE)(σ:St)(Q:VK):It->Hp->Prop:=λJ H1=>∀D,H1 D=none->∃W:Nat->Nat->Hp->Prop,(∃m,W 0 m (upd H1 D (.lst []))) /\
 ∀i m H,W i m H->(J.stop i H/\Q (.ref D) H)\/(J.go i H/\∀x H',J.yld i H x H'->tt (some x::cap ix σ) H' λb H2 =>
  if b=true then te (some x::cap ix σ) H2 λy H3=>∃ys,H3 D=some (.lst ys)/\ys.length<sizeLine/\∃m',m'<m/\W (i+1) m' (upd H3 D (.lst (ys++[y]))) else ∃m',m'<m/\W (i+1) m' H2)
def su{K:qu}{a:xb}{ns:qB}{ix:qC}{tt:TT}{te:TE}{σ:St}{H:Hp}{Q:VK}(p:Str->Bool)(hS:SqL K H a (ns.map V.str))(hz:ns.length<=sizeLine)
 (test:∀(n:Str) (H':Hp) (R:Bool->Hp->Prop),Same H H'->R (p n) H'->tt (some (.str n)::cap ix σ) H' R)
 (step:∀(n:Str) (H':Hp) (R:VK),R (.str n) H'->te (some (.str n)::cap ix σ) H' R)
 (qJ:∀q H',H q=none->Same H H'->H' q=some (.lst ((ns.filter p).map V.str))->Q (.ref q) H'):XJ ix tt te σ Q (Itl K a) H:=by
 intro Da hD;refine⟨λi m H'=>m=ns.length - i/\i<=ns.length/\Same H H'/\H' Da=some (.lst (((ns.take i).filter p).map V.str)),⟨ns.length,by simp,jS _,xy hD _,xm⟩,?_⟩;rintro i m H' ⟨rfl,hi,sm,eD⟩
 by_cases qS:i<ns.length
 . refine .inr ⟨⟨ns.map V.str,.str ns[i],sm.seq hS,by rw[jJ,jD qS];rfl⟩,λx qH hy=>?_⟩;obtain⟨e,y⟩:=hy;subst e;have hx:=y _ (sm.seq hS);rw[jJ,jD qS]at hx;obtain rfl:x = .str ns[i]:=(Option.some.inj hx).symm;have tk:ns.take (i + 1)=ns.take i ++ [ns[i]]:=jt qS;refine test ns[i] _ _ sm ?_
   cases hp:p ns[i] with
   |true =>
    dsimp only;rw[ke rfl];refine step ns[i] _ _ ⟨_,eD,?_,ns.length - (i+1),by omega,rfl,qS,Zk hD sm,?_⟩
    . rw[jC];have:=List.length_filter_le p (ns.take i);rw[jo]at this;omega
    . rw[xm,tk,List.filter_append,jd];simp[hp]
   |false =>
    dsimp only;rw[k9 jQ];refine⟨ns.length - (i+1),by omega,rfl,qS,sm,?_⟩;rw[eD,tk,List.filter_append,jd];simp[hp]
 . have e:i=ns.length:=by omega
   subst e;rw[j9]at eD;exact .inl ⟨⟨_,sm.seq hS,by rw[jC];exact jG _⟩,qJ Da H' hD sm eD⟩
theorem Yh(n:Str):∀ns:qB,inV (.str n) (ns.map V.str)=decide (n∈ns)
 | []=>rfl
 |m::ns=>by
  have h:=Yh n ns;unfold inV at h ⊢;rw[jg,List.any_cons,h];have e:eqV (.str m) (.str n)=decide (m=n):=by show(m==n)=_;exact Bool.beq_eq_decide_eq ..
  rw[e,Bool.eq_iff_iff];simp only[Bool.or_eq_true,decide_eq_true_eq,jB];exact⟨λh=>h.elim (λh => .inl h.symm) .inr,λh=>h.elim (λh => .inl h.symm) .inr⟩
def bF(ns:qB):(ns.map V.str).all QJ=true:=by
 rw[List.all_eq_true];intro x hx;obtain⟨n,_,rfl⟩:=jn.mp hx;rfl
section
variable {X:Cx}{a b c d:Expr}{ta tb tc td:TE}{pos:Pos}{x1:_}
abbrev Pl(X:Cx)(e:Expr)(es:List Expr):Prop:=starEach (e::es) X.env=(false,eval e X.env)::starEach es X.env
def xZ(ha:PE X a ta)(hb:PE X b tb)(h1:Pl X a [b])(h2:Pl X b []):PE X (.Tuple [a,b] x1 pos) (Za (J8 ta (J8 tb Ja))):=JO (xj ha (xj hb xk h2) h1)
def Jq(ha:PE X a ta)(hb:PE X b tb)(hc:PE X c tc)(h1:Pl X a [b,c])(h2:Pl X b [c])(h3:Pl X c []):PE X (.Tuple [a,b,c] x1 pos) (Za (J8 ta (J8 tb (J8 tc Ja)))):=JO (xj ha (xj hb (xj hc xk h3) h2) h1)
def Xg(ha:PE X a ta)(hb:PE X b tb)(hc:PE X c tc)(hd:PE X d td)(h1:Pl X a [b,c,d])(h2:Pl X b [c,d])(h3:Pl X c [d])(h4:Pl X d []):PE X (.Tuple [a,b,c,d] x1 pos) (Za (J8 ta (J8 tb (J8 tc (J8 td Ja))))):=JO (xj ha (xj hb (xj hc (xj hd xk h4) h3) h2) h1)
def QK:PE X (.List [] pos) (Y0 Ja):=XB xk
def gw(ha:PE X a ta)(h1:Pl X a []):PE X (.List [a] pos) (Y0 (J8 ta Ja)):=XB (xj ha xk h1)
def gy(ha:PE X a ta)(hb:PE X b tb)(h1:Pl X a [b])(h2:Pl X b []):PE X (.List [a,b] pos) (Y0 (J8 ta (J8 tb Ja))):=XB (xj ha (xj hb xk h2) h1)
def sx{k l m n:Expr}{tk tl tm tn:TE}(hk:PE X k tk)(ha:PE X a ta)(hl:PE X l tl)(hb:PE X b tb)(hm:PE X m tm)(hc:PE X c tc)(hn:PE X n tn)(hd:PE X d td) :
 PE X (.Dict [some k,some l,some m,some n] [a,b,c,d] pos) (bt [(tk,ta),(tl,tb),(tm,tc),(tn,td)]) :=
 gf (Q8 hk ha (Q8 hl hb (Q8 hm hc (Q8 hn hd gb)))) rfl rfl (List.cons_ne_nil _ _) (by show 4<=15;decide)
def Q0{X:Cx}{i:Nat}{x:Str}{e:Expr}{te:TE}{pos' pos:Pos}(hN:X.N.Nodup)(hi:X.N[i]?=some x)(hx:Loc X.env.scope x)(he:PE X e te)(hs:swapsWith e (some (.Name x pos')) pos.line X.env=pure false)(hf:X.fn x=true\/X.env.scope.names.lookup x=some .local) :
 PS X (.Assign [.Name x pos'] e pos) (Qr te (xF i)):=xM hN hi hx he hs hf
end
section
variable {X:Cx}
theorem gA:∀{ss:qB}{vs:qA},Vals (ss.map V.str) vs->StrsAre vs ss
 | [],_,r=>by cases r;exact .nil
 |z::ss,_,r=>by
  rw[jg]at r
  cases r with
  |cons h t =>
   obtain⟨tk,rfl⟩:=h;exact .cons _ _ (gA t)
theorem gC:∀{ss:qB}{vs:qA},StrsAre vs ss->Vals (ss.map V.str) vs
 |_,_,.nil => .nil
 |_,_,.cons _ _ t => .cons ⟨_,rfl⟩ (gC t)
def sy(K:qu)(hK:X.K=K):Jv X (.builtin "sorted") (λxs H Q=>∃(p:xb) (ss:qB),xs=[.ref p]/\SqL K H p (ss.map V.str)/\ss.length<64 /\
 ∀l (ss':qB),H l=none->ss'.Perm ss->sortedS ss'=true->Q (.ref l) (upd H l (.lst (ss'.map V.str)))):=by
 subst hK;intro qE s σ H xs us Q I r h;obtain⟨p,ss,rfl,hS,few,q⟩:=h;obtain⟨u,rfl,rx⟩:=QU r
 cases rx
 obtain⟨its,rv,pl,hz⟩:=I.list hS;have hl:=rv.length;rw[jC]at hl;refine sorted_strs (vs:=its) (by simpa using pl.isList) (gA rv) 'd' λout ss' b1 b2 b3=>?_;obtain⟨c,hc⟩:=sortedAll_at s.heap its out
 have lz:(ss'.map V.str).length<=sizeLine:=by
  rw[jC,b2.length_eq,kR];omega
 refine⟨.ref (s.heap.objs.size+1),upd H (s.heap.objs.size+1) (.lst (ss'.map V.str)),?_,rfl,q _ ss' (I.hok.fresh (j7 _)) b2 b3⟩;exact I.laid (t':=s.toks) (λb o e=>sortedAll_old e) (j7 _) (show ObjOk X.prog X.w _ (sortedAll s.heap its out) _ (.lst (ss'.map V.str)) from⟨lz,out.toList,c,gC b1,by simpa using hc⟩)
end
end L2
namespace L2
open PySem PySem.W PyProof.Rows
section
variable {n:Nat}{lt:Nat->Nat->Bool}{cmp:Nat->Nat->(Bool->qZ->Prop)->qZ->Prop}{Pv:qZ->Prop}
structure SOrd (n:Nat) (lt:Nat->Nat->Bool):Prop where
 trans:∀i j k,i<n->j<n->k<n->lt i j=true->lt j k=true->lt i k=true
 conn:∀i j,i<n->j<n->i≠j->lt i j=false->lt j i=true
def XM(n:Nat)(lt:Nat->Nat->Bool)(cmp:Nat->Nat->(Bool->qZ->Prop)->qZ->Prop)(Pv:qZ->Prop):Prop:=∀i j C s,i<n->j<n->i≠j->Pv s->(∀s',Pv s'->C (lt i j) s')->cmp i j C s
def SPm(n:Nat)(p:Array Nat):Prop:=p.Perm (List.toArray (List.range n))
theorem SPm.size(h:SPm n p):p.size=n:=by
 have:=h.size_eq;simpa using this
def SPm.at(h:SPm n p)(hi:i<n):p[i]?=some (p.getD i 0):=by
 have hs:=h.size;rw[jf 'd'];simp[Array.getD,show i<p.size by omega]
def SPm.inn(h:SPm n p)(hi:i<n):p.getD i 0<n:=by
 have hs:=h.size;have e:=h.at hi;have hm:p.getD i 0∈p:=Array.mem_of_getElem? e;have:=h.mem_iff.mp hm;simpa using this
def SPm.ne(h:SPm n p)(hi:i<n)(hj:j<n)(hij:i≠j):p.getD i 0≠p.getD j 0:=λe=>by
 have hs:=h.size;have nd:p.toList.Nodup:=(show p.toList.Perm (List.range n) from(Array.perm_iff_toList_perm.mp h)).nodup_iff.mpr List.nodup_range;have e1:=h.at hi;have e2:=h.at hj;rw[e]at e1;rw[<- kG]at e1 e2;obtain⟨a1,b1⟩:=jV.mp e1;obtain⟨a2,b2⟩:=jV.mp e2;exact hij ((List.getElem_inj nd).mp (b1.trans b2.symm))
def Yi{p q:Array Nat}{i j:Nat}(h:p[i]?=q[j]?):p.getD i 0=q.getD j 0:=by
 rw[Array.getD_eq_getD_getElem?,Array.getD_eq_getD_getElem?,h]
def Srt(lt:Nat->Nat->Bool)(p:Array Nat)(m:Nat):Prop:=∀i j,i<j->j<m->lt (p.getD i 0) (p.getD j 0)=true
def Dsc(lt:Nat->Nat->Bool)(p:Array Nat)(m:Nat):Prop:=∀i j,i<j->j<m->lt (p.getD j 0) (p.getD i 0)=true
def Srt.snoc(O:SOrd n lt)(h:SPm n p)(ha:1<=a)(hn:a<n)(s:Srt lt p a)(e:lt (p.getD (a - 1) 0) (p.getD a 0)=true):Srt lt p (a+1):=λi j hij hj=>by
 by_cases hja:j<a
 . exact s i j hij hja
 . have ej:j=a:=by omega
   subst ej
   by_cases hi:i=j - 1
   . rw[hi];exact e
   . exact O.trans _ _ _ (h.inn 'd') (h.inn 'd') (h.inn hn) (s i (j - 1) 'd' 'd') e
def Dsc.snoc(O:SOrd n lt)(h:SPm n p)(ha:1<=a)(hn:a<n)(s:Dsc lt p a)(e:lt (p.getD a 0) (p.getD (a - 1) 0)=true):Dsc lt p (a+1):=λi j hij hj=>by
 by_cases hja:j<a
 . exact s i j hij hja
 . have ej:j=a:=by omega
   subst ej
   by_cases hi:i=j - 1
   . rw[hi];exact e
   . exact O.trans _ _ _ (h.inn hn) (h.inn 'd') (h.inn 'd') e (s i (j - 1) 'd' 'd')
theorem bG(O:SOrd n lt)(hc:XM n lt cmp Pv){p:Array Nat}(h:SPm n p):∀(f a:Nat) (Q:Nat->qZ->Prop) (s:qZ),1<=a->a+f<=n->Srt lt p a->Pv s ->
 (∀m s',Pv s'->a<=m->m<=a+f->Srt lt p m->(m<a+f->lt (p.getD m 0) (p.getD (m - 1) 0)=true)->Q m s')->(kas_asc p f a).kasWp cmp Q s
 |0,a,Q,s,ha,hf,hs,hp,k=>k a s hp (jG _) (jG _) hs λz=>absurd z 'd'
 |f+1,a,Q,s,ha,hf,hs,hp,k=>by
  refine hc _ _ _ s (h.inn 'd') (h.inn 'd') (h.ne 'd' 'd' 'd') hp λs' hp'=>?_
  cases e:lt (p.getD a 0) (p.getD (a - 1) 0) with
  |true =>
   show KasT.kasWp cmp (if true=true then .ret a else kas_asc p f (a+1)) Q s';rw[ke rfl];exact k a s' hp' (jG _) 'd' hs λ_=>e
  |false =>
   show KasT.kasWp cmp (if false=true then .ret a else kas_asc p f (a+1)) Q s';rw[k9 'f'];have e':=O.conn _ _ (h.inn 'd') (h.inn 'd') (h.ne 'd' 'd' 'd') e;refine bG O hc h f (a+1) Q s' 'd' 'd' (hs.snoc O h ha 'd' e') hp' λm s'' hp'' h1 h2 h3 h4=>?_;exact k m s'' hp'' 'd' 'd' h3 λz=>h4 'd'
theorem gD(O:SOrd n lt)(hc:XM n lt cmp Pv){p:Array Nat}(h:SPm n p):∀(f a:Nat) (Q:Array Nat×Nat×Nat->qZ->Prop) (s:qZ),1<=a->a+f<=n->Dsc lt p a->Pv s ->
 (∀m s',Pv s'->a<=m->m<=a+f->Dsc lt p m->Q (p,m,0) s')->(kas_desc f p a 0).kasWp cmp Q s
 |0,a,Q,s,ha,hf,hs,hp,k=>k a s hp (jG _) (jG _) hs
 |f+1,a,Q,s,ha,hf,hs,hp,k=>by
  refine hc _ _ _ s (h.inn 'd') (h.inn 'd') (h.ne 'd' 'd' 'd') hp λs' hp'=>?_
  cases e:lt (p.getD a 0) (p.getD (a - 1) 0) with
  |true =>
   show KasT.kasWp cmp (kas_desc f p (a+1) 0) Q s';refine gD O hc h f (a+1) Q s' 'd' 'd' (hs.snoc O h ha 'd' e) hp' λm s'' hp'' h1 h2 h3=>?_;exact k m s'' hp'' 'd' 'd' h3
  |false =>
   have e':=O.conn _ _ (h.inn 'd') (h.inn 'd') (h.ne 'd' 'd' 'd') e;refine hc _ _ _ s' (h.inn 'd') (h.inn 'd') (h.ne 'd' 'd' 'd') hp' λs'' hp''=>?_;rw[e'];exact k a s'' hp'' (jG _) 'd' hs
def gE(h:SPm n p)(i j:Nat):SPm n (kas_rev p i j):=(mirror_perm _ _ _ _).trans h
def sD(h:SPm n p)(hm:m<=n)(hd:Dsc lt p m):Srt lt (kas_rev p 0 m) m:=λi j hij hj=>by
 have hs:=h.size
 have g:∀k,k<m->(kas_rev p 0 m).getD k 0=p.getD (0+m - 1 - k) 0:=λk hk=>by
  have e:=getElem?_mirror_all (xs:=p) (i:=0) (j:=m) 'd' k;rw[ke ⟨jS _,hk⟩]at e;exact Yi e
 rw[g i 'd',g j hj];exact hd _ _ 'd' 'd'
def sE(O:SOrd n lt)(hc:XM n lt cmp Pv)(h:SPm n p)(h1:1<=n)(Q:Nat×Array Nat->qZ->Prop)(s:qZ)(hp:Pv s)
 (k:∀m p' s',Pv s'->1<=m->m<=n->SPm n p'->Srt lt p' m->Q (m,p') s'):(kas_count n p).kasWp cmp Q s:=by
 unfold kas_count;rw[KasT.kasWp_bind];refine bG O hc h (n - 1) 1 _ s (jG _) 'd' (λi j hij hj=>absurd hij 'd') hp λm s' hp' a1 a2 a3 a4=>?_
 by_cases e:m=n
 . rw[ke (by simpa using e)];exact k m p s' hp' a1 'd' h a3
 . rw[k9 (by simpa using e)]
   by_cases g:m > 1
   . rw[ke g];refine hc _ _ _ s' (h.inn 'd') (h.inn 'd') (h.ne 'd' 'd' 'd') hp' λs'' hp''=>?_;rw[a3 0 (m - 1) 'd' 'd'];show KasT.kasWp cmp (if true=true then .ret (m,p) else _) Q s'';rw[ke rfl];exact k m p s'' hp'' a1 'd' h a3
   . rw[k9 g];have m1:m=1:=by omega
     subst m1;have e1:=a4 'd';unfold kas_descPart;rw[KasT.kasWp_bind];have d2:Dsc lt p (1+1):=Dsc.snoc O h (jG _) 'd' (λi j hij hj=>absurd hij 'd') e1;refine gD O hc h (n - (1+1)) (1+1) _ s' 'd' 'd' d2 hp' λm s2 hp2 b1 b2 b3=>?_;show KasT.kasWp cmp (if 0 > 0 then _ else kas_tail3 m n p) Q s2;rw[k9 'f'];unfold kas_tail3;rw[KasT.kasWp_bind];refine bG O hc (gE h 0 m) (n - m) m _ s2 'd' 'd' (sD h 'd' b3) hp2 λm' s3 hp3 c1 c2 c3 _=>?_;exact k m' _ s3 hp3 'd' 'd' (gE h 0 m) c3
theorem bH(O:SOrd n lt)(hc:XM n lt cmp Pv){p:Array Nat}(h:SPm n p){k:Nat}(hk:k<n)(hs:Srt lt p k):∀(f l r:Nat) (Q:Nat->qZ->Prop) (s:qZ),l<=r->r<=k->r - l<=f->Pv s ->
 (∀i,i<l->lt (p.getD i 0) (p.getD k 0)=true)->(∀i,r<=i->i<k->lt (p.getD k 0) (p.getD i 0)=true) ->
 (∀m s',Pv s'->m<=k->(∀i,i<m->lt (p.getD i 0) (p.getD k 0)=true)->(∀i,m<=i->i<k->lt (p.getD k 0) (p.getD i 0)=true)->Q m s')->(kas_place p k f l r).kasWp cmp Q s
 |0,l,r,Q,s,h1,h2,h3,hp,a,b,c=>c l s hp 'd' a λi hi=>b i 'd'
 |f+1,l,r,Q,s,h1,h2,h3,hp,a,b,c=>by
  unfold kas_place
  by_cases g:l ≥ r
  . rw[ke g];exact c l s hp 'd' a λi hi=>b i 'd'
  . rw[k9 g];refine hc _ _ _ s (h.inn hk) (h.inn 'd') (h.ne hk 'd' 'd') hp λs' hp'=>?_
    cases e:lt (p.getD k 0) (p.getD ((l+r) / 2) 0) with
    |true =>
     show KasT.kasWp cmp (if true=true then kas_place p k f l ((l+r) / 2) else _) Q s';rw[ke rfl];refine bH O hc h hk hs f l ((l+r) / 2) Q s' 'd' 'd' 'd' hp' a (λi hi hik=>?_) c
     by_cases z:i=(l+r) / 2
     . rw[z];exact e
     . exact O.trans _ _ _ (h.inn hk) (h.inn 'd') (h.inn 'd') e (hs _ _ 'd' hik)
    |false =>
     show KasT.kasWp cmp (if false=true then _ else kas_place p k f ((l+r) / 2+1) r) Q s';rw[k9 'f'];have e':=O.conn _ _ (h.inn hk) (h.inn 'd') (h.ne hk 'd' 'd') e;refine bH O hc h hk hs f ((l+r) / 2+1) r Q s' 'd' 'd' 'd' hp' (λi hi=>?_) b c
     by_cases z:i=(l+r) / 2
     . rw[z];exact e'
     . exact O.trans _ _ _ (h.inn 'd') (h.inn 'd') (h.inn hk) (hs i ((l+r) / 2) 'd' 'd') e'
def sF(h:SPm n p)(hk:k<n)(hl:l<=k)(hs:Srt lt p k)(a:∀i,i<l->lt (p.getD i 0) (p.getD k 0)=true)(b:∀i,l<=i->i<k->lt (p.getD k 0) (p.getD i 0)=true):Srt lt (bubble p k (k - l)) (k+1):=by
 have hz:=h.size
 have g:∀i,(bubble p k (k - l)).getD i 0=if i=l then p.getD k 0 else if l<i/\i<=k then p.getD (i - 1) 0 else p.getD i 0:=λi=>by
  have e:=getElem?_bubble (xs:=p) (src:=k) 'd' (k - l) 'd' i;have el:k - (k - l)=l:=by omega
  rw[el]at e
  by_cases h1:i=l
  . rw[ke h1]at e ⊢;exact Yi e
  . rw[k9 h1]at e ⊢
    by_cases h2:l<i/\i<=k
    . rw[ke h2]at e ⊢;exact Yi e
    . rw[k9 h2]at e ⊢;exact Yi e
 intro i j hij hj;rw[g i,g j]
 by_cases i1:i=l
 . rw[ke i1,k9 'd',ke 'd'];exact b _ 'd' 'd'
 . rw[k9 i1]
   by_cases i2:l<i/\i<=k
   . rw[ke i2,k9 'd',ke 'd'];exact hs _ _ 'd' 'd'
   . rw[k9 i2]
     by_cases j1:j=l
     . rw[ke j1];exact a i 'd'
     . rw[k9 j1]
       by_cases j2:l<j/\j<=k
       . rw[ke j2];exact hs i (j - 1) 'd' 'd'
       . rw[k9 j2];exact hs i j hij 'd'
theorem gF(O:SOrd n lt)(hc:XM n lt cmp Pv):∀(f k:Nat) (p:Array Nat) (Q:Array Nat->qZ->Prop) (s:qZ),SPm n p->1<=k->k+f=n->Srt lt p k->Pv s ->
 (∀p' s',Pv s'->SPm n p'->Srt lt p' n->Q p' s')->(kas_bin f p k).kasWp cmp Q s
 |0,k,p,Q,s,h,h1,h2,hs,hp,c=>c p s hp h (by rw[<- h2];exact hs)
 |f+1,k,p,Q,s,h,h1,h2,hs,hp,c=>by
  unfold kas_bin;rw[KasT.kasWp_bind];refine bH O hc h (k:=k) 'd' hs k 0 k _ s (jS _) (jG _) 'd' hp (λi hi=>absurd hi 'd') (λi hi hk=>absurd hi 'd') λm s' hp' m1 m2 m3=>?_;exact gF O hc f (k+1) _ Q s' ((bubble_perm _ _ _).trans h) 'd' 'd' (sF h 'd' m1 hs m2 m3) hp' c
def sG(O:SOrd n lt)(hc:XM n lt cmp Pv)(h1:1<=n)(Q:Array Nat->qZ->Prop)(s:qZ)(hp:Pv s)(k:∀p s',Pv s'->SPm n p->Srt lt p n->Q p s'):(kas_sort n).kasWp cmp Q s:=by
 unfold kas_sort;rw[KasT.kasWp_bind];refine sE O hc (.refl _) h1 _ s hp λm p' s' hp' m1 m2 pm sr=>?_
 by_cases g:m<n
 . rw[ke g];have e:max m 1=m:=by omega
   show KasT.kasWp cmp (kas_bin (n - max m 1) p' (max m 1)) Q s';rw[e];exact gF O hc (n - m) m p' Q s' pm m1 'd' sr hp' k
 . rw[k9 g];have e:m=n:=by omega
   subst e;exact k p' s' hp' pm sr
end
end L2
namespace L2
open PySem PySem.W PySem.Calls PyProof.Rows
section
variable {prog:xf}{w:xh}{A:Around}{E:qk}{s:qZ}
def XN(a:xb)(h g:Heap):Prop:=∀b o,b≠a->h.get? b=some o->g.get? b=some o
def Q1(vs:qA)(p:Array Nat):qA:=p.toList.map λi=>vs.getD i Value.none
def sI{κ:SortKind}(at_:s.heap.get? a=some (seqObj "list" vs.toArray c0))(two:2<=vs.length)(few:vs.length<64)(O:SOrd vs.length lt)
 (kind:∀g,XN a s.heap g->∀R:SortKind->qZ->Prop,R κ { s with heap:=g }->wpAny (model prog w) A (keyKind' vs.toArray) R (λ_ _=>False) { s with heap:=g })
 (less:∀g,XN a s.heap g->∀i j (C:Bool->qZ->Prop),i<vs.length->j<vs.length->i≠j->C (lt i j) { s with heap:=g }->wpAny (model prog w) A (keyLt' κ (vs.getD i Value.none) (vs.getD j Value.none)) C (λ_ _=>False) { s with heap:=g })
 (qJ:∀(p:Array Nat) g c,SPm vs.length p->Srt lt p vs.length->XN a s.heap g->g.get? a=some (seqObj "list" (Q1 vs p).toArray c)->Z (.done (.ret .none)) { s with heap:=g }) :
 wpAny (model prog w) A (Builtin.«list.sort» ⟨[.ref a],[]⟩) Z E s:=by
 have up:=Heap.SameBut.update s.heap a (Obj.mapSeq λ_=>(#[]:qz));obtain⟨c1,at1⟩:∃c,(s.heap.update a (Obj.mapSeq λ_=>(#[]:qz))).get? a=some (seqObj "list" #[] c):=⟨_,get?_update_seq at_ λ_=>#[]⟩;obtain⟨g,eg⟩:∃g,g=((s.heap.update a (Obj.mapSeq λ_=>(#[]:qz))).push (seqObj "tuple" vs.toArray 0)).push (seqObj "list" #[] 0):=⟨_,rfl⟩
 have gx:XN a s.heap g:=λb o hb e=>by
  rw[eg];exact jF _ (jF _ ((up.2 b hb).trans e))
 have ga:g.get? a=some (seqObj "list" #[] c1):=by
  rw[eg];exact jF _ (jF _ at1)
 rw[list_sort_plain];refine k7 (listItems_at at_ rfl ?_);refine k7 (listUpdate_at at_ rfl ?_ (by rw[jK,kR];omega) (jS _));refine k7 (seqEpoch_at at1 rfl ?_);refine k7 (wpAny_newTuple ?_ (by show vs.length<=sizeLine;rw[kR];omega));refine k7 (wpAny_newList ?_ (jS _));refine kM ?_;show wpAny (model prog w) A _ Z E { s with heap:=((s.heap.update a (Obj.mapSeq λ_=>(#[]:qz))).push (seqObj "tuple" vs.toArray 0)).push (seqObj "list" #[] 0) };rw[<- eg];dsimp only;have nt:¬vs.toArray.size<2:=by rw[jK];omega
 rw[k9 nt,k9 nt];refine k7 (kx (kind g gx (λk s0=>k=κ/\s0={ s with heap:=g }) ⟨rfl,rfl⟩) (λk s0 hk=>?_) λ_ _ x=>x.elim);obtain⟨rfl,rfl⟩:=hk
 have tree:(kas_sort vs.length).kasWp (kas_ask prog w A k vs) (λp s2=>s2={ s with heap:=g }/\SPm vs.length p/\Srt lt p vs.length) { s with heap:=g }:=by
  refine sG (Pv:=λs2=>s2={ s with heap:=g }) O (λi j C s2 hi hj hij h2 hC=>?_) 'd' _ _ rfl λp s2 h2 pm sr=>⟨h2,pm,sr⟩;subst h2;exact less g gx i j C hi hj hij (hC _ rfl)
 refine k7 (kx (kat_run (Q:=λst s2=>∃p:Array Nat,p.size=vs.length/\arrOf st=p.map (kas_item (vs.toArray.zip vs.toArray))/\failedOf st=none/\s2={ s with heap:=g }/\SPm vs.length p/\Srt lt p vs.length)
  rfl two few (λp st s2 b1 b2 b3 b4=>⟨p,b1,b2,b3,b4⟩) tree) ?_ λ_ _ e=>e)
 rintro⟨⟨⟩,st⟩ s2 ⟨p,hp,har,hf,rfl,pm,sr⟩;dsimp only;have eo:=kat_snds rfl har;have zo:(Q1 vs p).toArray.size=vs.length:=by unfold Q1;rw[jK,jC,jW,hp]
 rw[eo];have up2:=Heap.SameBut.update g a (Obj.mapSeq λ_=>(Q1 vs p).toArray);obtain⟨c2,at2⟩:∃c,(g.update a (Obj.mapSeq λ_=>(Q1 vs p).toArray)).get? a=some (seqObj "list" (Q1 vs p).toArray c):=⟨_,get?_update_seq ga λ_=>(Q1 vs p).toArray⟩;refine k7 (seqEpoch_at ga rfl ?_);refine k7 (listUpdate_at ga rfl ?_ (jS _) (by show(Q1 vs p).toArray.size<=_;rw[zo,kR];omega));rw[hf];simp only[bne_self_eq_false,Bool.false_eq_true,if_false];exact k8 (qJ p _ c2 pm sr (λb o hb e=>(up2.2 b hb).trans (gx b o hb e)) at2)
def sJ(vs:qA):Q1 vs (List.toArray (List.range vs.length))=vs:=by
 unfold Q1;refine List.ext_getElem 'j' λi h1 h2=>?_;simp[List.getD,h2]
def sK{vs:qA}{c0:Nat}{Z:PySem.Fin->qZ->Prop}(at_:s.heap.get? a=some (seqObj "list" vs.toArray c0))(wee:vs.length<2)
 (qJ:∀g c,XN a s.heap g->g.get? a=some (seqObj "list" vs.toArray c)->Z (.done (.ret .none)) { s with heap:=g }) :
 wpAny (model prog w) A (Builtin.«list.sort» ⟨[.ref a],[]⟩) Z E s:=by
 have up:=Heap.SameBut.update s.heap a (Obj.mapSeq λ_=>(#[]:qz));obtain⟨c1,at1⟩:∃c,(s.heap.update a (Obj.mapSeq λ_=>(#[]:qz))).get? a=some (seqObj "list" #[] c):=⟨_,get?_update_seq at_ λ_=>#[]⟩;obtain⟨g,eg⟩:∃g,g=((s.heap.update a (Obj.mapSeq λ_=>(#[]:qz))).push (seqObj "tuple" vs.toArray 0)).push (seqObj "list" #[] 0):=⟨_,rfl⟩
 have gx:XN a s.heap g:=λb o hb e=>by
  rw[eg];exact jF _ (jF _ ((up.2 b hb).trans e))
 have ga:g.get? a=some (seqObj "list" #[] c1):=by
  rw[eg];exact jF _ (jF _ at1)
 rw[list_sort_plain];refine k7 (listItems_at at_ rfl ?_);refine k7 (listUpdate_at at_ rfl ?_ (by rw[jK,kR];omega) (jS _));refine k7 (seqEpoch_at at1 rfl ?_);refine k7 (wpAny_newTuple ?_ (by show vs.length<=sizeLine;rw[kR];omega));refine k7 (wpAny_newList ?_ (jS _));refine kM ?_;show wpAny (model prog w) A _ Z E { s with heap:=((s.heap.update a (Obj.mapSeq λ_=>(#[]:qz))).push (seqObj "tuple" vs.toArray 0)).push (seqObj "list" #[] 0) };rw[<- eg];dsimp only;have yes:vs.toArray.size<2:=by rw[jK];omega
 rw[ke yes,ke yes];refine k7 (k8 (k7 (k8 ?_)));dsimp only
 have eo:(arrOf (SortSt.mk' general' (vs.toArray.zip vs.toArray) #[] 7 none)).map (·.2)=vs.toArray:=by
  show(vs.toArray.zip vs.toArray).map (·.2)=vs.toArray;apply Array.toList_inj.mp;rw[Array.toList_map,Array.toList_zip];exact List.map_snd_zip (jG _)
 rw[eo];have up2:=Heap.SameBut.update g a (Obj.mapSeq λ_=>vs.toArray);obtain⟨c2,at2⟩:∃c,(g.update a (Obj.mapSeq λ_=>vs.toArray)).get? a=some (seqObj "list" vs.toArray c):=⟨_,get?_update_seq ga λ_=>vs.toArray⟩;refine k7 (seqEpoch_at ga rfl ?_);refine k7 (listUpdate_at ga rfl ?_ (jS _) (by show vs.toArray.size<=_;rw[jK,kR];omega));simp only[bne_self_eq_false,Bool.false_eq_true,if_false];exact k8 (qJ _ c2 (λb o hb e=>(up2.2 b hb).trans (gx b o hb e)) at2)
def sL{Q:qk}{C:qA->qZ->Prop}(col:∀(E':qk) (R:qA->qZ->Prop),(∀vs s1,C vs s1->R vs s1)->wpAny (model prog w) A.in1 (collect x) R E' s)
 (few:∀vs s1,C vs s1->vs.length<64) (κ:SortKind) (lt:qA->qZ->Nat->Nat->Bool) (O:∀vs s1,C vs s1->SOrd vs.length (lt vs s1))
 (kind:∀vs s1,C vs s1->2<=vs.length->∀g,(∀b o,s1.heap.get? b=some o->g.get? b=some o)->∀R:SortKind->qZ->Prop,R κ { s1 with heap:=g }->wpAny (model prog w) A.in1.in1 (keyKind' vs.toArray) R (λ_ _=>False) { s1 with heap:=g })
 (less:∀vs s1,C vs s1->∀g,(∀b o,s1.heap.get? b=some o->g.get? b=some o)->∀i j (Z:Bool->qZ->Prop),i<vs.length->j<vs.length->i≠j->Z (lt vs s1 i j) { s1 with heap:=g }->wpAny (model prog w) A.in1.in1 (keyLt' κ (vs.getD i Value.none) (vs.getD j Value.none)) Z (λ_ _=>False) { s1 with heap:=g })
 (qJ:∀vs s1,C vs s1->∀(p:Array Nat) g c,SPm vs.length p->Srt (lt vs s1) p vs.length->(∀b o,s1.heap.get? b=some o->g.get? b=some o)->g.get? s1.heap.objs.size=some (seqObj "list" (Q1 vs p).toArray c)->Q (.ref s1.heap.objs.size) { s1 with heap:=g }) :
 wpAny (model prog w) A (call (.builtin "sorted") [x]) Q E s:=by
 refine Calls.call_function_entry kind_sorted plain_sorted entry_sorted (args_sorted1 _) ?_;unfold Builtin.«sorted»;refine k7 (m:=checkCount "sorted" 1 1 _) (k8 ?_);refine k7 (col _ _ λvs s1 hC=>?_);have fw:=few vs s1 hC;refine k7 (wpAny_newList ?_ (by rw[kR];omega));have at0:(s1.heap.push (seqObj "list" vs.toArray 0)).get? s1.heap.objs.size=some (seqObj "list" vs.toArray 0):=jO _ rfl;have kp:∀b o,s1.heap.get? b=some o->(s1.heap.push (seqObj "list" vs.toArray 0)).get? b=some o:=λb o q=>jF _ q;have far:∀b o,s1.heap.get? b=some o->b≠s1.heap.objs.size:=λb o q=>jZ (jL q);show wpAny _ _ _ _ _ { s1 with heap:=s1.heap.push (seqObj "list" vs.toArray 0) };refine k7 (kM (kj slot_list_sort ⟨_,at0,rfl⟩ entry_list_sort ?_ (args_list_sort _)))
 by_cases two:2<=vs.length
 . refine sI (κ:=κ) (lt:=lt vs s1) (s:={ s1 with heap:=s1.heap.push (seqObj "list" vs.toArray 0) }) at0 two fw (O vs s1 hC) (λg hx R hR=>?_) (λg hx i j Z hi hj hij hZ=>?_) (λp g c pm sr hx hg=>?_)
   . exact kind vs s1 hC two g (λb o q=>hx b o (far b o q) (kp b o q)) R hR
   . exact less vs s1 hC g (λb o q=>hx b o (far b o q) (kp b o q)) i j Z hi hj hij hZ
   . exact⟨_,rfl,k8 ⟨_,rfl,qJ vs s1 hC p g c pm sr (λb o q=>hx b o (far b o q) (kp b o q)) hg⟩⟩
 . refine sK (s:={ s1 with heap:=s1.heap.push (seqObj "list" vs.toArray 0) }) at0 'd' λg c hx hg=>?_;exact⟨_,rfl,k8 ⟨_,rfl,qJ vs s1 hC (List.toArray (List.range vs.length)) g c (.refl _) (λi j h1 h2=>absurd h1 'd') (λb o q=>hx b o (far b o q) (kp b o q)) (by rw[sJ];exact hg)⟩⟩
end
end L2
namespace L2
open PySem PySem.W PyProof.Rows
section
variable {prog:xf}{w:xh}{A:Around}{E:qk}{s:qZ}
def VDc(h:Heap)(d:xb)(es:Array DictEntry)(ep:Nat):Prop:=∃o,h.get? d=some o/\o.data=.dict es ep
end
end L2
namespace L2
open PySem PySem.W PySem.Spec PyProof.Rows
section
variable {X:Cx}{qE:qr}{σ:St}{H:Hp}{s:qZ}
theorem Yj{α β:Type}{F:α->β->Prop}:∀{l:List α}{m:List β},Paired F l m->∀{i:Nat}{x:α},l[i]?=some x->∃y,m[i]?=some y/\F x y
 |_,_,.nil,i,x,h=>by simp at h
 |_,_,.cons h t,0,x,e=>by
  rw[List.getElem?_cons_zero]at e
  cases e;exact⟨_,rfl,h⟩
 |_,_,.cons h t,i+1,x,e=>by
  rw[List.getElem?_cons_succ]at e;obtain⟨y,e1,e2⟩:=Yj t e;exact⟨y,by rw[List.getElem?_cons_succ];exact e1,e2⟩
end
section
variable {prog:xf}{w:xh}{A:Around}{E:qk}{s:qZ}
def sN(lo:(d==sysModules)=false)(ty:s.TypeIs (.ref d) "dict")(D:VDc s.heap d es ep)
 (k:Q (.ref s.heap.objs.size) { s with heap:=s.heap.push { cls := .type "dict_keyiterator",data := .fields #[.ref d,.int 0 0,.int es.size 0,.int ep 0] } }):wpAny (model prog w) A (pyIter (.ref d)) Q E s:=by
 obtain⟨od,od1,od2⟩:=D;refine wpAny_pyIter_slot ty PySem.F.slot_dict_iter (kj PySem.F.slot_dict_iter ty PySem.F.entry_dict_iter ?_ (PySem.F.args_dict_iter_1 _));unfold Builtin.«dict.__iter__» Builtin.Dict.dictSlotNone;refine k7 (k7 (wpAny_notOrdered_dict ty (k8 ?_)));show wpAny _ _ (Builtin.Dict.showsAll d >>= _) _ _ s;unfold Builtin.Dict.showsAll;rw[k9 (by rw[lo];decide)];refine k7 (k8 (k7 (q8 od1 od2 (k7 (wpAny_dictEpoch od1 od2 ?_)))));refine k7 (kq (k8 ⟨_,rfl, "dict_keyiterator",_,⟨_,jO _ rfl,rfl⟩,PySem.F.slot_dict_keyiterator_next.lookup,?_⟩));simpa [rawInt] using k
theorem sO(t:s.heap.IsKeyIter it d i es.size ep)(D:VDc s.heap d es ep)(hi:i<es.size)
 (k:∀g,g.IsKeyIter it d (i+1) es.size ep->Heap.SameBut it s.heap g->Q (some es[i].key) { s with heap:=g }):wpAny (model prog w) A (pyNext (.ref it)) Q E s:=by
 obtain⟨o,ho,hc,hd⟩:=id t;obtain⟨od,od1,od2⟩:=D;unfold pyNext;refine k7 (qi (ki (name:=Str.ofString "__next__") t.typeIs PySem.F.slot_dict_keyiterator_next (kj PySem.F.slot_dict_keyiterator_next t.typeIs PySem.F.entry_dict_keyiterator_next ?_ (PySem.F.args_dict_keyiterator_next_1 _))));refine k7 (k8 (k7 (k7 (k7 (kW t.typeIs (k8 (k7 (wpAny_fieldsOf ho hd ?_))))))));simp only[show Builtin.Dict_items.ownsTuple "dict_keyiterator" = false by decide,Bool.false_eq_true,if_false];show wpAny _ _ (if (Value.ref d==Value.none)=true then _ else _) _ _ s;rw[k9 'j'];refine k7 (k8 (k7 (q8 od1 od2 ?_)));rw[k9 'j'];refine k7 (k8 (k7 (wpAny_dictEpoch od1 od2 ?_)));rw[k9 'j'];refine k8 ?_;simp only[show ¬((i:Int)<0) by omega,if_false,ja,jf hi];refine k7 (k7 (kW t.typeIs (k8 (k7 (wpAny_isOneOf_keyiter t.typeIs ?_)))));show wpAny _ _ (setField (.ref it) 1 (rawInt ((i:Int)+1)) >>= _) _ _ s;refine k7 (kL ho hd 'j' ?_);have t':(s.heap.update it (Obj.mapFields (·.setIfInBounds 1 (rawInt ((i:Int)+1))))).IsKeyIter it d (i+1) es.size ep:=⟨_,jh _ ho (Obj.isFreed_of_fields (Obj.data_mapFields hd _)),(Obj.cls_mapFields ..).trans hc,by rw[Obj.data_mapFields hd];simp[rawInt]⟩;refine k7 (kM (k7 (wpAny_isOneOf_keyiter (s:={ s with heap:=s.heap.update it (Obj.mapFields (·.setIfInBounds 1 (rawInt ((i:Int)+1)))) }) t'.typeIs ?_)));show wpAny _ _ (pure es[i].key) _ _ _;exact k8 (k8 ⟨_,rfl,k8 (k _ t' (Heap.SameBut.update ..))⟩)
theorem sP(hh:A.handled=none)(t:s.heap.IsKeyIter it d es.size es.size ep)(D:VDc s.heap d es ep)
 (k:∀g,Heap.ExtBut it s.heap g->Q none { s with heap:=g }):wpAny (model prog w) A (pyNext (.ref it)) Q E s:=by
 obtain⟨o,ho,hc,hd⟩:=id t;obtain⟨od,od1,od2⟩:=D;unfold pyNext;refine k7 (qi (ki (name:=Str.ofString "__next__") t.typeIs PySem.F.slot_dict_keyiterator_next (kj PySem.F.slot_dict_keyiterator_next t.typeIs PySem.F.entry_dict_keyiterator_next ?_ (PySem.F.args_dict_keyiterator_next_1 _))));refine k7 (k8 (k7 (k7 (k7 (kW t.typeIs (k8 (k7 (wpAny_fieldsOf ho hd ?_))))))));simp only[show Builtin.Dict_items.ownsTuple "dict_keyiterator" = false by decide,Bool.false_eq_true,if_false];show wpAny _ _ (if (Value.ref d==Value.none)=true then _ else _) _ _ s;rw[k9 'j'];refine k7 (k8 (k7 (q8 od1 od2 ?_)));rw[k9 'j'];refine k7 (k8 (k7 (wpAny_dictEpoch od1 od2 ?_)));rw[k9 'j'];refine k8 ?_;simp only[show ¬((es.size:Int)<0) by omega,if_false,ja,jz (jG es.size)];refine k7 (k7 (kW t.typeIs (k8 ?_)));show wpAny _ _ (setField (.ref it) 0 .none >>= _) _ _ s;refine k7 (kL ho hd 'j' (k7 ?_));unfold newExc newTuple;refine k7 (kq (k7 (m:=firstArgMember _ _) (kX (a:=Value.none) (by first|rfl|(unfold firstArgMember;rfl)) (kq ?_ (by size_fits)))) (by size_fits));unfold raiseNew;refine k7 (wpAny_handled ?_);rw[show A.in1.handled=none from hh];refine k7 (k8 (wpAny_throw ?_));refine k7 (kU (b:=true) (T := "StopIteration") ⟨_,jO _ rfl,rfl⟩ isSubtype_stop (k8 ?_));exact k _ (((Heap.SameBut.update ..).extBut.push _).push _)
end
end L2
namespace PySem.SeqAt
open AutoSeq1 (wpAny_loadPart')
open MeetsSeq MeetsSeq2 MeetsSeq3 SeqRoads2
end PySem.SeqAt
namespace L2
open PySem PySem.Spec PyProof.Rows
section
variable {X:Cx}
def tFv(te:TE):TE:=λσ H Q=>te σ H λx H1=>(∃z,x=.str z/\z.length<=sizeLine/\Q (.str z) H1)\/∃i,x=.int i/\i.natAbs.log2<1920/\Q (.str (toString i)) H1
def sQ(h:PE X value te):PE X (.FormattedValue value (-1) none pos) (tFv te):=by
 intro qE s σ H Q I q;refine wpAny_FormattedValue_plain (thn (h qE s σ H _ I q) λv s1 c9=>?_);obtain⟨x,H1,I1,r1,q1⟩:=c9;rcases q1 with ⟨z,rfl,hz,q1⟩|⟨i,rfl,hi,q1⟩
 . obtain⟨t,rfl⟩:=r1;exact wpAny_formatField_str ⟨.str z,H1,I1,⟨_,rfl⟩,q1⟩ ⟨.str z,H1,I1.tok _,⟨_,rfl⟩,q1⟩ hz
 . obtain⟨t,rfl⟩:=r1;exact wpAny_formatField_int hi ⟨.str _,H1,I1.tok _,⟨_,rfl⟩,q1⟩
def tJ:List TE->Str->TE
 | [],acc=>λ_ H Q=>Q (.str acc) H
 |t::ts,acc=>λσ H Q=>t σ H λx H1=>∃z,x=.str z/\(acc++z).length<=sizeLine/\tJ ts (acc++z) σ H1 Q
inductive PJ (X:Cx):List Expr->List TE->Prop
 |nil:PJ X [] []
 |cons {e:Expr}{es:List Expr}{t:TE}{ts:List TE} (h:PE X e t) (r:PJ X es ts):PJ X (e::es) (t::ts)
theorem gG{qE:qr}{σ:St}{Q:VK}:∀{es:List Expr}{ts:List TE},PJ X es ts->∀(acc:Str) (s:qZ) (H:Hp),acc.length<=sizeLine->Inv X qE σ H s->tJ ts acc σ H Q ->
 Joins (model X.prog X.w) X.A X.xe (evalEach es X.env) acc (λout s₁=>out.length<=sizeLine/\EP X qE σ Q (.str out s₁.toks) { s₁ with toks:=s₁.toks+1 }) s
 |_,_,.nil,acc,s,H,ha,I,h=>⟨ha,.str acc,H,I.tok _,⟨_,rfl⟩,h⟩
 |_,_,.cons he r,acc,s,H,ha,I,h=>by
  show wpAny _ _ (eval _ X.env) _ _ _;refine thn (he qE s σ H _ I h) λv s1 c9=>?_;obtain⟨x,H1,I1,r1,q1⟩:=c9;obtain⟨z,rfl,hz,q⟩:=q1;obtain⟨t,rfl⟩:=r1;exact⟨z,t,rfl,hz,gG r (acc++z) s1 H1 hz I1 q⟩
def sR(h:PJ X (v₁::v₂::qO) ts):PE X (.JoinedStr (v₁::v₂::qO) pos) (tJ ts Str.empty):=by
 intro qE s σ H Q I q;exact wpAny_JoinedStr (gG h Str.empty s H (jS _) I q)
end
end L2
namespace L2
open PySem PySem.W PySem.Spec PyProof.Rows
def sv:qY->Str
 |.str k _=>k
 |_=>Str.empty
theorem gH:∀{vs:qA}{ss:qB},StrsAre vs ss->∀(i:Nat),i<vs.length->∃tk,vs.getD i Value.none=.str (ss.getD i Str.empty) tk
 |_,_,.nil,i,h=>absurd h (kH _)
 |_,_,.cons _ t _,0,_=>⟨t,rfl⟩
 |_,_,.cons _ _ r,i+1,h=>by
  obtain⟨tk,e⟩:=gH r i (by simpa using h);exact⟨tk,by simpa using e⟩
def sS{a b:Str}(h:a.cps.toList=b.cps.toList):a=b:=by
 obtain⟨⟨x⟩⟩:=a;obtain⟨⟨y⟩⟩:=b;have:x=y:=h;rw[this]
def ltS(a b:Str):Prop:=a.cps.toList<b.cps.toList
instance (a b:Str):Decidable (ltS a b):=inferInstanceAs (Decidable (a.cps.toList<b.cps.toList))
def Yk(h:ltS a b)(h':ltS b c):ltS a c:=List.lt_trans h h'
def bJ(n:a≠b)(h:¬ltS a b):ltS b a:=by
 by_cases z:ltS b a
 . exact z
 . exact absurd (sS (List.le_antisymm (List.not_lt.mp z) (List.not_lt.mp h))) n
section
variable {X:Cx}{qE:qr}{σ:St}{H:Hp}{s:qZ}
theorem Inv.drawn(I:Inv X qE σ H s)(d:Drawn):Inv X qE σ H { s with drawn:=d } :=
 I.step (h':=s.heap) (g':=s.gens) (t':=s.toks) (d':=d) (ch:=[]) (λ_ z=>nomatch z) (λb o _ _ _ e _=>e) (λb o _ _ _ e _=>⟨o.slots,e⟩) (λb o _ _ n=>n) (λb o _ e=>⟨o,e⟩) (λ_ _ e=>e) (λ_ _ _ e=>e) (λ_ ps e=>⟨#[],by rw[Array.append_empty];exact e⟩) (λm hm=>hm) I.hok I.bare
def sT(I:Inv X qE σ H s)(nd:ks.Nodup)(few:ks.length<64)
 (col:∀(E':qk) (R:qA->qZ->Prop),(∀(g:Heap) (tk:Nat) (d:Drawn) vs ss,(∀b o,s.heap.get? b=some o->g.get? b=some o)->s.heap.objs.size<=g.objs.size->ss.Perm ks->StrsAre vs ss->R vs { s with heap:=g,toks:=tk,drawn:=d })->wpAny (model X.prog X.w) X.A.in1 (collect x) R E' s)
 (q:∀(l:xb) (ss:qB),H l=none->ss.Perm ks->ss.Pairwise ltS->Q (.ref l) (upd H l (.lst (ss.map V.str)))) :
 wpAny (model X.prog X.w) X.A (call (.builtin "sorted") [x]) (EP X qE σ Q) X.xe s:=by
 let C:qA->qZ->Prop:=λvs s1=>∃(g:Heap) (tk:Nat) (d:Drawn) (ss:qB),s1={ s with heap:=g,toks:=tk,drawn:=d }/\(∀b o,s.heap.get? b=some o->g.get? b=some o)/\s.heap.objs.size<=g.objs.size/\ss.Perm ks/\StrsAre vs ss
 have at_:∀vs s1,C vs s1->∃ss:qB,ss.Nodup/\ss.Perm ks/\vs.length=ss.length/\(∀i,i<vs.length->sv (vs.getD i Value.none)=ss.getD i Str.empty/\∃tk,vs.getD i Value.none=.str (ss.getD i Str.empty) tk):=λvs s1 hC=>by
  obtain⟨g,tk,d,ss,_,_,_,pp,sa⟩:=hC;refine⟨ss,pp.nodup_iff.mpr nd,pp,StrsAre.length sa,λi hi=>?_⟩;obtain⟨tk,e⟩:=gH sa i hi;exact⟨by rw[e];rfl,tk,e⟩
 refine sL (C:=C) (λE' R hR=>col E' R λg tk d vs ss k1 k2 k3 k4=>hR _ _ ⟨g,tk,d,ss,rfl,k1,k2,k3,k4⟩) (λvs s1 hC=>?_) oneType' (λvs _ i j=>decide (ltS (sv (vs.getD i Value.none)) (sv (vs.getD j Value.none)))) (λvs s1 hC=>?_)  (λvs s1 hC two g2 kp2 R hR=>?_) (λvs s1 hC g2 kp2 i j Z hi hj hij hZ=>?_) (λvs s1 hC p g2 c pm sr kp2 hg=>?_)
 . obtain⟨ss,_,pp,l,_⟩:=at_ vs s1 hC;rw[l,pp.length_eq];omega
 . obtain⟨ss,ns,pp,l,at2⟩:=at_ vs s1 hC;refine⟨λi j k _ _ _ h1 h2=>kf (Yk (kS h1) (kS h2)),λi j hi hj hij h=>kf (bJ (λz=>?_) (of_decide_eq_false h))⟩;rw[(at2 i hi).1,(at2 j hj).1]at z;have hi':i < ss.length:=by omega
   have hj':j<ss.length:=by omega
   simp only[List.getD,jD hi',jD hj',Option.getD_some]at z;exact hij ((List.getElem_inj ns).mp z)
 . obtain⟨ss,ns,pp,l,at2⟩:=at_ vs s1 hC;refine kas_kind (T := .type "str") two (λv hv=>?_) 'f' 'f' hR;obtain⟨i,hi,rfl⟩:=List.mem_iff_getElem.mp hv;obtain⟨_,tk,e⟩:=at2 i hi;simp only[List.getD,jD hi,Option.getD_some]at e;rw[e];exact .now
 . obtain⟨ss,ns,pp,l,at2⟩:=at_ vs s1 hC;obtain⟨e1,t1,f1⟩:=at2 i hi;obtain⟨e2,t2,f2⟩:=at2 j hj;rw[f1,f2];rw[e1,e2]at hZ;exact kas_lt_str hZ
 . obtain⟨ss,ns,pp,l,at2⟩:=at_ vs s1 hC;obtain⟨g,tk,d,_,rfl,kp,up,_,_⟩:=hC;dsimp only at kp2 hg ⊢;have pz:p.toList.length=ss.length:=by rw[jW,pm.size];exact l
   have pin:∀i∈p.toList,i<ss.length:=λi hi=>by
    have:=pm.mem_iff.mp (Array.mem_toList_iff.mp hi);rw[<- l];simpa using this
   have perm:(p.toList.map λi=>ss.getD i Str.empty).Perm ss:=by
    have e1:(List.range ss.length).map (λi=>ss.getD i Str.empty)=ss:=by
     refine List.ext_getElem 'j' λi h1 h2=>?_;simp[List.getD,h2]
    have:=(show p.toList.Perm (List.range vs.length) from Array.perm_iff_toList_perm.mp pm).map λi=>ss.getD i Str.empty;rw[l]at this
    rwa [e1]at this
   have fr:H g.objs.size=none:=I.hok.fresh up;have kp3:∀b o,s.heap.get? b=some o->g2.get? b=some o:=λb o z=>kp2 b o (kp b o z);refine⟨.ref g.objs.size,upd H g.objs.size (.lst ((p.toList.map λi=>ss.getD i Str.empty).map V.str)),(I.drawn d).laid (t':=tk) kp3 up (show ObjOk X.prog X.w _ g2 _ (.lst ((p.toList.map λi=>ss.getD i Str.empty).map V.str)) from⟨by rw[jC,jC,pz,pp.length_eq,kR];omega,Q1 vs p,c,?_,hg⟩),rfl,q _ _ fr (perm.trans pp) ?_⟩
   . unfold Q1
     have:∀pl:qC,(∀i∈pl,i<ss.length)->Vals ((pl.map λi=>ss.getD i Str.empty).map V.str) (pl.map λi=>vs.getD i Value.none):=λpl=>by
      induction pl with
      |nil=>intro _;exact .nil
      |cons i pl ih =>
       intro hp;obtain⟨_,t1,f1⟩:=at2 i (by rw[l];exact hp i 'j');rw[jg,jg,jg,f1];exact .cons ⟨_,rfl⟩ (ih λk hk=>hp k (by simp[hk]))
     exact this p.toList pin
   . rw[List.pairwise_map];refine List.pairwise_iff_getElem.mpr λi j hi hj hij=>?_;have h0:=kS (sr i j hij 'd');have g1:p.getD i 0=p.toList[i]:=by simp[Array.getD,show i < p.size by simpa using hi]
     have g3:p.getD j 0=p.toList[j]:=by simp[Array.getD,show j<p.size by simpa using hj]
     rw[g1,g3,(at2 _ (by rw[l];exact pin _ (jp hi))).1,(at2 _ (by rw[l];exact pin _ (jp hj))).1]at h0;exact h0
end
section
def sU(t:SetTable)(es:Array (Int×qY))(h:Int)(x:qY):(layNew t es h x).2.1.led=t.led/\(t.plain=false->(layNew t es h x).2.1.plain=false):=by
 unfold layNew;split
 . rename_i slot wd _;show((t.put slot).1.orStandIn _).led=t.led/\(t.plain=false->((t.put slot).1.orStandIn _).plain=false);unfold SetTable.orStandIn;split
   . exact⟨rfl,λz=>z⟩
   . exact⟨rfl,λ_=>rfl⟩
 . exact⟨rfl,λ_=>rfl⟩
def sV(t:SetTable)(es:Array (Int×qY))(n:Nat):(relayAll t es n).2.1.led=t.led/\(t.plain=false->(relayAll t es n).2.1.plain=false):=by
 unfold relayAll;split
 . rename_i t' order e
   have:t'.led=t.led/\t'.plain=t.plain:=by
    unfold SetTable.relaid SetTable.laid at e;simp only[bind,Option.bind,pure]at e;split at e
    . cases e
    . cases e;exact⟨rfl,rfl⟩
   dsimp only;split
   . exact⟨this.1,λz=>this.2.trans z⟩
   . exact⟨rfl,λ_=>rfl⟩
 . exact⟨rfl,λ_=>rfl⟩
end
section
variable {prog:xf}{w:xh}{A:Around}{E:qk}{s:qZ}
def Qb(w:xh)(k:Str)(e:Int×qY):Prop:=e.1=hashStr w k/\∃tk,e.2=.str k tk
def SetS(w:xh)(byT:Bool)(h:Heap)(a:xb)(ks:qB):Prop:=∃o es ep t,h.get? a=some o/\o.ExactSet/\o.data=.set es ep t/\Paired (Qb w) ks es.toList/\ks.Nodup/\es.size<scanBound/\t.fits es.size=true/\t.led = !byT/\(ks=[]\/t.plain=false)
def bK(h:Paired (Qb w) ks es):ElemsOf (strKind prog w) es:=by
 intro e he
 induction h with
 |nil=>cases he
 |cons h1 _ ih =>
  rcases jB.mp he with z|z
  . subst z;obtain⟨e1,tk,e2⟩:=h1;exact⟨⟨_,by rw[e2];exact strKind_is _ _ _ _,e1⟩,by rw[e2];rfl⟩
  . exact ih z
def gI(h:Paired (Qb w) ks es)(x:Str):(es.findIdx? (λe=>(strKind prog w).is x e.2)=none/\x∉ks)\/((∃j,es.findIdx? (λe=>(strKind prog w).is x e.2)=some j)/\x∈ks):=by
 induction h with
 |nil=>exact .inl ⟨rfl,λz=>nomatch z⟩
 |cons h1 _ ih =>
  rename_i k e ks es _;obtain⟨e1,tk,e2⟩:=h1
  by_cases z:x=k
  . subst z;refine .inr ⟨⟨0,?_⟩,by simp⟩;rw[List.findIdx?_cons,e2,strKind_is];rfl
  . have nz:(strKind prog w).is x e.2=false:=by
     cases hb:(strKind prog w).is x e.2 with
     |false=>rfl
     |true=>exact absurd ((strKind prog w).inj e.2 x k hb (by rw[e2];exact strKind_is _ _ _ _)) z
    rcases ih with ⟨a,b⟩|⟨⟨j,a⟩,b⟩
    . refine .inl ⟨?_,λy=>?_⟩
      . rw[List.findIdx?_cons,nz,a];rfl
      . rcases jB.mp y with y | y
        . exact z y
        . exact b y
    . refine .inr ⟨⟨j+1,?_⟩,by simp[b]⟩;rw[List.findIdx?_cons,nz,a];rfl
def prm{α β:Type}{F:α->β->Prop}{m m':List β}(h:m'.Perm m):∀{l:List α},Paired F l m->∃l',l'.Perm l/\Paired F l' m':=by
 induction h with
 |nil=>intro l t;exact⟨l,.refl _,t⟩
 |cons x _ ih =>
  intro l t
  cases t with
  |cons g t =>
   obtain⟨l',h1,h2⟩:=ih t;exact⟨_::l',h1.cons _,.cons g h2⟩
 |swap x y _ =>
  intro l t
  cases t with
  |cons g t =>
   cases t with
   |cons g2 t=>exact⟨_,.swap _ _ _,.cons g2 (.cons g t)⟩
 |trans _ _ ih1 ih2 =>
  intro l t;obtain⟨l1,h1,t1⟩:=ih2 t;obtain⟨l2,h2,t2⟩:=ih1 t1;exact⟨l2,h2.trans h1,t2⟩
theorem prs{α β:Type}{F:α->β->Prop}{x:α}{y:β}(h:F x y):∀{l:List α}{m:List β},Paired F l m->Paired F (l++[x]) (m++[y])
 |_,_,.nil => .cons h .nil
 |_,_,.cons g t => .cons g (prs h t)
def Yl{h:Heap}{a:xb}{o:Obj}{es:Array (Int×qY)}{ep:Nat}{t:SetTable}(ho:h.get? a=some o)(hd:o.data=.set es ep t)(es':Array (Int×qY))(t':SetTable) :
 (h.update a (Obj.putSet es' t')).get? a=some { o with data := .set es' (ep+1) t' }:=by
 have:=jh (Obj.putSet es' t') ho (by rw[putSet_of es' t' hd];rfl)
 rwa [putSet_of es' t' hd]at this
def gJ{g:Bool->Sem Unit}(hg:∀(b:Bool) (s₁:qZ) (Q':Unit->qZ->Prop),Q' () s₁->wpAny (model prog w) A (g b) Q' E s₁)(ho:s.heap.get? a=some o)(hex:o.ExactSet)(hd:o.data=.set es ep t)(pr1:Paired (Qb w) ks1 es1.toList)(nd1:ks1.Nodup)(b1:es1.size<scanBound)(f2:t2.fits es1.size=true)(led2:t2.led = !byT)(pl2:t2.plain=false){R:Option Bool->qZ->Prop}
 (h:∀h' ks',Heap.SameBut a s.heap h'->SetS w byT h' a ks'->ks'.Perm ks1->R (some true) { s with heap:=h' }) :
 wpAny (model prog w) A (do
  storeSet a es1 t2
  if (!wasDummy && t2.tooFull)=true then do
      g (relayAll t2 es1 (SetTable.grown es1.size)).2.2
      storeSet a (relayAll t2 es1 (SetTable.grown es1.size)).1 (relayAll t2 es1 (SetTable.grown es1.size)).2.1
      pure (some true)
   else pure (some true)) R E s:=by
 refine k7 (wpAny_storeSet_of ho hd ?_ (fits_of_scanBound b1));have ho1:=Yl ho hd es1 t2;have sb1:=Heap.SameBut.update s.heap a (Obj.putSet es1 t2);split
 . have hp:=relayAll_perm t2 es1 (SetTable.grown es1.size);have hfr:=relayAll_fits t2 es1 (SetTable.grown es1.size);have hlr:=sV t2 es1 (SetTable.grown es1.size);generalize relayAll t2 es1 (SetTable.grown es1.size)=Rl at hp hfr hlr ⊢;obtain⟨es2,t3,gave2⟩:=Rl;dsimp only at hp hfr hlr ⊢;obtain⟨ks2,kp,pr2⟩:=prm hp pr1;have b2:es2.size < scanBound:=by rw[<- jW,hp.length_eq,jW];exact b1
   refine k7 (hg _ _ _ ?_);refine k7 (wpAny_storeSet_of ho1 rfl ?_ (fits_of_scanBound b2));exact k8 (h _ ks2 (sb1.trans (Heap.SameBut.update _ a _)) ⟨_,es2,_,t3,Yl ho1 rfl es2 t3,hex,rfl,pr2,kp.nodup_iff.mpr nd1,b2,hfr,hlr.1.trans led2,.inr (hlr.2 pl2)⟩ kp)
 . exact k8 (h _ ks1 sb1 ⟨_,es1,_,t2,ho1,hex,rfl,pr1,nd1,b1,f2,led2,.inr pl2⟩ (.refl _))
theorem gK(hS:SetS w byT s.heap a ks)(room:ks.length+1<scanBound)
 (h:∀(h':Heap) (ks':qB) (b:Bool),Heap.SameBut a s.heap h'->SetS w byT h' a ks'->(∀k,k∈ks'↔k∈ks\/k=x)->ks'.length<=ks.length+1->Q b { s with heap:=h' }) :
 wpAny (model prog w) A (setAddHashed a (.str x tk) (hashStr w x)) Q E s:=by
 obtain⟨o,es,ep,t,ho,hex,hd,pr,nd,hb,hf,led,pl⟩:=hS;have hel:ElemsOf (strKind prog w) es.toList:=bK pr;have hl:=pr.length;have hl:es.size=ks.length:=by rw[<- jW];exact hl.symm
 unfold setAddHashed setAddHashedIn;refine kM (k7 (kK ho hd hf ?_));dsimp only;rw[byScan_of (knd:=strKind prog w) (x := .str x tk) rfl hb hel];simp only[↓reduceIte];unfold setAddByScan;refine k7 ?_;refine k7 (qj ?_);refine k7 (wpAny_setScan_of (knd:=strKind prog w) (k:=x) (strKind_is _ _ _ _) ho hd hf hel ?_);rcases gI (prog:=prog) pr x with ⟨e1,nin⟩|⟨⟨j,e1⟩,inn⟩
 . rw[e1];dsimp only;have hperm:=layNew_perm t es (hashStr w x) (.str x tk);have hfits:=layNew_fits t es (hashStr w x) (.str x tk);have hled:=sU t es (hashStr w x) (.str x tk);generalize hL:layNew t es (hashStr w x) (.str x tk)=L at hperm hfits hled;have hL':layNew t es ((strKind prog w).hash x) (.str x tk)=L:=hL;obtain⟨es1,t1,wasDummy,gave⟩:=L;dsimp only at hperm hfits hled;rw[Array.toList_push]at hperm;obtain⟨ks1,kp,pr1⟩:=prm hperm (prs (show Qb w x (hashStr w x,.str x tk) from⟨rfl,tk,rfl⟩) pr)
   have nd1:ks1.Nodup:=by
    rw[kp.nodup_iff,j3];refine⟨nd,by simp,λa ha b hb e=>?_⟩;have:b=x:=by simpa using hb
    exact nin (this ▸ e ▸ ha)
   have sz1:es1.size=es.size+1:=by rw[<- jW,hperm.length_eq,jY,jW];rfl
   have mem1:∀k,k∈ks1↔k∈ks\/k=x:=λk=>by rw[kp.mem_iff,jI,jA]
   have len1:ks1.length<=ks.length+1:=by rw[kp.length_eq,jY];exact jG _
   have b1:es1.size<scanBound:=by omega
   have qJ:∀h' ks',Heap.SameBut a s.heap h'->SetS w byT h' a ks'->ks'.Perm ks1->Q true { s with heap:=h' }:=λh' ks' sb hS' kp'=>h h' ks' true sb hS' (λk=>kp'.mem_iff.trans (mem1 k)) (by rw[kp'.length_eq];exact len1);have hgw:∀(b:Bool) (s₁:qZ) (Q':Unit->qZ->Prop),Q' () s₁->wpAny (model prog w) A (match b with|true=>rule "set.scan.the-table-gave-way" |false=>pure ()) Q' E s₁:=λb s₁ Q' hq=>by cases b<;>first|exact k8 hq|exact qj hq
   refine k7 (hgw _ _ _ ?_);dsimp only;split
   . refine k7 ?_;rw[hashByValue_scannable 8 (x := .str x tk) rfl];refine k8 ?_;refine gJ (byT:=byT) hgw ho hex hd pr1 nd1 b1 (t2:={ t1 with plain:=false }) ?_ ?_ rfl ?_
     . exact SetTable.fits_plain_off hfits
     . exact hled.1.trans led
     . intro h' ks' sb hS' kp';exact k8 (qJ h' ks' sb hS' kp')
   . rename_i hp1;refine k7 (k8 ?_);simp only[↓reduceIte];refine gJ (byT:=byT) hgw ho hex hd pr1 nd1 b1 hfits (hled.1.trans led) (by simpa using hp1) ?_;intro h' ks' sb hS' kp';exact k8 (qJ h' ks' sb hS' kp')
 . rw[e1];dsimp only;refine k8 (k8 ?_);have e:s={ s with heap:=s.heap }:=by cases s;rfl
   have:=h s.heap ks false (Heap.SameBut.refl a s.heap) ⟨o,es,ep,t,ho,hex,hd,pr,nd,hb,hf,led,pl⟩ (λk=>⟨.inl,λz=>z.elim id λz=>z ▸ inn⟩) (j7 _);rw[e];exact this
def SetS.at(x:SetS w byT h a ks)(e:∀o,h.get? a=some o->h'.get? a=some o):SetS w byT h' a ks:=by
 obtain⟨o,es,ep,t,ho,r⟩:=x;exact⟨o,es,ep,t,e _ ho,r⟩
end
section
variable {prog:xf}{w:xh}{A:Around}{E:qk}{s:qZ}
abbrev xW(w:xh):Bool:=w.params.followText "set-order"
def Jo(w:xh):Obj:={ cls := .type "set",dict:=none,data := .set #[] 0 (.fresh 0 0 (!xW w)) }
def sW(a:qY)(h:Q₁ (.ref s.heap.objs.size) { s with heap:=s.heap.push (Jo w) }) :
 codeAny (model prog w) A (.call (.builtin "set.__new__") ⟨[.type "set",a],[]⟩) (wants Q₁ E) s:=by
 refine codeAny_of_tree ?_;show wpAny _ A.in1 (do checkBuiltinCall "set.__new__" ⟨[.type "set",a],[]⟩;again (.builtin "set.__new__" ⟨[.type "set",a],[]⟩)) _ _ s;refine k7 (kX (PySem.F.newCall_set_1 a) (k8 ⟨plainId_quiet PySem.F.plain_set_new _,qh PySem.F.entry_set_new ?_⟩));rw[Around.under_plainId PySem.F.plain_set_new _];unfold Builtin.«set.__new__» Builtin.Frozenset.newClass;have hsub:=sub_set_self;obtain⟨hp,g,d,tk,os⟩:=s;dsimp only;wp_walk;refine kO (k8 ?_);dsimp only;simp only[newObj];refine k7 (wpAny_alloc (k8 ?_));exact k8 h
end
def gL:Manifest.owners.lookup (String.ofList ['r','o','t','a','r','e','t','i','_','t','e','s'].reverse)=some Manifest.sig_set_iterator:=by kernel_rfl
def Qt:Slot "set_iterator" "__next__" "set_iterator.__next__" :=
 .of (owner := "set_iterator") (n := "__next__") (by rw[typeLookup_type,builtinLookup_eq_fast];kernel_rfl) (by decide +kernel) (by decide +kernel) (by decide +kernel)
  (by first|exact .inl (by decide +kernel)|exact .inr (by decide +kernel)) (by rw[isSubtype_type];kernel_rfl)
def Ym:entryFor table "set_iterator.__next__" = some Builtin.«set_iterator.__next__»:=entryFor_of_tree (by kernel_rfl)
theorem Yn(a:qY):argsOk "set_iterator.__next__" ⟨[a],[]⟩:=by
 unfold argsOk;rw[signature?_of (id := "set_iterator.__next__") (n:=['_','_','t','x','e','n','_','_']) (o:=['r','o','t','a','r','e','t','i','_','t','e','s']) (by kernel_rfl) gL];kernel_rfl
def gM:Slot "set_iterator" "__iter__" "set_iterator.__iter__" :=
 .of (owner := "set_iterator") (n := "__iter__") (by rw[typeLookup_type,builtinLookup_eq_fast];kernel_rfl) (by decide +kernel) (by decide +kernel) (by decide +kernel)
  (by first|exact .inl (by decide +kernel)|exact .inr (by decide +kernel)) (by rw[isSubtype_type];kernel_rfl)
theorem sX(a:qY):argsOk "set_iterator.__iter__" ⟨[a],[]⟩:=by
 unfold argsOk;rw[signature?_of (id := "set_iterator.__iter__") (n:=['_','_','r','e','t','i','_','_']) (o:=['r','o','t','a','r','e','t','i','_','t','e','s']) (by kernel_rfl) gL];kernel_rfl
theorem t5:entryFor table "set_iterator.__iter__" = some Builtin.«dict_keyiterator.__iter__» :=
 entryFor_alias (id' := "dict_keyiterator.__iter__") (by kernel_rfl) (by first|rfl|decide +kernel|(unfold String.splitOn;simp +decide [String.splitOnAux])) (by decide +kernel) (by kernel_rfl)
theorem t8:entryFor table "set.__iter__" = some Builtin.«frozenset.__iter__» :=
 entryFor_alias (id' := "frozenset.__iter__") (by kernel_rfl) (by first|rfl|decide +kernel|(unfold String.splitOn;simp +decide [String.splitOnAux])) (by decide +kernel) (by kernel_rfl)
section
variable {prog:xf}{w:xh}{A:Around}{E:qk}{s:qZ}
theorem bL{α:Type}:∀(l:List α) (i:Nat) (h:i<l.length),(l[i]::l.eraseIdx i).Perm l
 |x::l,0,_ => .refl _
 |x::l,i+1,h=>by
  have h':i<l.length:=by simpa using h
  show(l[i]'h'::x::l.eraseIdx i).Perm (x::l);exact(List.Perm.swap _ _ _).trans ((bL l i h').cons x)
def tj(hn:n≠0)(h:∀i,i<n->Q i { s with drawn:=s.drawn.bump src }):wpAny (model prog w) A (choose src n) Q E s:=λΓ p hΓ=>by
 unfold choose;rw[Sem.wp_choose];exact⟨hn,h _ (Nat.mod_lt _ (Nat.pos_of_ne_zero hn))⟩
theorem bM{α:Type}:∀(n:Nat) (xs:List α) (s:qZ) (Q:List α->qZ->Prop),xs.length=n->(∀ys d,ys.Perm xs->Q ys { s with drawn:=d })->wpAny (model prog w) A (drawOrder n xs) Q E s
 |0,xs,s,Q,hl,h=>by
  have:xs=[]:=List.length_eq_zero_iff.mp hl;subst this;exact k8 (h [] s.drawn (.refl _))
 |n+1,[],s,Q,hl,h=>by simp at hl
 |n+1,x::xs,s,Q,hl,h=>by
  show wpAny _ _ (choose .order (x::xs).length >>= _) _ _ _;refine k7 (tj 'j' λi hi=>?_);rw[jD hi];dsimp only;refine k7 (bM n ((x::xs).eraseIdx i) _ _ (by rw[List.length_eraseIdx_of_lt hi,hl];rfl) λys d p=>k8 (h _ d ?_));exact(p.cons _).trans (bL _ _ hi)
theorem gN{α:Type}(next:Nat->Nat):∀(f k:Nat) (left:List α) (out:Array α),left.length=f->(pickOrder.go next f k left out).toList.Perm (out.toList++left)
 |0,k,left,out,hl=>by
  have:left=[]:=List.length_eq_zero_iff.mp hl;subst this;simp[pickOrder.go]
 |f+1,k,left,out,hl=>by
  have hi:next k % left.length<left.length:=Nat.mod_lt _ 'd';unfold pickOrder.go;rw[jD hi];dsimp only;refine(gN next f (k+1) _ _ (by rw[List.length_eraseIdx_of_lt hi];omega)).trans ?_;rw[Array.toList_push,jw];exact List.Perm.append_left _ (bL _ _ hi)
def bN{α:Type}(next:Nat->Nat)(xs:Array α):(pickOrder next xs).toList.Perm xs.toList:=by
 have:=gN next xs.size 0 xs.toList #[] 'j';simpa [pickOrder] using this
def IsSi(h:Heap)(I:xb)(f:qY)(i:Nat)(S:xb)(n ep:Nat):Prop:=∃o,h.get? I=some o/\o.cls=.type "set_iterator" /\ o.data=.fields #[f,rawInt i,.ref S,rawInt n,rawInt ep]
def IsSi.typeIs(x:IsSi s.heap I f i S n ep):s.TypeIs (.ref I) "set_iterator" := let ⟨o,ho,hc,_⟩:=x;⟨o,ho,hc⟩
def IsSi.at(x:IsSi h I f i S n ep)(e:∀o,h.get? I=some o->h'.get? I=some o):IsSi h' I f i S n ep:=let ⟨o,ho,r⟩:=x;⟨o,e _ ho,r⟩
def SeAt(h:Heap)(S:xb)(es:Array (Int×qY))(ep:Nat)(t:SetTable):Prop:=∃o,h.get? S=some o/\o.data=.set es ep t
def SeAt.at(x:SeAt h S es ep t)(e:∀o,h.get? S=some o->h'.get? S=some o):SeAt h' S es ep t:=let ⟨o,ho,r⟩:=x;⟨o,e _ ho,r⟩
theorem tw{ep:Nat}{i:Nat}{p:Nat}{Q:qv->qZ->Prop}(hit:IsSi s.heap I (.ref P) i S es.size ep)(hS:SeAt s.heap S es ep t)(hf:t.fits es.size=true)(hP:s.heap.IsTuple P places)(hp:places[i]?=some (.int p tk))(hx:es[p]?=some x)
 (hQ:∀h',IsSi h' I (.ref P) (i+1) S es.size ep->Heap.SameBut I s.heap h'->Q (some x.2) { s with heap:=h' }):wpAny (model prog w) A (pyNext (.ref I)) Q E s:=by
 obtain⟨o,ho,hc,hd⟩:=id hit;obtain⟨oS,hoS,hdS⟩:=hS;obtain⟨oP,hoP,hcP,nP,hdP⟩:=id hP;unfold pyNext;refine k7 (qi (ki (name:=Str.ofString "__next__") hit.typeIs Qt (kj Qt hit.typeIs Ym ?_ (Yn _))));unfold Builtin.«set_iterator.__next__»;refine k7 (kX (a:=(Value.ref I,[])) rfl ?_)
 try dsimp only
 refine k7 (wpAny_fieldsOf ho hd ?_)
 try dsimp only
 show wpAny _ _ (setEntries S >>= _) _ _ s;refine k7 (kQ hoS hdS hf ?_);refine kh (λz=>absurd z 'j') (λ_=>?_);show wpAny _ _ (seqItems? (.ref P) >>= _) _ _ s;refine k7 (kT hoP hdP ?_);simp only[ja,hp];refine k7 ?_;unfold setNextDrawn;refine k7 (kK hoS hdS hf ?_);dsimp only;rw[k9 'j'];rw[hx];refine k8 ?_;refine k7 (kL ho hd 'j' ?_);refine k8 ⟨x.2,rfl,k8 (hQ _ ?_ (Heap.SameBut.update ..))⟩;exact⟨_,jh _ ho (Obj.isFreed_of_fields (Obj.data_mapFields hd _)),(Obj.cls_mapFields ..).trans hc,by rw[Obj.data_mapFields hd];simp[rawInt]⟩
def gO{α:Type}{R:α->qZ->Prop}{Q:qv->qZ->Prop}(hh:A.handled=none)(hQ:∀h',(∀b o,s.heap.get? b=some o->h'.get? b=some o)->Q none { s with heap:=h' }) :
 wpAny (model prog w) A.in1 (newExc (.type "StopIteration") [] >>= λe=>(raiseNew e:Sem α)) R (λe s'=>wpAny (model prog w) A (do if <- isInstance e (.type "StopIteration") then pure none else throw e) Q E s') s:=by
 refine k7 ?_;unfold newExc newTuple;refine k7 (kq (k7 (m:=firstArgMember _ _) (kX (a:=Value.none) (by first|rfl|(unfold firstArgMember;rfl)) (kq ?_ (by size_fits)))) (by size_fits));unfold raiseNew;refine k7 (wpAny_handled ?_);rw[show A.in1.handled=none from hh];refine k7 (k8 (wpAny_throw ?_));refine k7 (kU (b:=true) (T := "StopIteration") ⟨_,jO _ rfl,rfl⟩ isSubtype_stop (k8 ?_));exact hQ _ λb o e=>jF _ (jF _ e)
theorem tD(hh:A.handled=none)(hit:IsSi s.heap I (.ref P) i S es.size ep)(hS:SeAt s.heap S es ep t)(hf:t.fits es.size=true)(hP:s.heap.IsTuple P places)(hp:places[i]?=none)
 (hQ:∀h',(∀b o,b≠I->s.heap.get? b=some o->h'.get? b=some o)->Q none { s with heap:=h' }):wpAny (model prog w) A (pyNext (.ref I)) Q E s:=by
 obtain⟨o,ho,hc,hd⟩:=id hit;obtain⟨oS,hoS,hdS⟩:=hS;obtain⟨oP,hoP,hcP,nP,hdP⟩:=id hP;unfold pyNext;refine k7 (qi (ki (name:=Str.ofString "__next__") hit.typeIs Qt (kj Qt hit.typeIs Ym ?_ (Yn _))));unfold Builtin.«set_iterator.__next__»;refine k7 (kX (a:=(Value.ref I,[])) rfl ?_)
 try dsimp only
 refine k7 (wpAny_fieldsOf ho hd ?_);show wpAny _ _ (setEntries S >>= _) _ _ s;refine k7 (kQ hoS hdS hf ?_);refine kh (λz=>absurd z 'j') (λ_=>?_);show wpAny _ _ (seqItems? (.ref P) >>= _) _ _ s;refine k7 (kT hoP hdP ?_);simp only[ja,hp];refine k7 (kL ho hd 'j' ?_);have ho2:=jh (Obj.mapFields (·.setIfInBounds 0 (rawInt 0))) ho (Obj.isFreed_of_fields (Obj.data_mapFields hd _));have hd2:=Obj.data_mapFields (o:=o) hd (·.setIfInBounds 0 (rawInt 0));have hx2:∀b o',b≠I->s.heap.get? b=some o'->(s.heap.update I (Obj.mapFields (·.setIfInBounds 0 (rawInt 0)))).get? b=some o':=λb o' hb e=>(Heap.SameBut.update ..).extBut b o' hb e;generalize s.heap.update I (Obj.mapFields (·.setIfInBounds 0 (rawInt 0)))=g2 at ho2 hx2 ⊢;generalize Obj.mapFields (·.setIfInBounds 0 (rawInt 0)) o=o2 at ho2 hd2;refine k7 (kL (s:={ s with heap:=g2 }) ho2 hd2 'j' ?_);refine gO hh λh' k=>hQ h' λb o' hb e=>k b o' ((Heap.SameBut.update ..).extBut b o' hb (hx2 b o' hb e))
theorem gP{ep slot nx:Nat}{i:Nat}{Q:qv->qZ->Prop}(hit:IsSi s.heap I (rawInt slot) i S es.size ep)(hS:SeAt s.heap S es ep t)(hf:t.fits es.size=true)
 (hn:∀(A:Around) (E:qk) (Q':Option (qY×Nat)->qZ->Prop),Q' (some (x,nx)) s->wpAny (model prog w) A (setNext S slot i ep) Q' E s)
 (hQ:∀h',IsSi h' I (rawInt nx) (i+1) S es.size ep->Heap.SameBut I s.heap h'->Q (some x) { s with heap:=h' }):wpAny (model prog w) A (pyNext (.ref I)) Q E s:=by
 obtain⟨o,ho,hc,hd⟩:=id hit;obtain⟨oS,hoS,hdS⟩:=hS;unfold pyNext;refine k7 (qi (ki (name:=Str.ofString "__next__") hit.typeIs Qt (kj Qt hit.typeIs Ym ?_ (Yn _))));unfold Builtin.«set_iterator.__next__»;refine k7 (kX (a:=(Value.ref I,[])) rfl ?_)
 try dsimp only
 refine k7 (wpAny_fieldsOf ho hd ?_);show wpAny _ _ (setEntries S >>= _) _ _ s;refine k7 (kQ hoS hdS hf ?_);refine kh (λz=>absurd z 'j') (λ_=>?_);show wpAny _ _ (setNext S (slot:Int).toNat (i:Int).toNat (ep:Int).toNat >>= _) _ _ s;rw[ja,ja,ja];refine k7 (hn _ _ _ ?_);dsimp only;refine k7 (kL ho hd 'j' ?_);have ho2:=jh (Obj.mapFields (·.setIfInBounds 0 (rawInt nx))) ho (Obj.isFreed_of_fields (Obj.data_mapFields hd _));have hd2:=Obj.data_mapFields (o:=o) hd (·.setIfInBounds 0 (rawInt nx));have hc2:(Obj.mapFields (·.setIfInBounds 0 (rawInt nx)) o).cls=.type "set_iterator" := (Obj.cls_mapFields ..).trans hc;have sb:=Heap.SameBut.update s.heap I (Obj.mapFields (·.setIfInBounds 0 (rawInt nx)));generalize s.heap.update I (Obj.mapFields (·.setIfInBounds 0 (rawInt nx)))=g2 at ho2 sb ⊢;generalize Obj.mapFields (·.setIfInBounds 0 (rawInt nx)) o=o2 at ho2 hd2 hc2;refine k7 (kL (s:={ s with heap:=g2 }) ho2 hd2 'j' ?_);refine k8 ⟨x,rfl,k8 (hQ _ ?_ (sb.trans (Heap.SameBut.update ..)))⟩;exact⟨_,jh _ ho2 (Obj.isFreed_of_fields (Obj.data_mapFields hd2 _)),(Obj.cls_mapFields ..).trans hc2,by rw[Obj.data_mapFields hd2];simp[rawInt]⟩
theorem bO{ep slot:Nat}{i:Nat}{Q:qv->qZ->Prop}(hh:A.handled=none)(hit:IsSi s.heap I (rawInt slot) i S es.size ep)(hS:SeAt s.heap S es ep t)(hf:t.fits es.size=true)
 (hn:∀(A:Around) (E:qk) (Q':Option (qY×Nat)->qZ->Prop),Q' none s->wpAny (model prog w) A (setNext S slot i ep) Q' E s)
 (hQ:∀h',(∀b o,b≠I->s.heap.get? b=some o->h'.get? b=some o)->Q none { s with heap:=h' }):wpAny (model prog w) A (pyNext (.ref I)) Q E s:=by
 obtain⟨o,ho,hc,hd⟩:=id hit;obtain⟨oS,hoS,hdS⟩:=hS;unfold pyNext;refine k7 (qi (ki (name:=Str.ofString "__next__") hit.typeIs Qt (kj Qt hit.typeIs Ym ?_ (Yn _))));unfold Builtin.«set_iterator.__next__»;refine k7 (kX (a:=(Value.ref I,[])) rfl ?_)
 try dsimp only
 refine k7 (wpAny_fieldsOf ho hd ?_);show wpAny _ _ (setEntries S >>= _) _ _ s;refine k7 (kQ hoS hdS hf ?_);refine kh (λz=>absurd z 'j') (λ_=>?_);show wpAny _ _ (setNext S (slot:Int).toNat (i:Int).toNat (ep:Int).toNat >>= _) _ _ s;rw[ja,ja,ja];refine k7 (hn _ _ _ ?_);dsimp only;refine k7 (kL ho hd 'j' ?_);refine gO hh λh' k=>hQ h' λb o' hb e=>k b o' ((Heap.SameBut.update ..).extBut b o' hb e)
def gQ(hS:SeAt s.heap S es ep t)(hf:t.fits es.size=true)(hb:xW w=true)
 (h:Q (((pickOrder (w.params.setOrder S ep) es)[i]?).map λe=>(e.2,slot)) s):wpAny (model prog w) A (setNext S slot i ep) Q E s:=by
 obtain⟨oS,hoS,hdS⟩:=hS;unfold setNext;refine k7 (kK hoS hdS hf ?_);dsimp only;unfold setsByText;refine k7 (k7 (kO (k8 ?_)));show wpAny _ _ (if xW w=true then _ else _) _ _ _;rw[ke hb,k9 'j'];unfold setWalk;refine k7 (k7 (kK hoS hdS hf ?_));dsimp only;unfold setsByText;refine k7 (k7 (kO (k8 ?_)));show wpAny _ _ (if xW w=true then _ else _) _ _ _;rw[ke hb];refine k7 (kO (k8 ?_));exact k8 h
def bP(hS:SeAt s.heap S es ep t)(hf:t.fits es.size=true)(hb:xW w=false)(few:es.size<=1)(led:t.led=true)
 (h:Q (match es[SetTable.below t.place slot]?,t.place[SetTable.below t.place slot]? with|some (_,x),some j=>some (x,j+1)|_,_=>none) s):wpAny (model prog w) A (setNext S slot i ep) Q E s:=by
 obtain⟨oS,hoS,hdS⟩:=hS;unfold setNext;refine k7 (kK hoS hdS hf ?_);dsimp only;unfold setsByText;refine k7 (k7 (kO (k8 ?_)));show wpAny _ _ (if xW w=true then _ else _) _ _ _;rw[k9 (by rw[hb];decide)];refine kh (λz=>absurd z ?_) (λ_=>?_)
 . show ¬((!t.plain&&decide (es.size > 1))=true);rw[kg 'd',Bool.and_false];decide
 refine k7 ?_;wp_delta;refine kh (λz=>absurd z (by rw[led];simp)) (λ_=>?_);exact k8 (k8 h)
def tE(j:Nat):SetTable.below #[j] 0=0:=by
 unfold SetTable.below;show SetTable.below.go #[j] 0 1 0 1=0;unfold SetTable.below.go;rw[ke 'f'];show(if (#[j]:Array Nat).getD 0 0<0 then _ else _)=0;rw[k9 (kH _)];rfl
def tF(j:Nat):SetTable.below #[j] (j+1)=1:=by
 unfold SetTable.below;show SetTable.below.go #[j] (j+1) 1 0 1=1;unfold SetTable.below.go;rw[ke 'f'];show(if (#[j]:Array Nat).getD 0 (j+1)<j+1 then _ else _)=1;rw[ke (show(#[j]:Array Nat).getD 0 (j+1)<j+1 from Nat.lt_succ_self j)];rfl
def gR{a:Array Nat}(h:a.size=1):∃j,a=#[j]:=by
 obtain⟨l⟩:=a
 match l,h with
 | [j],_=>exact⟨j,rfl⟩
def Zn(prog:xf)(w:xh)(S I lo:xb)(vs:qA)(h1:Heap):Prop:=∃(P:xb) (St:Nat->Heap->Prop),(P=S\/lo<=P)/\(∀A:Around,A.handled=none->Walks prog w A I [I,S,P] [I] vs.length (λi v=>vs[i]?=some v) St)/\St 0 h1
def bQ(hit:IsSi s.heap I f i S n ep)(hQ:Q (.ref I) s):wpAny (model prog w) A (pyIter (.ref I)) Q E s:=by
 refine wpAny_pyIter_slot hit.typeIs gM (kj gM hit.typeIs t5 ?_ (sX _));show wpAny _ _ (ret (.ref I)) _ _ s;exact k8 ⟨_,rfl, "set_iterator",_,hit.typeIs,Qt.lookup,hQ⟩
def tG{I S lo:xb}(hne:S≠I){es:Array (Int×qY)}{ep:Nat}{t:SetTable}(hf:t.fits es.size=true)(hb:xW w=true){h1:Heap}(st:IsSi h1 I (rawInt 0) 0 S es.size ep)(hS:SeAt h1 S es ep t) :
 Zn prog w S I lo ((pickOrder (w.params.setOrder S ep) es).toList.map (·.2)) h1:=by
 have pz:(pickOrder (w.params.setOrder S ep) es).size=es.size:=by
  have:=(bN (w.params.setOrder S ep) es).length_eq;simpa using this
 refine⟨S,λi h=>i<=es.size/\IsSi h I (rawInt 0) i S es.size ep/\SeAt h S es ep t,.inl rfl,λA hh=>?_,jS _,st,hS⟩;refine { sub:=λb hb=>by simp at hb;simp[hb],frame:=λ_ _ _ x hk=>⟨x.1,x.2.1.at λo e=>hk I 'j' o e,x.2.2.at λo e=>hk S 'j' o e⟩,item:=λi s Q E hi x hQ=>?_,done:=λs Q E x hQ=>?_,self:=λi s Q E x hQ=>bQ x.2.1 hQ }
 . rw[jC,jW,pz]at hi;have hi':i < (pickOrder (w.params.setOrder S ep) es).size:=by omega
   refine gP (x:=(pickOrder (w.params.setOrder S ep) es)[i].2) (nx:=0) x.2.1 x.2.2 hf (λA' E' Q' hq=>gQ x.2.2 hf hb (by rw[jf hi'];exact hq)) λh' it' sb=>?_;refine hQ _ h' s.toks ?_ ⟨hi,it',x.2.2.at λo e=>(sb.2 S hne).trans e⟩ λb o hb e=>sb.extBut b o (λz=>hb (by simp[z])) e;rw[jJ,kG,jf hi'];rfl
 . rw[jC,jW,pz]at x;exact bO hh x.2.1 x.2.2 hf (λA' E' Q' hq=>gQ x.2.2 hf hb (by rw[jz 'd'];exact hq)) λh' k=>hQ h' s.toks λb o hb e=>k b o (λz=>hb (by simp[z])) e
def tH{I S lo:xb}(hne:S≠I){es:Array (Int×qY)}{ep:Nat}{t:SetTable}(hf:t.fits es.size=true)(hb:xW w=false)(few:es.size<=1)(led:t.led=true){h1:Heap}(st:IsSi h1 I (rawInt 0) 0 S es.size ep)(hS:SeAt h1 S es ep t) :
 Zn prog w S I lo (es.toList.map (·.2)) h1:=by
 have pz:t.place.size=es.size:=by
  unfold SetTable.fits at hf;rw[jj]at hf;simpa using hf.1
 refine⟨S,λi h=>i<=es.size/\IsSi h I (rawInt ((if i=0 then 0 else t.place.getD 0 0+1:Nat):Int)) i S es.size ep/\SeAt h S es ep t,.inl rfl,λA hh=>?_,jS _,st,hS⟩;refine { sub:=λb hb=>by simp at hb;simp[hb],frame:=λ_ _ _ x hk=>⟨x.1,x.2.1.at λo e=>hk I 'j' o e,x.2.2.at λo e=>hk S 'j' o e⟩,item:=λi s Q E hi x hQ=>?_,done:=λs Q E x hQ=>?_,self:=λi s Q E x hQ=>bQ x.2.1 hQ }
 . rw[jC,jW]at hi;have i0:i=0:=by omega
   subst i0
   obtain⟨j,ej⟩:∃j,t.place=#[j]:=by
    have:t.place.size=1:=by omega
    exact gR this
   obtain⟨x0,ex⟩:∃x0,es[0]?=some x0:=⟨es[0],jf 'd'⟩;refine gP (slot:=0) (x:=x0.2) (nx:=j+1) x.2.1 x.2.2 hf (λA' E' Q' hq=>bP x.2.2 hf hb few led (by rw[ej,tE,ex];exact hq)) λh' it' sb=>?_;refine hQ _ h' s.toks ?_ ⟨hi,by rw[ej];exact it',x.2.2.at λo e=>(sb.2 S hne).trans e⟩ λb o hb e=>sb.extBut b o (λz=>hb (by simp[z])) e;rw[jJ,kG,ex];rfl
 . rw[jC,jW]at x
   by_cases z:es.size=0
   . have e0:es[SetTable.below t.place 0]?=none:=jz 'd';have x2:=x.2.1;rw[ke z]at x2;exact bO (slot:=0) hh x2 x.2.2 hf (λA' E' Q' hq=>bP x.2.2 hf hb few led (by rw[e0];exact hq)) λh' k=>hQ h' s.toks λb o hb e=>k b o (λz=>hb (by simp[z])) e
   . obtain⟨j,ej⟩:∃j,t.place=#[j]:=by
      have:t.place.size=1:=by omega
      exact gR this
     have x2:=x.2.1;rw[k9 z,ej]at x2;have e0:es[(1:Nat)]?=none:=jz 'd';exact bO (slot:=j+1) hh x2 x.2.2 hf (λA' E' Q' hq=>bP x.2.2 hf hb few led (by rw[ej,tF,e0];exact hq)) λh' k=>hQ h' s.toks λb o hb e=>k b o (λz=>hb (by simp[z])) e
def tI{I S P lo:xb}(hne:S≠I)(hPI:P≠I)(hlo:lo<=P){es:Array (Int×qY)}{ep:Nat}{t:SetTable}(hf:t.fits es.size=true){h1:Heap}{ps:qC}(pp:ps.Perm (List.range es.size))(hP:h1.IsTuple P (ps.map λ(i:Nat)=>rawInt (i:Int)).toArray)(st:IsSi h1 I (.ref P) 0 S es.size ep)(hS:SeAt h1 S es ep t) :
 Zn prog w S I lo (ps.map λi=>(es.getD i (0,.none)).2) h1:=by
 have pl:ps.length=es.size:=by rw[pp.length_eq,kJ]
 refine⟨P,λi h=>i<=es.size/\IsSi h I (.ref P) i S es.size ep/\SeAt h S es ep t/\h.IsTuple P (ps.map λ(i:Nat)=>rawInt (i:Int)).toArray,.inr hlo,λA hh=>?_,jS _,st,hS,hP⟩;refine { sub:=λb hb=>by simp at hb;simp[hb],frame:=λ_ _ _ x hk=>⟨x.1,x.2.1.at λo e=>hk I 'j' o e,x.2.2.1.at λo e=>hk S 'j' o e,x.2.2.2.at λo e=>hk P 'j' o e⟩,item:=λi s Q E hi x hQ=>?_,done:=λs Q E x hQ=>?_,self:=λi s Q E x hQ=>bQ x.2.1 hQ }
 . rw[jC,pl]at hi;have hi':i < ps.length:=by omega
   have pin:ps[i]<es.size:=List.mem_range.mp (pp.mem_iff.mp (jp hi'));refine tw (p:=ps[i]) (tk:=0) (x:=es[ps[i]]) x.2.1 x.2.2.1 hf x.2.2.2 ?_ (jf pin) λh' it' sb=>?_
   . rw[List.getElem?_toArray,jJ,jD hi'];rfl
   . refine hQ _ h' s.toks ?_ ⟨hi,it',x.2.2.1.at λo e=>(sb.2 S hne).trans e,x.2.2.2.at λo e=>(sb.2 P hPI).trans e⟩ λb o hb e=>sb.extBut b o (λz=>hb (by simp[z])) e;rw[jJ,jD hi'];simp[Array.getD,pin]
 . rw[jC,pl]at x;exact tD hh x.2.1 x.2.2.1 hf x.2.2.2 (by rw[List.getElem?_toArray];exact List.getElem?_eq_none (by rw[jC];omega)) λh' k=>hQ h' s.toks λb o hb e=>k b o (λz=>hb (by simp[z])) e
theorem gS:∀{ks:qB}{es:List (Int×qY)},Paired (Qb w) ks es->StrsAre (es.map (·.2)) ks
 |_,_,.nil => .nil
 |_,_,.cons (b:=e) h t=>by
  obtain⟨_,tk,e2⟩:=h;rw[jg,e2];exact .cons _ _ (gS t)
def bR{ks:qB}{es:List (Int×qY)}(h:Paired (Qb w) ks es){es':List (Int×qY)}(p:es'.Perm es):∃ss,ss.Perm ks/\StrsAre (es'.map (·.2)) ss:=by
 obtain⟨ss,h1,h2⟩:=prm p h;exact⟨ss,h1,gS h2⟩
def tK(hS:SetS w (xW w) s.heap S ks)
 (h:∀(I:xb) (h1:Heap) (d:Drawn) (vs:qA) (ss:qB),(∀b o,s.heap.get? b=some o->h1.get? b=some o)->s.heap.objs.size<=I->Zn prog w S I s.heap.objs.size vs h1->ss.Perm ks->StrsAre vs ss->Q (.ref I) { s with heap:=h1,drawn:=d }) :
 wpAny (model prog w) A (pyIter (.ref S)) Q E s:=by
 obtain⟨o,es,ep,t,ho,hex,hd,pr,nd,hb,hf,led,pl⟩:=hS;have hT:s.TypeIs (.ref S) "set" := ⟨o,ho,hex.1⟩;have hl:es.size=ks.length:=by rw[<- jW];exact pr.length.symm
 have ltS:=jL ho;refine wpAny_pyIter_slot hT PySem.F.slot_set_iter (kj PySem.F.slot_set_iter hT t8 ?_ (PySem.F.args_set_iter_1 _));unfold Builtin.«frozenset.__iter__»;refine k7 (kX (a:=S) rfl ?_);refine k7 ?_;unfold Builtin.Frozenset.sizeOf;refine k7 (kQ ho hd hf (k8 ?_));refine k7 ?_;unfold setDrawn;refine k7 (kK ho hd hf ?_);dsimp only;unfold setsByText;refine k7 (k7 (kO (k8 (k8 ?_))))
 have last:∀(f:qY) (h0:Heap) (d:Drawn),(∀b o,s.heap.get? b=some o->h0.get? b=some o)->s.heap.objs.size<=h0.objs.size->(∃vs ss,Zn prog w S h0.objs.size s.heap.objs.size vs (h0.push { cls := .type "set_iterator",data := .fields #[f,rawInt 0,.ref S,rawInt es.size,rawInt ep] })/\ss.Perm ks/\StrsAre vs ss) ->
  wpAny (model prog w) A.in1 (setEpoch S >>= λe=>newFields "set_iterator" [f,rawInt 0,.ref S,rawInt es.size,rawInt e] >>= λv=>ret v) (λqJ s'=>∃v,qJ=Fin.done (Flow.ret v)/\∃T' r,s'.TypeIs v T'/\typeLookup (Value.type T') (Str.ofString "__next__")=pure (some r)/\Q v s') E { s with heap:=h0,drawn:=d }:=λf h0 d kp sz hw=>by
  obtain⟨vs,ss,h1,h2,h3⟩:=hw;refine k7 (wpAny_setEpoch_of (s:={ s with heap:=h0,drawn:=d }) (kp _ _ ho) hd hf ?_);refine k7 ?_;unfold newFields;refine kq (k8 ⟨_,rfl, "set_iterator",_,⟨_,jO _ rfl,rfl⟩,Qt.lookup,?_⟩);exact h _ _ d vs ss (λb o e=>jF _ (kp b o e)) sz h1 h2 h3
 refine kh (λhc=>?_) (λhc=>?_)
 . refine k7 (bM es.size (List.range es.size) s _ 'j' λps d pp=>?_);have pl:ps.length=es.size:=by rw[pp.length_eq,kJ]
   refine k7 (wpAny_newTuple ?_ (by rw[jC,pl];exact fits_of_scanBound hb));refine last _ _ d (λb o e=>jF _ e) (by simp[Heap.push]) ?_;have hI:((s.heap.push (seqObj "tuple" (ps.map λ(i:Nat)=>rawInt (i:Int)).toArray 0)).push { cls := .type "set_iterator",data := .fields #[.ref s.heap.objs.size,rawInt 0,.ref S,rawInt es.size,rawInt ep] }).IsTuple s.heap.objs.size (ps.map λ(i:Nat)=>rawInt (i:Int)).toArray:=⟨_,jF _ (jO _ rfl),rfl,0,rfl⟩
   have eq:(List.range es.size).map (λi=>es.getD i (0,.none))=es.toList:=by
    refine List.ext_getElem 'j' λi h1 h2=>?_;simp at h2;simp[Array.getD,h2]
   have p2:(ps.map λi=>es.getD i (0,.none)).Perm es.toList:=by
    have:=pp.map λi=>es.getD i (0,.none)
    rwa [eq]at this
   obtain⟨ss,h1,h2⟩:=bR pr p2;rw[List.map_map]at h2;refine⟨_,ss,tI (t:=t) ?_ ?_ (jG _) hf pp hI ⟨_,jO _ rfl,rfl,rfl⟩ ⟨o,jF _ (jF _ ho),hd⟩,h1,h2⟩
   . exact jZ (jX ltS (by simp[Heap.push]))
   . simp[Heap.push]
 . refine k7 (k8 ?_);refine last _ s.heap s.drawn (λb o e=>e) (jG _) ?_;have si0:IsSi (s.heap.push { cls := .type "set_iterator",data := .fields #[rawInt 0,rawInt 0,.ref S,rawInt es.size,rawInt ep] }) s.heap.objs.size (rawInt 0) 0 S es.size ep:=⟨_,jO _ rfl,rfl,rfl⟩;have se0:SeAt (s.heap.push { cls := .type "set_iterator",data := .fields #[rawInt 0,rawInt 0,.ref S,rawInt es.size,rawInt ep] }) S es ep t:=⟨o,jF _ ho,hd⟩
   cases hbt:xW w with
   |true =>
    obtain⟨ss,h1,h2⟩:=bR pr (bN (w.params.setOrder S ep) es);exact⟨_,ss,tG (jZ ltS) hf hbt si0 se0,h1,h2⟩
   |false =>
    obtain⟨ss,h1,h2⟩:=bR pr (.refl es.toList)
    have few:es.size<=1:=by
     by_cases z:es.size<=1
     . exact z
     . exfalso;apply hc;show(!xW w && (!t.plain && decide (es.size > 1)))=true
       have:t.plain=false:=by
        rcases pl with z'|z'
        . rw[z',List.length_nil]at hl;omega
        . exact z'
       rw[hbt,this,kf 'd'];rfl
    exact⟨_,ss,tH (jZ ltS) hf hbt few (by rw[led,hbt];rfl) si0 se0,h1,h2⟩
end
section
variable {prog:xf}{w:xh}{A:Around}{E:qk}{s:qZ}
def tL(hT:s.TypeIs (.ref r) "set")(h:Q false s):wpAny (model prog w) A (Builtin.List.listLengthHint (.ref r)) Q E s:=by
 unfold Builtin.List.listLengthHint;refine k7 (wpAny_specialOf hT PySem.F.slot_set_len.lookup ?_);generalize hid:("set.__len__" : String)=id0;wp_delta;rw[show splitId id0=some ("set", "__len__") from by subst hid;decide +kernel];subst hid;refine k7 (kU (T := "set") (b:=true) hT (by rw[isSubtype_type];kernel_rfl) ?_);refine kh (λhab=>absurd hab 'f') (λ_=>?_);refine kh (λ_=>?_) (λhab=>absurd (by decide +kernel) hab);refine k7 (wpAny_typeOf hT ?_);exact k8 h
def tM(hh:A.handled=none)(hS:SetS w (xW w) s.heap S ks)(hL:s.heap.get? L=some { cls := .type "list",data := .seq #[] c0 })(hSL:L≠S)(few:ks.length<=sizeLine)
 (hR:∀(h':Heap) (tk:Nat) (d:Drawn) (acc:qz) (c:Nat) (ss:qB),(∀b o,b≠L->s.heap.get? b=some o->h'.get? b=some o)->h'.get? L=some { cls := .type "list",dict:=none,data := .seq acc c,slots:=#[] }->ss.Perm ks->StrsAre acc.toList ss->R (.ok (.ret res)) { s with heap:=h',toks:=tk,drawn:=d }) :
 wpAny (model prog w) A.in1 (Builtin.List.listExtendWith (.ref L) (.ref S) res)
  (λqJ s'=>match qJ with | .done f=>R (.ok f) s' | .again c'=>c'.quiet=true/\codeAny (model prog w) A c' R s') (λe s'=>R (.error e) s') s:=by
 have hT:s.TypeIs (.ref S) "set" := by
  obtain⟨o,es,ep,t,ho,hex,_⟩:=hS;exact⟨o,ho,hex.1⟩
 have ltL:=jL hL;unfold Builtin.List.listExtendWith;refine k7 (wpAny_typeOf (T := "set") hT ?_);have h1:Builtin.List.listSameRef (.ref L) (.ref S)=false:=by simp[Builtin.List.listSameRef,hSL]
 have h2:(Value.type "set" == Value.type "list")=false:=by decide
 have h3:(Value.type "set" == Value.type "tuple")=false:=by decide
 simp only[h1,h2,h3,Bool.or_false,Bool.false_eq_true,if_false];refine k7 (tK hS λI g1 d vs ss kp lo sw pp sa=>?_);obtain⟨P,St,hP,W,st0⟩:=sw;have W:=W A.in1 hh;have vl:vs.length=ks.length:=by rw[<- pp.length_eq];exact StrsAre.length sa
 have hLf:L∉[I,S,P]:=by
  intro z;simp only[jB,jb,kP]at z;rcases z with z|z|z
  . exact absurd ltL (by rw[z];exact Nat.not_lt.mpr lo)
  . exact hSL z
  . rcases hP with y | y
    . exact hSL (z.trans y)
    . exact absurd ltL (by rw[z];exact Nat.not_lt.mpr y)
 have hL1:=kp _ _ hL
 have hT1:Shared.TypeIs { s with heap:=g1,drawn:=d } (.ref S) "set" := by
  obtain⟨o,ho,hc⟩:=hT;exact⟨o,kp _ _ ho,hc⟩
 have key:∀(g:Heap) (c1 tk:Nat),St 0 g->(∀b o,b≠L->g1.get? b=some o->g.get? b=some o)->g.get? L=some { cls := .type "list",data := .seq #[] c1 } ->
  codeAny (model prog w) A (.builtin "list.extend.loop" ⟨[.ref L,.ref I,res],[]⟩) R { s with heap:=g,toks:=tk,drawn:=d }:=by
  intro g c1 tk hst hk hLg;refine codeAny_extend_loopS W.toS 'd' L hLf res vs.length 0 _ #[] c1 rfl (jS _) hst hLg (ItemsOf.nil _) λs' acc c mv hL' hacc=>?_;rw[Moved.eq_with mv]
  have ea:acc.toList=vs:=by
   refine List.ext_getElem? λi=>?_;rw[kG]
   by_cases hi:i<vs.length
   . have hz:i < acc.size:=by rw[hacc.1];exact hi
     rw[jf hz];exact(hacc.2 i _ (jf hz)).symm
   . rw[jz (by rw[hacc.1];omega),List.getElem?_eq_none 'd']
  refine hR s'.heap s'.toks d acc c ss (λb o hb e=>mv.heap b o (λhm=>?_) (hk b o hb (kp b o e))) hL' pp (by rw[ea];exact sa);rcases jB.mp hm with z|z
  . exact hb z
  . rw[jA]at z;exact absurd (jL e) (by rw[z];exact Nat.not_lt.mpr lo)
 refine k7 (kM (tL hT1 ?_));refine kh (λ_=>?_) (λ_=>k8 ⟨plainId_quiet PySem.F.plain_extend_loop _,key _ c0 s.toks st0 (λb o _ e=>e) hL1⟩);refine k7 (qj ?_);refine k7 ?_;show wpAny _ _ (updateSeq L (·.push .none) >>= λ_=>updateSeq L (·.pop)) _ _ _;refine k7 (wpAny_updateSeq hL1 rfl ?_);have hL2:=jh (Obj.mapSeq (·.push Value.none)) hL1 rfl;refine wpAny_updateSeq (hz:=by seq_fits) hL2 rfl ?_;have hL3:=jh (Obj.mapSeq (·.pop)) hL2 rfl;refine k8 ⟨plainId_quiet PySem.F.plain_extend_loop _,key _ _ s.toks ?_ (λb o hb e=>?_) hL3⟩
 . refine W.frame 0 _ _ st0 λb hb o e=>?_;have hbL:b≠L:=λz=>hLf (z ▸ hb);exact(jm _ _ (Ne.symm hbL)).trans ((jm _ _ (Ne.symm hbL)).trans e)
 . exact(jm _ _ (Ne.symm hb)).trans ((jm _ _ (Ne.symm hb)).trans e)
def tN(hh:A.handled=none)(hS:SetS w (xW w) s.heap S ks)(few:ks.length<=sizeLine)
 (k:∀(g:Heap) (tk:Nat) (d:Drawn) (vs:qA) (ss:qB),(∀b o,s.heap.get? b=some o->g.get? b=some o)->s.heap.objs.size<g.objs.size->ss.Perm ks->StrsAre vs ss->R vs { s with heap:=g,toks:=tk,drawn:=d }):wpAny (model prog w) A (collect (.ref S)) R E s:=by
 have ltS:S<s.heap.objs.size:=by
  obtain⟨o,es,ep,t,ho,_⟩:=hS;exact jL ho
 unfold collect;refine k7 (wpAny_runValue (qh entry_proto_collect' ?_));rw[Around.under_plainId PySem.F.plain_proto_collect _];show wpAny _ A.in1 (newList [] >>= λl=>again (.builtin "list.__iadd__" ⟨[l,.ref S],[]⟩)) _ _ s;refine k7 (kq (k8 ⟨plainId_quiet PySem.F.plain_list_iadd _,qh entry_list_iadd' ?_⟩));rw[Around.under_plainId PySem.F.plain_list_iadd _];obtain⟨g0,eg0⟩:∃g0,g0=s.heap.push { cls := .type "list",data := .seq ([]:qA).toArray }:=⟨_,rfl⟩;have at0:g0.get? s.heap.objs.size=some { cls := .type "list",data := .seq #[] 0 }:=by rw[eg0];exact jO _ rfl
 have kp0:∀b o,s.heap.get? b=some o->g0.get? b=some o:=λb o e=>by rw[eg0];exact jF _ e
 show wpAny _ A.in1 (Builtin.List.listExtendWith (.ref s.heap.objs.size) (.ref S) (.ref s.heap.objs.size)) _ _ _;rw[<- eg0]
 have step:=tM (prog:=prog) (w:=w) (A:=A) (s:={ s with heap:=g0 }) (res := .ref s.heap.objs.size) (R:=λ(q:Result) (s':qZ)=>∃(g:Heap) (tk:Nat) (d:Drawn) (acc:qz) (c:Nat) (ss:qB),q=.ok (.ret (.ref s.heap.objs.size))/\s'={ s with heap:=g,toks:=tk,drawn:=d }/\(∀b o,s.heap.get? b=some o->g.get? b=some o)/\g.get? s.heap.objs.size=some { cls := .type "list",dict:=none,data := .seq acc c,slots:=#[] }/\ss.Perm ks/\StrsAre acc.toList ss)
  hh (hS.at λo e=>kp0 _ o e) at0 (kI ltS) few (λg tk d acc c ss k1 k2 k3 k4=>⟨g,tk,d,acc,c,ss,rfl,rfl,λb o e=>k1 b o (jZ (jL e)) (kp0 b o e),k2,k3,k4⟩)
 have last:∀(g:Heap) (tk:Nat) (d:Drawn) (acc:qz) (c:Nat) (ss:qB),(∀b o,s.heap.get? b=some o->g.get? b=some o)->g.get? s.heap.objs.size=some { cls := .type "list",dict:=none,data := .seq acc c,slots:=#[] }->ss.Perm ks->StrsAre acc.toList ss ->
  wpAny (model prog w) A (load s.heap.objs.size >>= λo=>match o.data with | .seq xs _=>pure xs.toList|_=>unsupported "internal:collect") R E { s with heap:=g,toks:=tk,drawn:=d }:=λg tk d acc c ss k1 k2 k3 k4=>k7 (wpAny_load k2 (k8 (k g tk d acc.toList ss k1 (jL k2) k3 k4)))
 refine kx step (λqJ s2 x=>?_) λe s2 x=>?_
 . cases qJ with
   |done f =>
    obtain⟨g,tk,d,acc,c,ss,e,rfl,y⟩:=x
    cases e
    exact last g tk d acc c ss y.1 y.2.1 y.2.2.1 y.2.2.2
   |again c1 =>
    refine⟨x.1,codeAny_mono x.2 λq s3 z=>?_⟩;obtain⟨g,tk,d,acc,c,ss,rfl,rfl,y⟩:=z;exact last g tk d acc c ss y.1 y.2.1 y.2.2.1 y.2.2.2
 . obtain⟨_,_,_,_,_,_,z,_⟩:=x
   cases z
end
section
variable {X:Cx}{qE:qr}{σ:St}{H:Hp}{s:qZ}
def tO(hc:X.calm=true)(I:Inv X qE σ H s)(hS:SetS X.w (xW X.w) s.heap S ks)(few:ks.length<64)
 (q:∀(l:xb) (ss:qB),H l=none->ss.Perm ks->ss.Pairwise ltS->Q (.ref l) (upd H l (.lst (ss.map V.str)))) :
 wpAny (model X.prog X.w) X.A (call (.builtin "sorted") [.ref S]) (EP X qE σ Q) X.xe s :=
 sT I (by obtain⟨_,_,_,_,_,_,_,_,n,_⟩:=hS;exact n) few (λE' R hR=>tN (A:=X.A.in1) (I.ok.hd hc) hS (by rw[kR];omega) λg tk d vs ss k1 k2 k3 k4=>hR g tk d vs ss k1 (Nat.le_of_lt k2) k3 k4) q
end
end L2
namespace L2
open PySem PySem.Spec PyProof.Rows
section
variable {X:Cx}
def XO:OpR X (binaryOp .Add) (λx y H Q=>∃(l b:xb) (xs zs:List V),x=.ref l/\y=.ref b/\Rd H l (.lst xs)/\Rd H b (.lst zs)/\xs.length+zs.length<=sizeLine/\∀p,H p=none->Q (.ref p) (upd H p (.lst (xs++zs)))):=by
 intro qE s σ H x y v u Q I rx ry h;obtain⟨l,b,xs,zs,rfl,rfl,hH,hB,hz,q⟩:=h
 cases rx
 cases ry
 obtain⟨z,its,n,r,e⟩:=hH.ok I.hok;obtain⟨z2,its2,n2,r2,e2⟩:=hB.ok I.hok;have hl:=r.length;have hl2:=r2.length;refine PySem.P.add_list e e2 ?_ (by rw[jK,jK];omega);have ea:its.toArray++its2.toArray=(its++its2).toArray:=by simp
 rw[ea];exact⟨.ref _,_,I.lnew (t':=s.toks) (r.append r2) (by rw[jY];omega),rfl,q _ I.fresh⟩
end
end L2
namespace L2
open PySem PySem.W PySem.Spec PyProof.Rows
section
variable {prog:xf}{w:xh}{A:Around}{E:qk}{s:qZ}
def tP(hS:SetS w byT s.heap a ks)(h:∀r:Option Nat,r.isSome=decide (x∈ks)->Q r s):wpAny (model prog w) A (setFind a (.str x tk) (hashStr w x)) Q E s:=by
 obtain⟨o,es,ep,t,ho,hex,hd,pr,nd,hb,hf,led,pl⟩:=hS;unfold setFind setFindIn;refine k7 (kK ho hd hf ?_);dsimp only;rw[byScan_of (knd:=strKind prog w) (x := .str x tk) rfl hb (bK pr)];simp only[↓reduceIte];refine k7 (qj ?_);refine k7 (wpAny_setScan_of (knd:=strKind prog w) (k:=x) (strKind_is _ _ _ _) ho hd hf (bK pr) ?_);rcases gI (prog:=prog) pr x with ⟨e1,nin⟩|⟨⟨j,e1⟩,inn⟩
 . rw[e1];dsimp only;exact k8 (h none (by rw[kg nin];rfl))
 . rw[e1];dsimp only;exact k8 (h (some (0+j)) (by rw[kf inn];rfl))
def tQ(hS:SetS w (xW w) s.heap S ks)
 (h:∀(d:Drawn) (es:Array (Int×qY)) (ks':qB),ks'.Perm ks->Paired (Qb w) ks' es.toList->Q es { s with drawn:=d }):wpAny (model prog w) A (setWalk S) Q E s:=by
 obtain⟨o,es,ep,t,ho,hex,hd,pr,nd,hb,hf,led,pl⟩:=hS;have hl:es.size=ks.length:=by rw[<- jW];exact pr.length.symm
 have e0:s={ s with drawn:=s.drawn }:=by cases s;rfl
 unfold setWalk;refine k7 (kK ho hd hf ?_);dsimp only;unfold setsByText;refine k7 (k7 (kO (k8 ?_)));show wpAny _ _ (if xW w=true then _ else _) _ _ _
 cases hbt:xW w with
 |true =>
  rw[ke rfl];refine k7 (kO (k8 ?_));obtain⟨ks',h1,h2⟩:=prm (bN (w.params.setOrder S ep) es) pr;rw[e0];exact h s.drawn _ ks' h1 h2
 |false =>
  rw[k9 jQ];refine kh (λz=>?_) (λz=>?_)
  . refine k7 (bM es.size es.toList s _ (jW ..) λys d pp=>k8 ?_);obtain⟨ks',h1,h2⟩:=prm pp pr;exact h d _ ks' h1 h2
  . refine k7 ?_;wp_delta;refine kh (λz=>absurd z (by rw[led,hbt];simp)) (λ_=>?_);refine k8 (k8 ?_);rw[e0];exact h s.drawn es ks (.refl _) pr
def tR(h:Paired (Qb w) ks es):∀e∈es,∃k∈ks,∃tk,e=(hashStr w k,.str k tk):=by
 induction h with
 |nil=>intro e he;cases he
 |cons h1 _ ih =>
  intro e he;rcases jB.mp he with rfl|he
  . obtain⟨e1,tk,e2⟩:=h1;exact⟨_,jH ..,tk,Prod.ext e1 e2⟩
  . obtain⟨k,hk,tk,e⟩:=ih e he;exact⟨k,jE _ hk,tk,e⟩
def tU(h:∀a∈as,∃ks,SetS w byT s.heap a ks)(q:Q true s):wpAny (model prog w) A (setsQuiet as) Q E s:=by
 unfold setsQuiet;refine k7 (wpAny_forIn_list _ (λl b s'=>s'=s/\b=⟨none,()⟩/\∀a∈l,∃ks,SetS w byT s.heap a ks) _ (λa qO b s' hI=>?_) (λb s' hI=>?_) as _ ⟨rfl,rfl,h⟩)
 . obtain⟨rfl,rfl,h⟩:=hI;obtain⟨ks,o,es,ep,t,ho,hex,hd,pr,nd,hb,hf,led,pl⟩:=h a (jH ..);refine k7 (kQ ho hd hf ?_);refine k7 (wpAny_forIn_array' _ (λl b s''=>s''=s'/\b=(none,())/\∀e∈l,∃k∈ks,∃tk,e=(hashStr w k,.str k tk)) _ (λe rest2 b s'' hI=>?_) (λb s'' hI=>?_) es _ ⟨rfl,rfl,tR pr⟩)
   . obtain⟨rfl,rfl,h2⟩:=hI;obtain⟨k,_,tk,rfl⟩:=h2 e (jH ..);exact k8 ⟨rfl,rfl,λe' he=>h2 e' (jE _ he)⟩
   . obtain⟨rfl,rfl,h2⟩:=hI;exact k8 ⟨rfl,rfl,λa ha=>h a (jE _ ha)⟩
 . obtain⟨rfl,rfl,h⟩:=hI;exact k8 q
theorem tV(hS:SetS w (xW w) s.heap S ks)(hT:SetS w (xW w) s.heap T kt)(hr:SetS w (xW w) s.heap r [])(nSr:S≠r)
 (h:∀(h':Heap) (d:Drawn) (es:Array (Int×qY)) (ks':qB),Heap.SameBut r s.heap h'->SetS w (xW w) h' r []->ks'.Perm ks->Paired (Qb w) ks' es.toList->Q es { s with heap:=h',drawn:=d }) :
 wpAny (model prog w) A (setWalkUnseen S [T,r] (some r)) Q E s:=by
 obtain⟨o,es,ep,t,ho,hex,hd,pr,nd,hb,hf,led,pl⟩:=id hS;unfold setWalkUnseen;refine k7 (kK ho hd hf ?_);dsimp only;unfold setsByText;refine k7 (k7 (kO (k8 ?_)));refine kh (λz=>?_) (λz=>?_)
 . exact tQ hS λd es ks' h1 h2=>h s.heap d es ks' (Heap.SameBut.refl r s.heap) hr h1 h2
 refine k7 (tU (byT:=xW w) (λa ha=>?_) ?_)
 . rcases jB.mp ha with rfl | ha
   . exact⟨_,hS⟩
   . rcases jB.mp ha with rfl | ha
     . exact⟨_,hT⟩
     . rw[jA.mp ha];exact⟨_,hr⟩
 refine kh (λz=>absurd z 'f') (λ_=>?_);refine k7 (qj ?_);obtain⟨o2,es2,ep2,t2,ho2,hex2,hd2,pr2,nd2,hb2,hf2,led2,pl2⟩:=id hr;refine k7 (kK ho2 hd2 hf2 ?_);dsimp only;refine kh (λz=>?_) (λz=>?_)
 . refine k7 (wpAny_storeSet_of ho2 hd2 (k8 ?_) (fits_of_scanBound hb2));refine h _ s.drawn es ks (Heap.SameBut.update ..) ⟨_,es2,_,_,Yl ho2 hd2 es2 _,hex2,rfl,pr2,nd2,hb2,?_,?_,.inl rfl⟩ (.refl _) pr
   . exact hf2
   . show(t2.led&&t.led) = !xW w;rw[led2,led,Bool.and_self]
 . exact k8 (h s.heap s.drawn es ks (Heap.SameBut.refl r s.heap) hr (.refl _) pr)
def bS(ho:s.heap.get? a=some o)(hc:o.cls=.type "set")(h:Q true s):wpAny (model prog w) A (Builtin.Frozenset.isAnySet (.ref a)) Q E s:=by
 have tS:s.TypeIs (.ref a) "set" := ⟨o,ho,hc⟩;unfold Builtin.Frozenset.isAnySet;refine k7 (kU tS sub_set_self ?_);exact k8 h
theorem gT{kw ka:qB}{id:String}{Q:Unit->qZ->Prop}(hW:SetS w (xW w) s.heap Wk kw)(hA:SetS w (xW w) s.heap As ka)(hr:SetS w (xW w) s.heap r [])(n1:Wk≠r)(n2:As≠r)
 (h:∀(h':Heap) (d:Drawn) (kr:qB),Heap.SameBut r s.heap h'->SetS w (xW w) h' r kr->(∀k,k∈kr↔k∈kw/\k∈ka)->Q () { s with heap:=h',drawn:=d }) :
 wpAny (model prog w) A (do
  let was <- setEpoch Wk
  let es <- setWalkUnseen Wk [As,r] (some r)
  forIn es PUnit.unit λx __s=>match x with
   |(h,x)=>do
    holding [x] (do
     let f <- setFind As x h
     if f.isSome=true then do
      let _ <- setAddHashed r x h
      pure ()
     else pure ())
    Builtin.Frozenset.unchanged id Wk was
    pure (ForInStep.yield PUnit.unit)
  pure ()) Q E s:=by
 obtain⟨o,es,ep,t,ho,hex,hd,pr,nd,hb,hf,led,pl⟩:=_root_.id hW;have hl:es.size=kw.length:=by rw[<- jW];exact pr.length.symm
 refine k7 (wpAny_setEpoch_of ho hd hf ?_);refine k7 (tV hW hA hr n1 λh1 d es' kw' sb1 hr1 pp pr'=>?_);have lw:=pp.length_eq;refine k7 (wpAny_forIn_array' _ (λl b s'=>∃(h2:Heap) (kr kl:qB),s'={ s with heap:=h2,drawn:=d }/\Heap.SameBut r s.heap h2/\SetS w (xW w) h2 r kr/\Paired (Qb w) kl l/\kr.length+kl.length<=kw'.length/\∀k,(k∈kr\/(k∈kl/\k∈ka))↔k∈kw'/\k∈ka) _ ?_ ?_ es' _ ⟨h1,[],kw',rfl,sb1,hr1,pr',(by rw[List.length_nil];omega),λk=>⟨λz=>z.resolve_left (λz=>nomatch z),λz => .inr z⟩⟩)
 . rintro x qO b s' ⟨h2,kr,kl,rfl,sb,hr2,prl,len,mem⟩
   cases prl with
   |cons h0 tl =>
    rename_i k kl;obtain⟨e1,tk,e2⟩:=h0;obtain⟨x1,x2⟩:=x;dsimp only at e1 e2;subst e1 e2;rw[jU]at len;have hA2:SetS w (xW w) h2 As ka:=hA.at λo e=>by rw[sb.2 As n2];exact e
    have qJ:∀(h3:Heap) (kr':qB) (Rr:ForInStep PUnit->qZ->Prop),(∀s'_1,(∃(h2:Heap) (kr kl:qB),s'_1={ s with heap:=h2,drawn:=d }/\Heap.SameBut r s.heap h2/\SetS w (xW w) h2 r kr/\Paired (Qb w) kl qO/\kr.length+kl.length<=kw'.length/\∀k,(k∈kr\/(k∈kl/\k∈ka))↔k∈kw'/\k∈ka)->Rr (ForInStep.yield PUnit.unit) s'_1)->Heap.SameBut r s.heap h3->SetS w (xW w) h3 r kr'->kr'.length<=kr.length+1->(∀y,y∈kr'↔y∈kr\/(y=k/\k∈ka))->wpAny (model prog w) A (do
     Builtin.Frozenset.unchanged id Wk ep
     pure (ForInStep.yield PUnit.unit)) Rr E { s with heap:=h3,drawn:=d }:=λh3 kr' Rr hRr sb3 hr3 l3 m3=>by
     refine k7 ?_;unfold Builtin.Frozenset.unchanged;refine k7 (wpAny_setEpoch_of (s:={ s with heap:=h3,drawn:=d }) (by rw[sb3.2 Wk n1];exact ho) hd hf ?_);refine kh (λz=>absurd z 'j') (λ_=>k8 (k8 ?_));refine hRr _ ⟨h3,kr',kl,rfl,sb3,hr3,tl,by omega,λy=>?_⟩;rw[<- mem y,m3 y,jB];constructor
     . rintro ((z | ⟨z1,z2⟩) | ⟨z1,z2⟩)
       . exact .inl z
       . exact .inr ⟨.inl z1,z1 ▸ z2⟩
       . exact .inr ⟨.inr z1,z2⟩
     . rintro (z | ⟨z1 | z1,z2⟩)
       . exact .inl (.inl z)
       . exact .inl (.inr ⟨z1,z1 ▸ z2⟩)
       . exact .inr ⟨z1,z2⟩
    refine k7 (kM ?_);refine k7 (tP (s:={ s with heap:=h2,drawn:=d }) hA2 λf hf'=>?_);refine kh (λz=>?_) (λz=>?_)
    . have hk:k∈ka:=by rw[hf']at z;exact kS z
      refine k7 (gK (s:={ s with heap:=h2,drawn:=d }) hr2 'd' λh3 kr' b sb3 hr3 m3 l3=>k8 ?_);exact qJ h3 kr' _ (λ_ z=>z) (sb.trans sb3) hr3 l3 λy=>by rw[m3 y];exact⟨λz=>z.elim .inl λz => .inr ⟨z,hk⟩,λz=>z.elim .inl λz => .inr z.1⟩
    . have hk:k∉ka:=λhk=>z (by rw[hf'];exact kf hk);exact k8 (qJ h2 kr _ (λ_ z=>z) sb hr2 (j7 _) λy=>⟨.inl,λz=>z.elim (λz=>z) λz=>absurd z.2 hk⟩)
 . rintro b s' ⟨h2,kr,kl,rfl,sb,hr2,prl,len,mem⟩
   cases prl
   refine k8 (h h2 d kr sb hr2 λk=>?_);have:=mem k;rw[pp.mem_iff]at this;rw[<- this];exact⟨.inl,λz=>z.elim (λz=>z) λz=>nomatch z.1⟩
theorem tW(hS:SetS w (xW w) s.heap S ks)(hT:SetS w (xW w) s.heap T kt)(ne:S≠T)
 (h:∀(h':Heap) (d:Drawn) (kr:qB),(∀b o,s.heap.get? b=some o->h'.get? b=some o)->SetS w (xW w) h' s.heap.objs.size kr->(∀k,k∈kr↔k∈ks/\k∈kt)->Q (.ref s.heap.objs.size) { s with heap:=h',drawn:=d }) :
 wpAny (model prog w) A (binaryOp .BitAnd (.ref S) (.ref T)) Q E s:=by
 obtain⟨o,es,ep,t,ho,hex,hd,pr,nd,hb,hf,led,pl⟩:=id hS;obtain⟨o2,es2,ep2,t2,ho2,hex2,hd2,pr2,nd2,hb2,hf2,led2,pl2⟩:=id hT;have tS:s.TypeIs (.ref S) "set" := ⟨o,ho,hex.1⟩;have tT:s.TypeIs (.ref T) "set" := ⟨o2,ho2,hex2.1⟩;have en:entryFor table "set.__and__" = some Builtin.«frozenset.__and__»:=entryFor_alias (id' := "frozenset.__and__") (by kernel_rfl) (by first|rfl|decide +kernel|(unfold String.splitOn;simp +decide [String.splitOnAux])) (by decide +kernel) (by kernel_rfl);refine wpAny_binaryOp_same tS tT PySem.F.fills_set_and PySem.F.slot_set_and (kj PySem.F.slot_set_and tS en ?_ (PySem.F.args_set_and_2 _ _));unfold Builtin.«frozenset.__and__»;wp_delta;refine k7 (kX (a:=(.ref S,.ref T)) rfl ?_);dsimp only;refine k7 ?_;refine k7 (bS ho hex.1 ?_);refine bS ho2 hex2.1 ?_;refine kh (λz=>absurd z 'f') (λ_=>?_);refine k7 (kX (a:=S) rfl ?_);refine k7 ?_;show wpAny _ _ (Builtin.Frozenset.intersection _ S (.ref T)) _ _ _;unfold Builtin.Frozenset.intersection;refine kh (λz=>absurd (by simpa using z) (Ne.symm ne)) (λ_=>?_);refine k7 ?_;unfold Builtin.Frozenset.baseOf;refine k7 (kU tS sub_set_self (k8 ?_));rw[ke rfl];unfold newSet setsByText;refine k7 (k7 (k7 (kO (k8 ?_))));dsimp only;simp only[newObj];refine k7 (wpAny_alloc (k8 ?_));have hr:SetS w (xW w) (s.heap.push (Jo w)) s.heap.objs.size []:=⟨Jo w,#[],0,_,jO _ rfl,⟨rfl,rfl,rfl⟩,rfl,.nil,j4,by decide,rfl,rfl,.inl rfl⟩;have kp:∀b o,s.heap.get? b=some o->(s.heap.push (Jo w)).get? b=some o:=λb o e=>jF _ e;have hS':=hS.at (h':=s.heap.push (Jo w)) λo e=>kp _ o e;have hT':=hT.at (h':=s.heap.push (Jo w)) λo e=>kp _ o e;show wpAny _ _ _ _ _ { s with heap:=s.heap.push (Jo w) };refine k7 (kX (a:=s.heap.objs.size) rfl ?_);refine k7 (kM ?_);refine k7 (bS (s:={ s with heap:=s.heap.push (Jo w) }) (kp _ _ ho2) hex2.1 ?_);refine kh (λ_=>?_) (λz=>absurd rfl z);refine k7 (kX (a:=T) rfl ?_);unfold Builtin.Frozenset.sizeOf;refine k7 (k7 (kQ (s:={ s with heap:=s.heap.push (Jo w) }) (kp _ _ ho2) hd2 hf2 (k8 ?_)));refine k7 (k7 (kQ (s:={ s with heap:=s.heap.push (Jo w) }) (kp _ _ ho) hd hf (k8 ?_)));have nS:S≠s.heap.objs.size:=jZ (jL ho);have nT:T≠s.heap.objs.size:=jZ (jL ho2);have last:∀(h':Heap) (d:Drawn) (kr:qB),Heap.SameBut s.heap.objs.size (s.heap.push (Jo w)) h'->SetS w (xW w) h' s.heap.objs.size kr->(∀k,k∈kr↔k∈ks/\k∈kt)->Q (.ref s.heap.objs.size) { s with heap:=h',drawn:=d }:=λh' d kr sb hk m=>h h' d kr (λb o e=>by rw[sb.2 b (jZ (jL e))];exact kp b o e) hk m
 by_cases c:es2.size > es.size
 . rw[ke c];refine gT (s:={ s with heap:=s.heap.push (Jo w) }) hS' hT' hr nS nT λh' d kr sb hk m=>?_;exact k8 (k8 ⟨_,rfl,(λz=>nomatch z),last h' d kr sb hk m⟩)
 . rw[k9 c];refine gT (s:={ s with heap:=s.heap.push (Jo w) }) hT' hS' hr nT nS λh' d kr sb hk m=>?_;exact k8 (k8 ⟨_,rfl,(λz=>nomatch z),last h' d kr sb hk λk=>(m k).trans And.comm⟩)
end
def tX:typeLookup (.type "list") "keys" = pure none:=am_miss_of_fast (by kernel_rfl)
def tY
 (hx:s.heap.get? a=some o) (hc:o.cls=.type "list") (hdat:o.data=.seq xs k) (hd:o.dict=none) (hA:A.handled=none)
 (h:∀h' tk,(∀b o,s.heap.get? b=some o->h'.get? b=some o)->Q none { s with heap:=h',toks:=tk }) :
 wpAny (model prog w) A (getAttr? (.ref a) "keys") Q E s:=by
 obtain⟨c,dct,dat,sl⟩:=o;simp only at hc hdat hd;subst hc hdat hd;obtain⟨hp,g,d,tk,os⟩:=s;have hT:∀tk',(⟨hp,g,d,tk',os⟩:qZ).TypeIs (.ref a) "list" := λ_=>⟨_,hx,rfl⟩;have f1:=sub_AttributeError;have f3:=F.slot_list_getattribute.lookup;have f4:=F.slot_list_getattribute.bind (.ref a);have f5:=am_list_getattr_none;unfold getAttr? getAttrBy? getAttrBy
 repeat (any_goals (first|assumption|exact hT _|((with_reducible show wpAny _ _ (call (Value.builtin "list.__getattribute__") _ _) _ _ _);refine call_meets F.slot_list_getattribute (hT _) am_entry_list_getattribute (F.args_list_getattribute_2 _ _) (meets_getattribute_miss_list a xs k sl "keys" _ tX 'f' (by rw[kR];decide)) ⟨hx,hA,λh' tk' e hx'=>?_⟩)|wp_step))
 obtain⟨t',u',he⟩:=hx'.there;show wpAny _ _ (getattributeRaised _ _ _ _ _ _ _) _ _ _;unfold getattributeRaised
 repeat (any_goals (first|assumption|wp_step))
 exact h _ _ hx'.keeps
def gU:entryFor table "dict.update.loop" = some Builtin.«dict.update.loop»:=entryFor_of_fast (by kernel_rfl)
def Yo:plainId "dict.update.loop" = true:=by decide +kernel
def gV(knd:Key->qY->Bool)(h:Heap)(x:qY)(kv:Key×qY):Prop:=∃b o ky m,x=.ref b/\h.get? b=some o/\o.cls=.type "tuple" /\ o.data=.seq #[ky,kv.2] m/\knd kv.1 ky=true
section
variable {X:Cx}{qE:qr}{σ:St}{H:Hp}{s:qZ}
def QX(H:Hp)(y:V)(kv:Key×V):Prop:=∃c,y=.ref c/\H c=some (.tup [kV kv.1,kv.2])
theorem gW(I:Inv X qE σ H s):∀{ys:List V}{its:qA}{more:List (Key×V)},Vals ys its->Paired (QX H) ys more ->
 ∃more',KV more more'/\∀(j:Nat) (x:qY) (kv':Key×qY),its[j]?=some x->more'[j]?=some kv'->gV (Jf X.prog X.w).is s.heap x kv'
 |_,_,_,.nil,.nil=>⟨[],.nil,λj x kv' e1 e2=>by simp at e1⟩
 |_::_,_::_,kv::_,.cons r rs,.cons p ps=>by
  obtain⟨more',h1,h2⟩:=gW I rs ps;obtain⟨c,rfl,hc⟩:=p
  cases r
  obtain⟨its2,rv,⟨o,ho,hcl,m,hd⟩,_⟩:=I.tuple (X:=X) (.of hc);obtain⟨ky,v,rfl,r1,r2⟩:=Xz rv;refine⟨(kv.1,v)::more',.cons ⟨rfl,r2⟩ h1,λj x kv' e1 e2=>?_⟩
  cases j with
  |zero =>
   simp at e1 e2;subst e1 e2;exact⟨c,o,ky,m,rfl,ho,hcl,hd,XD r1⟩
  |succ j=>exact h2 j x kv' (by simpa using e1) (by simpa using e2)
theorem gX:∀{ys:List V}{its:qA}{more:List (Key×V)},Vals ys its->Paired (QX H) ys more->∀(j:Nat) (b:xb),its[j]?=some (.ref b)->∃q,H b=some (.tup q)
 |_,_,_,.nil,.nil=>λj b e=>by simp at e
 |_,_,_,.cons r rs,.cons p ps=>λj b e=>by
  cases j with
  |zero =>
   obtain⟨c,rfl,hc⟩:=p
   cases r
   simp at e;exact⟨_,e ▸ hc⟩
  |succ j=>exact gX rs ps j b (by simpa using e)
end
section
variable {X:Cx}{qE:qr}{σ:St}{H:Hp}{s:qZ}{a:xb}{kvs:List (Key×V)}
theorem Inv.freeze(I:Inv X qE σ H s)(e:H a=some (.dK kvs)):∃o,s.heap.get? a=some o/\Inv X qE σ (upd H a (.frz o (.dK kvs))) s:=by
 obtain⟨z1,hd,vs,rel,dd⟩:=Zg I.hok e;obtain⟨o,es,ep,ho,r⟩:=id dd;refine⟨o,ho,?_⟩;have:=I.write (x:=a) (e:=a) (o := .frz o (.dK kvs)) (h':=s.heap) (t':=s.toks) (by rw[e];exact True.intro) (.inl rfl) (λb u _ q=>q) ⟨o,ho⟩ ⟨ho,z1,hd,vs,rel,dd⟩;exact this
end
def Itd(a:xb)(o:Obj)(kvs:List (Key×V)):It :=
 ⟨λi H=>H a=some (.frz o (.dK kvs))/\i<kvs.length,λi H x H'=>H'=H/\∃kv,kvs[i]?=some kv/\x=kV kv.1,λi H=>H a=some (.frz o (.dK kvs))/\kvs.length<=i⟩
def tZ(h:(Jf P w).is k u=true):RelV (kV k) u:=by
 rw[nv]at h;rcases Q3 h with ⟨i,t,rfl,rfl⟩|⟨x,t,rfl,rfl⟩
 . exact⟨t,rfl⟩
 . exact⟨t,rfl⟩
def gY(x:ObjOk P w H h a (.frz o (.dK kvs)))(hd:o.data=.dict es ep) :
 h.get? a=some o/\es.size=kvs.length/\∀(i:Nat) (hi:i<es.size) (kv:Key×V),kvs[i]?=some kv->RelV (kV kv.1) es[i].key:=by
 obtain⟨ho,z1,_,vs,rel,o2,es2,ep2,h1,h2,h3,ko,hp,nd⟩:=x;rw[ho]at h1;cases h1;rw[hd]at h3;cases h3;have hl:es.size=kvs.length:=by rw[rel.length,<- hp.length,jW]
 refine⟨ho,hl,λi hi kv e=>?_⟩;obtain⟨q,hq,e1,_⟩:=Yj rel e;obtain⟨hk,_⟩:=hp.get? (e:=es[i]) (by simp[hi]) hq;rw[e1];exact tZ hk
theorem u9{P:xf}{w:xh}{K:qu}{tg:Expr}{a it:xb}{o:Obj}{kvs:List (Key×V)}{es:Array DictEntry}{ep:Nat}(hdat:o.data=.dict es ep)(ne:a≠it) :
 Turn P w K tg (Itd a o kvs) [it] it (λi h=>h.IsKeyIter it a i es.size ep/\i<=es.size) where
 mem:=by simp
 obj:=λi h st b hb=>by
  have e:b=it:=by simpa using hb
  subst e;obtain⟨⟨o,e,c,d⟩,_⟩:=st;exact⟨o,e,λv z=>by rw[d]at z;cases z⟩
 keep:=λi h h' st k=>⟨st.1.at λo e=>k it 'j' o e,st.2⟩
 item:=by
  intro X hP hw hK hc i qE s σ H E I hf st hg;subst hP hw hK;obtain⟨st,le⟩:=st;obtain⟨e,hi⟩:=hg;obtain⟨ho,hl,hrel⟩:=gY (I.hok a _ e) hdat;have hi':i<es.size:=by omega
  obtain⟨f0,f1,f2,f3,f4,f5⟩:=hf it 'j';refine sO st ⟨o,ho,hdat⟩ hi' λh' st' sb=>?_;have I1:Inv X qE σ H { s with heap:=h' }:=I.turned (t':=s.toks) (λb o hb e=>(sb.2 b hb).trans e) f0 f1 f3 f4 f5;obtain⟨o1,e1,c1,d1⟩:=id st';have ek:kvs[i]?=some kvs[i]:=jD hi;exact⟨_,rfl,Xv (s:={ s with heap:=h' }) e1 c1 d1 'f' ⟨kV kvs[i].1,H,I1,hrel i hi' _ ek,⟨rfl,_,ek,rfl⟩,⟨st',hi'⟩,λb hb=>(hf b hb).1⟩⟩
 done:=by
  intro X hP hw hK hc i qE s σ H E I hf st hg;subst hP hw hK;obtain⟨e,hi⟩:=hg;obtain⟨ho,hl,hrel⟩:=gY (I.hok a _ e) hdat;obtain⟨f0,f1,f2,f3,f4,f5⟩:=hf it 'j';obtain⟨st,le⟩:=st;obtain rfl:i=es.size:=by omega
  exact sP (I.ok.hd hc) st ⟨o,ho,hdat⟩ λh' eb=>⟨rfl,I.turned (t':=s.toks) (λb o hb e=>eb b o hb e) f0 f1 f3 f4 f5⟩
 self:=λ_ _ _ _ _ st h=>wpAny_pyIter_keyiter st.1 h
section
variable {X:Cx}{tg:Expr}
def ua(te:TE):TI:=λσ H R=>te σ H λx H1=>∃a kvs,x=.ref a/\H1 a=some (.dK kvs)/\∀o,R (Itd a o kvs) (upd H1 a (.frz o (.dK kvs)))
def ub(he:PE X e te):PI X tg e (ua te):=by
 intro qE s σ H R I h;refine thn (he qE s σ H _ I h) λv s1 c9=>?_;obtain⟨x,H1,I1,r1,q1⟩:=c9;obtain⟨a,kvs,rfl,ea,q⟩:=q1
 cases r1
 obtain⟨_,lo,_,_,o0,es,ep,ho,h2,hdat,_⟩:=Zg I1.hok ea;obtain⟨o,ho',I2⟩:=I1.freeze ea;rw[ho]at ho';cases ho';refine sN lo ⟨_,ho,h2.1⟩ ⟨_,ho,hdat⟩ ?_;refine⟨s1.heap.objs.size,[s1.heap.objs.size],_,_,upd H1 a (.frz o0 (.dK kvs)),rfl,I2.kept (t':=s1.toks) λb o e=>jF _ e,u9 hdat (jZ (jL ho)),⟨⟨_,jO _ rfl,rfl,rfl⟩,jS _⟩,λb hb=>?_,q o0⟩;have e:b=s1.heap.objs.size:=by simpa using hb
 subst e;exact I2.fpOk (jG _) (I2.hok.fresh (jG _))
end
end L2
namespace L2
open PySem PySem.Spec PyProof.Rows
section
variable {prog:xf}{w:xh}{A:Around}{E:qk}{s:qZ}
def gZ(n:Nat)(b:Bool):Bool:=match (SetTable.fresh 0 0 b).roomFor n with
 |none=>true
 |some wn=>decide (SetTable.sizeAbove wn<=sizeLine)&&match (SetTable.fresh 0 0 b).relaid #[] wn with
  |some (t,o)=>o.size==0&&t.fits 0&&t.led==b
  |none=>false
def uc:∀n,n<=12->∀b,gZ n b=true:=by decide +kernel
def ud(hS:s.heap.get? S=some (Jo w))(hn:n<=12)(h:∀h',Heap.SameBut S s.heap h'->SetS w (xW w) h' S []->Q () { s with heap:=h' }):wpAny (model prog w) A (setRoomFor S n) Q E s:=by
 have ok:=uc n hn (!xW w);have S0:SetS w (xW w) s.heap S []:=⟨_,#[],0,_,hS,⟨rfl,rfl,rfl⟩,rfl,.nil,j4,by decide,rfl,rfl,.inl rfl⟩;unfold setRoomFor;refine k7 (kK hS rfl rfl ?_);dsimp only;unfold gZ at ok
 cases hr:(SetTable.fresh 0 0 (!xW w)).roomFor n with
 |none =>
  have e:s={ s with heap:=s.heap }:=by cases s;rfl
  have:=h s.heap (Heap.SameBut.refl S s.heap) S0;rw[<- e]at this;exact k8 this
 |some wn =>
  rw[hr]at ok;dsimp only at ok ⊢;rw[jj]at ok;obtain⟨ok1,ok2⟩:=ok;have ok1:=kS ok1
  cases hl:(SetTable.fresh 0 0 (!xW w)).relaid #[] wn with
  |none=>rw[hl]at ok2;cases ok2
  |some to =>
   obtain⟨t,o⟩:=to;rw[hl]at ok2;dsimp only at ok2;rw[jj,jj]at ok2;obtain⟨⟨z1,z2⟩,z3⟩:=ok2
   obtain rfl:o=#[]:=by
    have:o.size=0:=by simpa using z1
    exact Array.eq_empty_of_size_eq_zero this
   unfold setRelay;refine k7 (kK hS rfl rfl ?_);dsimp only;rw[k9 'd'];refine k7 ?_;rw[Array.map_empty,hl];show wpAny _ _ (pure ((#[]:Array (Int×qY)),t)) _ _ _;refine k8 ?_;refine wpAny_storeSet_of hS rfl ?_ (jS _);refine h _ (Heap.SameBut.update s.heap S _) ⟨_,#[],_,t,Yl hS rfl #[] t,⟨rfl,rfl,rfl⟩,rfl,.nil,j4,by decide,z2,?_,.inl rfl⟩;simpa using z3
def hG(w:xh)(ns:qB)(es:Array DictEntry):Prop:=es.size=ns.length/\∀(i:Nat) (e:DictEntry),es[i]?=some e->∃tk,e.key=.str (ns.getD i Str.empty) tk/\e.hash=hashStr w (ns.getD i Str.empty)
def ue(lo:(d==sysModules)=false)(ho:s.heap.get? d=some o)(hx:o.cls=.type "dict")(hd:o.data=.dict es ep)(tx:hG w ns es)(hn:ns.length<=12)(hSl:S≠d)(hS:s.heap.get? S=some (Jo w))
 (hR:∀(h':Heap) (ks:qB),(∀b o,b≠S->s.heap.get? b=some o->h'.get? b=some o)->SetS w (xW w) h' S ks->(∀x,x∈ks↔x∈ns)->R (.ok (.ret .none)) { s with heap:=h' }) :
 wpAny (model prog w) A.in1 (Builtin.«set.__init__» ⟨[.ref S,.ref d],[]⟩)
  (λqJ s'=>match qJ with | .done f=>R (.ok f) s' | .again c'=>c'.quiet=true/\codeAny (model prog w) A c' R s') (λe s'=>R (.error e) s') s:=by
 have hT:s.TypeIs (.ref S) "set" := ⟨_,hS,rfl⟩;have hTl:s.TypeIs (.ref d) "dict" := ⟨_,ho,hx⟩;have hsls:isSubtype (.type "dict") (.type "set")=pure false:=by rw[isSubtype_type];kernel_rfl
 have hslf:isSubtype (.type "dict") (.type "frozenset")=pure false:=by rw[isSubtype_type];kernel_rfl
 unfold Builtin.«set.__init__» noKeywords Builtin.Frozenset.updateFrom;have hS1:s.heap.get? S=some { cls := .type "set",dict:=none,data := .set #[] 0 (.fresh 0 0 (!xW w)) }:=hS;wp_walk using wpAny_typeOf hTl,kU hTl hsls,kU hTl hslf;rw[hd];refine k8 ?_;refine k7 (q8 ho hd ?_);obtain⟨sz,tx⟩:=tx;refine k7 (ud (s:=s) hS 'd' λh1 sb1 S1=>?_);have ho1:h1.get? d=some o:=(sb1.2 d hSl.symm).trans ho;refine k7 (q8 (s:={ s with heap:=h1 }) ho1 hd ?_);rw[Std.Legacy.Range.forIn_eq_forIn_range'];simp only[Std.Legacy.Range.size,Nat.sub_zero,Nat.add_sub_cancel,Nat.div_one];refine k7 (wpAny_forIn_list _ (λqO (_:PUnit) (s':qZ)=>∃(i:Nat) (h':Heap) (ks:qB),qO=List.range' i (es.size - i)/\i<=es.size/\s'={ s with heap:=h' }/\(∀b o,b≠S->s.heap.get? b=some o->h'.get? b=some o)/\SetS w (xW w) h' S ks/\(∀x,x∈ks↔∃j,j<i/\ns.getD j Str.empty=x)/\ks.length<=i) _ ?_ ?_ _ _ ⟨0,h1,[],rfl,jS _,rfl,λb o n e=>(sb1.2 b n).trans e,S1,λx=>⟨λz=>(nomatch z),λ⟨j,z,_⟩=>absurd z (kH _)⟩,jG _⟩)
 . rintro j qO _ s' ⟨i,h',ks,er,hi,rfl,kp,hS',mem,kl⟩
   have qS:i<es.size:=by
    rcases Nat.lt_or_ge i es.size with h|h
    . exact h
    . rw[Nat.sub_eq_zero_of_le h]at er;cases er
   rw[show es.size - i=(es.size - (i+1))+1 by omega,List.range'_succ]at er;obtain⟨rfl,rfl⟩:=List.cons.inj er;have ho':h'.get? d=some o:=kp d o hSl.symm ho;refine k7 (q8 (s:={ s with heap:=h' }) ho' hd ?_);have ee:es[j]?=some es[j]:=jf qS;obtain⟨tk,ek,eh⟩:=tx j es[j] ee;rw[ee];dsimp only;rw[ek,eh];refine k7 (kM (gK (s:={ s with heap:=h' }) hS' (by unfold scanBound;omega) λh2 ks2 b sb2 hS2 m2 l2=>?_));have ho2:h2.get? d=some o:=(sb2.2 d hSl.symm).trans ho';refine k7 (wpAny_dictEpoch (s:={ s with heap:=h2 }) ho2 hd ?_);rw[k9 'j'];refine k8 ⟨j+1,h2,ks2,rfl,qS,rfl,λb o n e=>(sb2.2 b n).trans (kp b o n e),hS2,λx=>?_,by omega⟩;rw[m2 x,mem x];constructor
   . rintro (⟨k,h1,h2⟩ | h)
     . exact⟨k,by omega,h2⟩
     . exact⟨j,Nat.lt_succ_self _,h.symm⟩
   . rintro⟨k,h1,h2⟩;rcases Nat.lt_or_ge k j with h | h
     . exact .inl ⟨k,h,h2⟩
     . obtain rfl:k=j:=by omega
       exact .inr h2.symm
 . rintro _ s' ⟨i,h',ks,er,hi,rfl,kp,hS',mem,kl⟩
   have:i=es.size:=by
    rcases Nat.lt_or_ge i es.size with h|h
    . rw[show es.size - i=(es.size - (i+1))+1 by omega,List.range'_succ]at er;cases er
    . omega
   subst this;refine k8 (k8 (hR h' ks kp hS' λx=>?_));rw[mem x,sz,List.mem_iff_getElem];constructor
   . rintro⟨j,h1,h2⟩;exact⟨j,h1,by rw[<- h2];simp[List.getD,h1]⟩
   . rintro⟨j,hj,h2⟩;exact⟨j,hj,by rw[<- h2];simp[List.getD,hj]⟩
def ug(lo:(l==sysModules)=false)(ho:s.heap.get? l=some o)(hx:o.cls=.type "dict")(hd:o.data=.dict es ep)(tx:hG w ns es)(hn:ns.length<=12)
 (h:∀(h':Heap) (ks:qB),(∀b o,s.heap.get? b=some o->h'.get? b=some o)->SetS w (xW w) h' s.heap.objs.size ks->(∀x,x∈ks↔x∈ns)->Q (.ref s.heap.objs.size) { s with heap:=h' }) :
 wpAny (model prog w) A (call (.type "set") [.ref l]) Q E s:=by
 obtain⟨c,tl,hmro⟩:=PySem.F.called_set.mro;have hmade:=PySem.F.called_set.made;have hsub:=PySem.F.called_set.sub;refine wpAny_call (codeAny_of_tree ?_);show wpAny _ _ (callAny (.type "set") _) _ _ _;refine k8 ⟨Code.quiet_builtin _ (by decide +kernel),qh PySem.F.entry_type_call ?_⟩;rw[Around.under_plain (weight_type_call_type "set" [.ref l] []) rfl];have h1:=PySem.F.called_set.notType;have h2:=PySem.F.called_set.canCreate;have hct:=PySem.F.typeCall_set_1 (.ref l)
 repeat (any_goals (first|assumption|wp_step))
 refine codeAny_mono (sW (.ref l) (E:=E) (Q₁:=λobj s₁=>obj=.ref s.heap.objs.size/\s₁={ s with heap:=s.heap.push (Jo w) }) ⟨rfl,rfl⟩) λr s₁ hr=>?_
 cases r with
 |error e=>exact hr
 |ok fl =>
  cases fl with
  |ret obj =>
   obtain⟨rfl,rfl⟩:=hr;have hS:(s.heap.push (Jo w)).get? s.heap.objs.size=some (Jo w):=jO _ rfl;have hT:Shared.TypeIs { s with heap:=s.heap.push (Jo w) } (.ref s.heap.objs.size) "set" := ⟨_,hS,rfl⟩;have hli:=PySem.F.called_set.init.lookup;have hbi:=PySem.F.called_set.init.bind (.ref s.heap.objs.size)
   repeat (any_goals (first|assumption|wp_step))
   refine codeAny_mono (codeAny_call_builtin (R:=wants (λr s₂=>r=.none/\Q (.ref s.heap.objs.size) s₂) E) PySem.F.called_set.init.plain PySem.F.entry_set_init (check_set_init_1 hT ?_)) λr₂ s₂ hr₂=>?_
   . have lt:=jL ho;refine ue (A:=A.in1) (s:={ s with heap:=s.heap.push (Jo w) }) lo (jF _ ho) hx hd tx hn (kI lt) hS λh' ks k1 k2 k3=>?_;exact⟨rfl,h h' ks (λb o e=>k1 b o (jZ (jL e)) (jF _ e)) k2 k3⟩
   . cases r₂ with
     |error e=>exact hr₂
     |ok fl₂ =>
      cases fl₂ with
      |ret r =>
       obtain⟨rfl,hq⟩:=hr₂
       repeat (any_goals (first|assumption|wp_step))
      |_=>exact hr₂.elim
  |_=>exact hr.elim
end
section
variable {X:Cx}
def hJ{e:Expr}{te:TE}{p2 cp:Pos}{qE:qr}{s:qZ}{σ:St}{H:Hp}(K:qu)(hK:X.K=K)(hc:X.calm=true)(hg2:Gl X "set")(hm2:X.mg "set" = none)(hv2:bootBuiltins "set" = some (.type "set"))(ho:PE X e te)
 (he:starEach [e] X.env=[(false,eval e X.env)]) (I:Inv X qE σ H s) {C:qB->Hp->Prop}{R:qk}
 (h:te σ H λx H1=>∃(a:xb) (kvs:List (Key×V)) (ns:qB),x=.ref a/\H1 a=some (.dK kvs)/\kvs.map (·.1)=ns.map .inr/\ns.length<=12/\C ns H1)
 (k:∀(S:xb) (ks ns:qB) (s1:qZ) (H1:Hp),Inv X qE σ H1 s1->H1 S=none->S≠X.env.locals->S∉X.fs->(∀p∈X.pn++qE,p.1≠S)->SetS X.w (xW X.w) s1.heap S ks->(∀y,y∈ks↔y∈ns)->C ns H1->R (.ref S) s1) :
 wpAny (model X.prog X.w) X.A (eval (.Call (.Name "set" p2) [e] [] cp) X.env) R X.xe s:=by
 subst hK;refine kY (Xe I hg2 hm2 hv2 ?_ 'f' 'f');refine PyProof.Rows.callWith_type1 ?_ he rfl;rw[he];show wpAny _ _ (spliced [(false,eval e X.env)]) _ _ s;refine Calls.spliced_cons (thn (ho qE s σ H _ I h) λv s1 c9=>?_);obtain⟨x,H1,I1,r1,a,kvs,ns,ex,sq,ek,n4,hC⟩:=c9;subst ex;obtain rfl:v=Value.ref a:=r1;refine Calls.spliced_nil ?_;have hh:X.A.handled=none:=I1.ok.hd hc;obtain⟨_,lo,vs,rel,o,es,ep,ho',hx,hd,ko,hp,_⟩:=Zg I1.hok sq
 have hl:es.size=ns.length:=by
  have:=kN List.length ek;rw[jC,jC]at this;rw[<- this,rel.length,<- hp.length,jW]
 refine ug lo ho' hx.1 hd (ns:=ns) ⟨hl,λi e hi=>?_⟩ n4 λh' ks kp hS hm=>?_
 . obtain⟨his,rfl⟩:=j5.mp hi;have hin:i < ns.length:=by omega
   have hik:i<kvs.length:=by have:=kN List.length ek;rw[jC,jC]at this;omega
   have ekv:kvs[i]?=some kvs[i]:=jD hik;obtain⟨q,hq,e1,_⟩:=Yj rel ekv;obtain⟨hk,_⟩:=hp.get? (e:=es[i]) (by simp[his]) hq
   have e2:kvs[i].1=.inr ns[i]:=by
    have:=kN (λl=>l[i]?) ek;simp only[jJ,ekv,jD hin]at this;exact Option.some.inj this
   rw[show q.1=kvs[i].1 from e1.symm,e2]at hk;have eg:ns.getD i Str.empty=ns[i]:=by simp[List.getD,hin]
   rw[eg];obtain⟨k0,h0,h1⟩:=ko es[i] (Array.getElem_mem his);have hk:QG (.inr ns[i]) es[i].key=true:=hk;have h0:QG k0 es[i].key=true:=h0;rcases Q3 hk with ⟨_,_,z,_⟩|⟨x,t,z,ev⟩
   . cases z
   . cases z
     refine⟨t,ev,?_⟩;rw[h1];rw[ev]at h0;rcases Q3 h0 with ⟨_,_,_,z⟩|⟨x,t,rfl,z⟩
     . cases z
     . cases z;rfl
 . have I2:=I1.kept (h':=h') (t':=s1.toks) kp;refine k _ ks ns _ H1 I2 (I1.hok.fresh (jG _)) (kI I1.lt) (I1.nofs (jG _)) (λp hp z=>?_) hS hm hC;have:=jL (I1.pin p hp).1;rw[z]at this;exact js _ this
def uh(te tu:TE):TE:=λσ H Q=>te σ H λx H1=>∃(a:xb) (kvs:List (Key×V)) (ns:qB),x=.ref a/\H1 a=some (.dK kvs)/\kvs.map (·.1)=ns.map .inr/\ns.length<=12 /\
 tu σ H1 λy H2=>∃(b:xb) (kvt:List (Key×V)) (ms:qB),y=.ref b/\H2 b=some (.dK kvt)/\kvt.map (·.1)=ms.map .inr/\ms.length<=12/\(∀ks:qB,ks.Nodup->(∀k∈ks,k∈ns/\k∈ms)->ks.length<64) /\
 ∀(l:xb) (ss:qB),H2 l=none->(∀k,k∈ss↔k∈ns/\k∈ms)->ss.Pairwise ltS->Q (.ref l) (upd H2 l (.lst (ss.map V.str)))
def ui{te tu:TE}{p p2 p3 cp cp2 bp pos:Pos}(K:qu)(hK:X.K=K)(hc:X.calm=true)(hg:Gl X "sorted")(hm:X.mg "sorted" = none)(hv:bootBuiltins "sorted" = some (.builtin "sorted"))(hg2:Gl X "set")(hm2:X.mg "set" = none)(hv2:bootBuiltins "set" = some (.type "set"))(ho:PE X e te)(ho2:PE X e2 tu)
 (he:starEach [e] X.env=[(false,eval e X.env)]:=by rfl) (he2:starEach [e2] X.env=[(false,eval e2 X.env)]:=by rfl):PE X (.Call (.Name "sorted" p) [.BinOp (.Call (.Name "set" p2) [e] [] cp) .BitAnd (.Call (.Name "set" p3) [e2] [] cp2) bp] [] pos) (uh te tu):=by
 intro qE s σ H Q I h;refine kY (Xe I hg hm hv ?_ 'f' 'f');refine PyProof.Rows.callWith_builtin1 ?_ rfl rfl;show wpAny _ _ (spliced [(false,eval (.BinOp (.Call (.Name "set" p2) [e] [] cp) .BitAnd (.Call (.Name "set" p3) [e2] [] cp2) bp) X.env)]) _ _ s;refine Calls.spliced_cons (wpAny_BinOp ?_);refine hJ K hK hc hg2 hm2 hv2 ho he I h λS ks ns s1 H1 I1 nS lS fS pS hS mS h1=>?_
 obtain⟨o,hSo⟩:∃o,s1.heap.get? S=some o/\∀v,o.data ≠ .cell v:=by
  obtain⟨o,es,ep,t,ho,hex,hd,_⟩:=hS;exact⟨o,ho,λv z=>by rw[hd]at z;cases z⟩
 have pin1:∀p∈X.pn++((S,o)::qE),s1.heap.get? p.1=some p.2/\H1 p.1=none/\p.1≠X.env.locals/\p.1∉X.fs/\∀v,p.2.data ≠ .cell v:=λp hp=>by
  rcases jI.mp hp with hp|hp
  . exact I1.pin p (ji _ hp)
  . rcases jB.mp hp with rfl | hp
    . exact⟨hSo.1,nS,lS,fS,hSo.2⟩
    . exact I1.pin p (jM _ hp)
 have I1':Inv X ((S,o)::qE) σ H1 s1:={ I1 with pin:=pin1 };refine hJ K hK hc hg2 hm2 hv2 ho2 he2 I1' h1 λT kt ms s2 H2 I2' nT lT fT pT hT mT h2=>?_;obtain⟨few,q⟩:=h2;have hSin:(S,o)∈X.pn++((S,o)::qE):=jM _ (jH ..);have keep:=(I2'.pin _ hSin).1
 have pin2:∀p∈X.pn++qE,s2.heap.get? p.1=some p.2/\H2 p.1=none/\p.1≠X.env.locals/\p.1∉X.fs/\∀v,p.2.data ≠ .cell v:=λp hp=>I2'.pin p (by
  rcases jI.mp hp with hp|hp
  . exact ji _ hp
  . exact jM _ (jE _ hp))
 have I2:Inv X qE σ H2 s2:={ I2' with pin:=pin2 };have hS2:SetS X.w (xW X.w) s2.heap S ks:=hS.at λo' e'=>by rw[hSo.1]at e';cases e';exact keep
 refine tW hS2 hT (pT _ hSin) λh' d kr kp hR mR=>?_;refine Calls.spliced_nil ?_;have I3:Inv X qE σ H2 { s2 with heap:=h',drawn:=d }:=(I2.kept (h':=h') (t':=s2.toks) kp).drawn d;have nd:kr.Nodup:=by obtain⟨_,_,_,_,_,_,_,_,z,_⟩:=hR;exact z
 have mem:∀k,k∈kr↔k∈ns/\k∈ms:=λk=>by rw[mR k,mS k,mT k]
 exact tO hc I3 hR (few kr nd λk hk=>(mem k).mp hk) λl ss hl pp pw=>q l ss hl (λx=>pp.mem_iff.trans (mem x)) pw
end
end L2
namespace L2
open PySem PySem.W PySem.Spec PyProof.Rows
def uj{prog:xf}{w:xh}{A:Around}{R:Result->qZ->Prop}{d l I:xb}{items:qz}{St:Nat->Heap->Prop}(W:Walks prog w A.in1 I [I,l] [I] items.size (λi v=>items[i]?=some v) St)(hdI:d≠I)(hdl:d≠l)(more:List (Key×qY))(hn:items.size=more.length) :
 ∀(k i:Nat) (s:qZ) (kvs:List (Key×qY)),more.length - i=k->i<=more.length->St i s.heap->s.heap.DictOf (Jf prog w) d kvs->kvs.length+(more.length - i)<=sizeLine ->
  (∀(j:Nat) (x:qY) (kv:Key×qY),items[j]?=some x->more[j]?=some kv->gV (Jf prog w).is s.heap x kv)->(∀(j:Nat) (b:xb),items[j]?=some (.ref b)->b≠d/\b≠I) ->
  (∀h' tk,h'.DictOf (Jf prog w) d (merged kvs (more.drop i))->(∀b o,b≠d->b≠I->s.heap.get? b=some o->h'.get? b=some o)->R (.ok (.ret .none)) { s with heap:=h',toks:=tk }) ->
  codeAny (model prog w) A (.builtin "dict.update.loop" ⟨[.ref d,.ref I,rawInt i,.none],[]⟩) R s:=by
 intro k
 induction k with
 |zero =>
  intro i s kvs hk hi hst hd hz hp hne hR;have hin:i=items.size:=by omega
  refine qh gU ?_;rw[Around.under_plainId Yo _];show wpAny _ A.in1 (pyNext (.ref I) >>= _) _ _ s;refine k7 (W.done s _ _ (hin ▸ hst) λh' tk hk'=>?_);have kd:∀b o,b≠d->b≠I->s.heap.get? b=some o->h'.get? b=some o:=λb o _ hb e=>hk' b o (by simpa using hb) e;show wpAny _ A.in1 (Builtin.Dict.addKeywords d [] >>= _) _ _ _;refine k7 (k8 (k8 (hR _ _ ?_ kd)));obtain⟨o,es,ep,ho,r⟩:=hd;rw[kF 'd'];exact⟨o,es,ep,hk' d o (by simpa using hdI) ho,r⟩
 |succ k ih =>
  intro i s kvs hk hi hst hd hz hp hne hR;have qS:i<more.length:=by omega
  refine qh gU ?_;rw[Around.under_plainId Yo _];show wpAny _ A.in1 (pyNext (.ref I) >>= _) _ _ s;refine k7 (W.item i s _ _ 'd' hst λv h' tk hP hst' hk'=>?_);have hv:items[i]?=some v:=by simpa using hP
  have hm:more[i]?=some more[i]:=jD qS;obtain⟨b,o,ky,m,rfl,hb,hc,hdat,hky⟩:=hp i v _ hv hm;obtain⟨bd,bI⟩:=hne i b hv;have hb':=hk' b o (by simpa using bI) hb
  have hd':h'.DictOf (Jf prog w) d kvs:=by
   obtain⟨o,es,ep,ho,r⟩:=hd;exact⟨o,es,ep,hk' d o (by simpa using hdI) ho,r⟩
  show wpAny _ A.in1 (holding [.ref b] (tryCatch (Builtin.Dict.pairItems (.ref b)) _ >>= _) >>= _) _ _ _;refine k7 (kM (k7 (wpAny_tryCatch ?_)));unfold Builtin.Dict.pairItems;refine k7 (wpAny_typeOf ⟨o,hb',hc⟩ ?_);rw[ke 'f'];refine k7 (kT hb' hdat (k8 ?_));show wpAny _ A.in1 (holding [ky,more[i].2] (dictSet d ky more[i].2)) _ _ _;have hz':kvs.length<=sizeLine:=by omega
  refine kM (wpAny_dictSet_pairs (hsz:=hz') hky hd' λh2 hd2 hs2=>?_);have kp2:∀b o,b≠d->b≠I->s.heap.get? b=some o->h2.get? b=some o:=λb o h1 h3 e=>(hs2.2 b h1).trans (hk' b o (by simpa using h3) e);have hstl:(stored kvs more[i].1 more[i].2).length<=kvs.length+1:=by unfold stored;split<;>simp
  refine k8 ⟨plainId_quiet Yo _,?_⟩;have hint:rawInt ((i:Int)+1)=rawInt ((i+1:Nat):Int):=by push_cast;rfl
  rw[hint];refine ih (i+1) _ (stored kvs more[i].1 more[i].2) 'd' qS ?_ hd2 'd' (λj x kv e1 e2=>?_) hne λh3 tk3 hd3 k3=>hR h3 tk3 ?_ λb o h1 h4 e=>k3 b o h1 h4 (kp2 b o h1 h4 e)
  . refine W.frame _ _ _ hst' λb hb o e=>(hs2.2 b ?_).trans e;rcases jB.mp hb with rfl | hb
    . exact Ne.symm hdI
    . rw[jA.mp hb];exact Ne.symm hdl
  . obtain⟨b,o,ky,m,rfl,hb,r⟩:=hp j x kv e1 e2;obtain⟨bd,bI⟩:=hne j b e1;exact⟨b,o,ky,m,rfl,kp2 b o bd bI hb,r⟩
  . rw[List.drop_eq_getElem_cons qS];exact hd3
section
variable {X:Cx}{qE:qr}{σ:St}{H:Hp}{s:qZ}
def uk(hh:X.A.handled=none)(I:Inv X qE σ H s)(eo:s.heap.get? l=some o)(hcl:o.cls=.type T)(nT:(Value.type T != Value.type "dict")=true)(r:Vals ys its)(al:∃u,H l=some u)(hp:Paired (QX H) ys more)(z:more.length<=sizeLine)
 (keys:∀(A:Around) (E:qk) (s1:qZ) (Q':qv->qZ->Prop),A.handled=none->s1.heap.get? l=some o->(∀h' tk,(∀b o,s1.heap.get? b=some o->h'.get? b=some o)->Q' none { s1 with heap:=h',toks:=tk })->wpAny (model X.prog X.w) A (getAttr? (.ref l) "keys") Q' E s1)
 (qN:∀s1:qZ,s1.heap.get? l=some o->∃(oI:Obj) (St:Nat->Heap->Prop),(∀(A:Around) (E:qk) (Q:qk),Q (.ref s1.heap.objs.size) { s1 with heap:=s1.heap.push oI }->wpAny (model X.prog X.w) A (pyIter (.ref l)) Q E s1)/\(∀A:Around,A.handled=none->Walks X.prog X.w A s1.heap.objs.size [s1.heap.objs.size,l] [s1.heap.objs.size] its.toArray.size (λi v=>its.toArray[i]?=some v) St)/\St 0 (s1.heap.push oI))
 (h:∀a s',H a=none->Inv X qE σ (upd H a (.dK (Qi [] more))) s'->Q (.ref a) s'):wpAny (model X.prog X.w) X.A (call (.type "dict") [.ref l]) Q E s:=by
 refine callType_codes (Q₁:=λobj s₁=>obj=.ref s.heap.objs.size/\s₁={ s with heap:=s.heap.push { cls := .type "dict",data := .dict #[] } }) F.kt_called_dict (F.kt_typeCall_dict_1 _) F.entry_dict_init (kt_code_dict_new _ ⟨rfl,rfl⟩) ?_;rintro obj s₁ ⟨rfl,rfl⟩;have dd0:(s.heap.push { cls := .type "dict",data := .dict #[] }).DictOf (Jf X.prog X.w) s.heap.objs.size []:=Heap.DictOf.new s.heap;have fr:H s.heap.objs.size=none:=I.hok.fresh (jG _);have hd:(s.heap.objs.size==sysModules)=false:=beq_eq_false_iff_ne.mpr (Ne.symm (jZ I.big));have hl:=r.length;obtain⟨more',km,pin⟩:=gW I r hp;have ref:=gX r hp;have hlm:its.toArray.size=more'.length:=by rw[jK,<- hl,Paired.length hp,km.length]
 have kp0:∀b o,s.heap.get? b=some o->(s.heap.push { cls := .type "dict",data := .dict #[] }).get? b=some o:=λb o e=>jF _ e;refine⟨dd0.typeIs,F.args_dict_init_2 _ _,?_⟩;unfold Builtin.«dict.__init__»;refine k7 ?_;unfold Builtin.Dict.selfAndRest;refine k7 (wpAny_notOrdered_dict dd0.typeIs ?_);show wpAny _ _ (pure (s.heap.objs.size,[Value.ref l])) _ _ _;refine k8 ?_;show wpAny _ _ (Builtin.Dict.updateFrom "dict.__init__" s.heap.objs.size (.ref l) [] .none) _ _ _;generalize s.heap.push { cls := .type "dict",data := .dict #[] }=g at dd0 kp0;have eo0:=kp0 _ _ eo;unfold Builtin.Dict.updateFrom;refine k7 (wpAny_typeOf ⟨_,eo0,hcl⟩ ?_);rw[ke nT];refine k7 (keys _ _ _ _ (show X.A.in1.in1.handled=none from hh) eo0 λh1 tk1 k1=>?_);simp only[Option.isNone_none,if_true];refine k7 (qj ?_);have eo1:=k1 _ _ eo0;obtain⟨oI,St,it,W,st0⟩:=qN { s with heap:=h1,toks:=tk1 } eo1;refine k7 (it _ _ _ ?_);have hlI:l≠h1.objs.size:=jZ (jL eo1)
 have dd1:h1.DictOf (Jf X.prog X.w) s.heap.objs.size []:=by
  obtain⟨o,es,ep,ho,r⟩:=dd0;exact⟨o,es,ep,k1 _ _ ho,r⟩
 have hdI:s.heap.objs.size≠h1.objs.size:=by
  obtain⟨o,es,ep,ho,r⟩:=dd1;exact jZ (jL ho)
 have hdl:s.heap.objs.size≠l:=λq=>by obtain⟨u,eu⟩:=al;rw[q,eu]at fr;cases fr
 refine k8 ⟨plainId_quiet Yo _,uj (prog:=X.prog) (w:=X.w) (A:=X.A.in1) (d:=s.heap.objs.size) (l:=l) (items:=its.toArray) (W _ (show X.A.in1.in1.handled=none from hh)) hdI hdl more' hlm _ 0 _ [] rfl (jS _) st0 (dd1.push _) ?_ (λj x kv e1 e2=>?_) (λj b e1=>?_) λh' tk dd' kp=>?_⟩
 . rw[Nat.sub_zero,<- km.length];simpa using z
 . obtain⟨b,o,ky,m,rfl,hb,r⟩:=pin j x kv (by simpa using e1) e2;exact⟨b,o,ky,m,rfl,jF _ (k1 _ _ (kp0 _ _ hb)),r⟩
 . obtain⟨q,hq⟩:=ref j b (by simpa using e1);refine⟨λz=>(by rw[z,fr]at hq;cases hq),jZ ?_⟩
   obtain⟨o,ho⟩:∃o,s.heap.get? b=some o:=by
    obtain⟨its2,rv,⟨o,ho,_⟩,_⟩:=I.tuple (X:=X) (.of hq);exact⟨o,ho⟩
   exact jL (k1 _ _ (kp0 _ _ ho))
 . rw[List.drop_zero]at dd';refine⟨rfl,h s.heap.objs.size _ fr (I.laid (t':=tk) (λb u hu=>kp b u (jZ (jL hu)) (jZ (jL (k1 b u (kp0 _ _ hu)))) (jF _ (k1 b u (kp0 _ _ hu)))) (jG _) (Y7 (je (bq more []) (by simpa using z)) hd (km.merge .nil) dd'))⟩
def um(hh:X.A.handled=none)(I:Inv X qE σ H s)(el:H l=some (.lst ys))(hp:Paired (QX H) ys more)(z:more.length<=sizeLine)
 (h:∀a s',H a=none->Inv X qE σ (upd H a (.dK (Qi [] more))) s'->Q (.ref a) s'):wpAny (model X.prog X.w) X.A (call (.type "dict") [.ref l]) Q E s:=by
 obtain⟨_,its,n,r,hl,eo⟩:=I.lstM el;exact uk (T := "list") hh I eo rfl 'f' r ⟨_,el⟩ hp z (λA E s1 Q' hA e k=>tY e rfl rfl rfl hA k) (λs1 e=>⟨_,_,(λA E Q hq=>wpAny_pyIter_list ⟨_,e,rfl,_,rfl⟩ hq),(λA hA=>Walks.list hA _ l (jZ (jL e)) its.toArray),⟨⟨_,jO _ rfl,rfl,rfl⟩,⟨_,jF _ e,rfl,_,rfl⟩⟩⟩) h
def uo(hc:X.calm=true):Jv X (.type "dict") (λvs H Q=>∃(l:xb) (ys:List V) (more:List (Key×V)),vs=[.ref l]/\H l=some (.lst ys)/\Paired (QX H) ys more/\more.length<=sizeLine/\∀p,H p=none->Q (.ref p) (upd H p (.dK (Qi [] more)))):=by
 intro qE s σ H xs us Q I r h;obtain⟨l,ys,more,rfl,el,hp,z,q⟩:=h;obtain⟨u,rfl,ru⟩:=QU r
 cases ru
 exact um (I.ok.hd hc) I el hp z λp s' hp I'=>⟨.ref p,_,I',rfl,q p hp⟩
end
end L2
namespace L2
open PySem PySem.Spec PyProof.Rows
def Jz(Da:xb)(H:Hp):Hp:=λb=>if b=Da then none else H b
def hU(h:b≠Da):Jz Da H b=H b:=k9 h
def uq(Da:xb)(H:Hp):Same (Jz Da H) H:=λb o q=>by
 unfold Jz at q;split at q
 . cases q
 . exact q
def ur(Da:xb)(H:Hp)(o:HO):Jz Da (upd H Da o)=Jz Da H:=funext λb=>by
 unfold Jz;split
 . rfl
 . rename_i h;exact xz h
def hX(s:Same H H'):Same (Jz Da H) (Jz Da H'):=λb o q=>by
 unfold Jz at q ⊢;split at q
 . cases q
 . rename_i h;rw[k9 h];exact s b o q
theorem Yp{α:Type}(P:Hp->α->V->Prop)(mono:∀{H H':Hp}{a:α}{v:V},Same H H'->P H a v->P H' a v)(n:Nat)(xs:Nat->V)(fs:List (Option α))(hn:fs.length=n)(hz:n<=sizeLine)
 (hstop:∀H',Same H H'->J.stop n H') (hgo:∀i H',i<n->Same H H'->J.go i H'/\∀x qH,J.yld i H' x qH->x=xs i/\qH=H')
 (test:∀(i:Nat) (o:Option α) (H':Hp) (R:Bool->Hp->Prop),i<n->fs[i]?=some o->Same H H'->(∀qH,Same H' qH->R o.isSome qH)->tt (some (xs i)::cap ix σ) H' R)
 (step:∀(i:Nat) (a:α) (Da:xb) (H':Hp) (R:VK),i<n->fs[i]?=some (some a)->Same H H'->H Da=none->(∃o,H' Da=some o)->(∀y qH,Same H' qH->P (Jz Da qH) a y->R y qH)->te (some (xs i)::cap ix σ) H' R)
 (qJ:∀p H' ys,Same H H'->H p=none->H' p=some (.lst ys)->Paired (P H') (fs.filterMap id) ys->Q (.ref p) H'):XJ ix tt te σ Q J H:=by
 intro Da hD;refine⟨λi m H'=>m=n - i/\i<=n/\Same H H'/\∃ys,H' Da=some (.lst ys)/\Paired (P (Jz Da H')) ((fs.take i).filterMap id) ys,⟨n,by simp,jS _,xy hD _,[],xm,.nil⟩,?_⟩;rintro i m H' ⟨rfl,hi,sm,ys,eD,pr⟩
 by_cases qS:i<n
 . obtain⟨g,y⟩:=hgo i H' qS sm;refine .inr ⟨g,λx qH hy=>?_⟩;obtain⟨rfl,rfl⟩:=y x qH hy;have hi':i < fs.length:=by omega
   have ei:fs[i]?=some fs[i]:=jD hi';have tk:(fs.take (i+1)).filterMap id=(fs.take i).filterMap id++[fs[i]].filterMap id:=by rw[jt hi',List.filterMap_append]
   refine test i fs[i] qH _ qS ei sm λH2 s2=>?_;have pr2:Paired (P (Jz Da H2)) ((fs.take i).filterMap id) ys:=Paired.mapP pr λ_ _ h=>mono (hX s2) h;have eD2:=s2 _ _ eD
   cases ho:fs[i] with
   |none =>
    dsimp only[Option.isSome];rw[k9 jQ];refine⟨n - (i+1),by omega,rfl,qS,sm.trans s2,ys,eD2,?_⟩;rw[tk,ho];simpa using pr2
   |some a =>
    dsimp only[Option.isSome];rw[ke rfl];refine step i a Da H2 _ qS (by rw[ei,ho]) (sm.trans s2) hD ⟨_,eD2⟩ λy H3 s3 hy=>?_;have e3:=s3 _ _ eD2;have pr3:Paired (P (Jz Da H3)) ((fs.take i).filterMap id) ys:=Paired.mapP pr2 λ_ _ h=>mono (hX s3) h;have ly:=pr3.length;have lf:=List.length_filterMap_le id (fs.take i);rw[jo]at lf;refine⟨ys,e3,by omega,n - (i+1),by omega,rfl,qS,Zk hD ((sm.trans s2).trans s3),ys++[y],xm,?_⟩;rw[tk,ho,ur];exact Paired.snoc pr3 hy
 . have e:i=n:=by omega
   subst e;rw[kE 'd']at pr;exact .inl ⟨hstop H' sm,qJ Da H' ys sm hD eD (Paired.mapP pr λ_ _ h=>mono (uq _ _) h)⟩
theorem QY{α:Type}(P:Hp->α->V->Prop)(mono:∀{H H':Hp}{a:α}{v:V},Same H H'->P H a v->P H' a v)(n:Nat)(xs:Nat->V)(fs:List α)(hn:fs.length=n)(hz:n<=sizeLine)
 (hstop:∀H',Same H H'->J.stop n H') (hgo:∀i H',i<n->Same H H'->J.go i H'/\∀x qH,J.yld i H' x qH->x=xs i/\qH=H')
 (step:∀(i:Nat) (a:α) (Da:xb) (H':Hp) (R:VK),i<n->fs[i]?=some a->Same H H'->H Da=none->(∃o,H' Da=some o)->(∀y qH,Same H' qH->P (Jz Da qH) a y->R y qH)->te (some (xs i)::cap ix σ) H' R)
 (qJ:∀p H' ys,Same H H'->H p=none->H' p=some (.lst ys)->Paired (P H') fs ys->Q (.ref p) H'):JQ ix te σ Q J H:=by
 have em:(fs.map some).filterMap id=fs:=by rw[List.filterMap_map];exact List.filterMap_some
 refine Yp (tt:=Q9) P mono n xs (fs.map some) (by rw[jC];exact hn) hz hstop hgo (λi o H' R hi ei sm h=>?_) (λi a Da H' R hi ei=>step i a Da H' R hi ?_) λp H' ys s1 s2 s3 s4=>qJ p H' ys s1 s2 s3 (em ▸ s4)
 . rw[jJ]at ei;obtain⟨a,_,rfl⟩:=jT.mp ei;exact h H' (Same.refl H')
 . rw[jJ]at ei;obtain⟨b,h1,h2⟩:=jT.mp ei;rw[h1];exact h2
def bT{K:qu}{a:xb}{xs:List V}{H:Hp}(hS:SqL K H a xs):(∀H',Same H H'->(Itl K a).stop xs.length H')/\∀i H',i<xs.length->Same H H'->(Itl K a).go i H'/\∀x qH,(Itl K a).yld i H' x qH->x=xs.getD i .non/\qH=H':=by
 refine⟨λH' sm=>⟨xs,sm.seq hS,jG _⟩,λi H' hi sm=>⟨⟨xs,xs[i],sm.seq hS,jD hi⟩,λx qH hy=>?_⟩⟩;obtain⟨e,y⟩:=hy;refine⟨?_,e⟩;have:=y xs (sm.seq hS);rw[jN,this];rfl
def ut(hS:H a=some (.frz o (.dK kvs))):(∀H',Same H H'->(Itd a o kvs).stop kvs.length H')/\∀i H',i<kvs.length->Same H H'->(Itd a o kvs).go i H'/\∀x qH,(Itd a o kvs).yld i H' x qH->x=(kvs.map λkv=>kV kv.1).getD i .non/\qH=H':=by
 refine⟨λH' sm=>⟨sm _ _ hS,jG _⟩,λi H' hi sm=>⟨⟨sm _ _ hS,hi⟩,λx qH hy=>?_⟩⟩;obtain⟨e,kv,h1,h2⟩:=hy;refine⟨?_,e⟩;rw[jN,jJ,h1,h2];rfl
end L2
namespace L2
open PySem PySem.W PySem.Spec PyProof.Rows
section
variable {X:Cx}
theorem i3:∀{ns:qD}{its:qA},Vals (ns.map V.int) its->∃ps:List (Int×Tok),its=ps.map (λp=>Value.int p.1 p.2)/\ps.map (·.1)=ns
 | [],_,.nil=>⟨[],rfl,rfl⟩
 |n::ns,_,.cons ⟨t,e⟩ r=>by
  obtain⟨ps,h1,h2⟩:=i3 (ns:=ns) r;exact⟨(n,t)::ps,by rw[e,h1];rfl,by rw[jg,h2]⟩
theorem bU(ps:List (Int×Tok)):∀j,j<=ps.length->preSum (numAt ps.toArray) j=((ps.map (·.1)).take j).sum
 |0,_=>rfl
 |j+1,h=>by
  have hj:j<(ps.map (·.1)).length:=by rw[jC];omega
  show preSum (numAt ps.toArray) j+numAt ps.toArray j=_;rw[bU ps j 'd',jt hj,List.sum_append]
  have:numAt ps.toArray j=(ps.map (·.1))[j]:=by
   unfold numAt;rw[List.getElem?_toArray,jD 'd',List.getElem_map];rfl
  rw[this];simp
theorem i4:∀{l:qD},(∀n∈l,0<=n/\n<=B)->0<=l.sum/\l.sum<=B*l.length
 | [],_=>⟨Int.le_refl _,by simp⟩
 |a::l,h=>by
  obtain⟨h1,h2⟩:=i4 (l:=l) λn hn=>h n (jE _ hn);obtain⟨a1,a2⟩:=h a (jH ..);rw[List.sum_cons,jU];refine⟨by omega,?_⟩;have:B*((l.length+1:Nat):Int)=B*l.length+B:=by push_cast;rw[Int.mul_add,Int.mul_one]
  rw[this];omega
def uu(K:qu)(hK:X.K=K)(hc:X.calm=true):Jv X (.builtin "sum") (λxs H Q=>∃(p:xb) (ns:qD),xs=[.ref p]/\SqL K H p (ns.map V.int)/\(∀n∈ns,0<=n/\n<=10 ^ 9)/\ns.length<=1000/\Q (.int ns.sum) H):=by
 subst hK;intro qE s σ H xs us Q I r h;obtain⟨p,ns,rfl,hS,hb,hl,q⟩:=h;obtain⟨u,rfl,rx⟩:=QU r
 cases rx
 obtain⟨its,rv,pl,_⟩:=I.list hS;obtain⟨ps,rfl,rfl⟩:=i3 rv
 have hL:s.heap.IsList p (intItems ps.toArray):=by
  have:=pl.isList;unfold intItems;simpa using this
 rw[jC]at hl;refine sum_intList (show X.A.handled=none from I.ok.hd hc) hL (λj hj=>?_) λh' tk t' kp=>?_
 . have hj':j < ps.length:=by simpa using hj
   have b1:=i4 (B:=10 ^ 9) (l:=(ps.map (·.1)).take (j+1)) λn hn=>hb n (List.mem_of_mem_take hn);rw[<- bU ps (j+1) hj',jo,jC]at b1
   have e:numAt ps.toArray j=(ps.map (·.1))[j]'(by rw[jC];exact hj'):=by
    unfold numAt;rw[List.getElem?_toArray,jD hj',List.getElem_map];rfl
   have b2:=hb (numAt ps.toArray j) (e ▸ jp _);have b3:(10:Int) ^ 9*((min (j+1) ps.length:Nat):Int)<=10 ^ 9*1000:=Int.mul_le_mul_of_nonneg_left 'd' 'f';unfold InLong;omega
 . have e:preSum (numAt ps.toArray) ps.toArray.size=(ps.map (·.1)).sum:=by
    rw[bU ps _ 'j',kE 'j']
   rw[e];exact⟨.int _,H,I.kept (h':=h') (t':=tk) kp,⟨t',rfl⟩,q⟩
end
end L2
namespace L2
open PySem PySem.Spec PyProof.Rows
section
variable {X:Cx}{a b c d e f g h:Expr}{ta tb tc td te tf tg th:TE}{pos:Pos}
def uv{k l m n o p q r:Expr}{tk tl tm tn to tp tq tr:TE}(hk:PE X k tk)(ha:PE X a ta)(hl:PE X l tl)(hb:PE X b tb)(hm:PE X m tm)(hc:PE X c tc)(hn:PE X n tn)(hd:PE X d td)(ho:PE X o to)(he:PE X e te)(hp:PE X p tp)(hf:PE X f tf)(hq:PE X q tq)(hg:PE X g tg)(hr:PE X r tr)(hh:PE X h th) :
 PE X (.Dict [some k,some l,some m,some n,some o,some p,some q,some r] [a,b,c,d,e,f,g,h] pos) (bt [(tk,ta),(tl,tb),(tm,tc),(tn,td),(to,te),(tp,tf),(tq,tg),(tr,th)]) :=
 gf (Q8 hk ha (Q8 hl hb (Q8 hm hc (Q8 hn hd (Q8 ho he (Q8 hp hf (Q8 hq hg (Q8 hr hh gb)))))))) rfl rfl (List.cons_ne_nil _ _) (by show 8<=15;decide)
end
section
variable {prog:xf}{w:xh}{A:Around}{E:qk}{s:qZ}
structure TWalk (h:Heap) (it t:xb) (xs:qz) (i:Nat):Prop where
 kd:(IsTupIter h it t i/\IsTup h t xs)\/(h.IsListIter it t i/\h.IsList t xs)
 ne:t≠it
def TWalk.all(W:TWalk h it t xs i)(k:∀b o,b=it\/b=t->h.get? b=some o->h'.get? b=some o):TWalk h' it t xs i:=by
 obtain⟨⟨⟨o,e,r⟩,o2,e2,r2⟩|⟨⟨o,e,r⟩,o2,e2,r2⟩,n⟩:=W
 . exact⟨.inl ⟨⟨o,k _ _ (.inl rfl) e,r⟩,⟨o2,k _ _ (.inr rfl) e2,r2⟩⟩,n⟩
 . exact⟨.inr ⟨⟨o,k _ _ (.inl rfl) e,r⟩,⟨o2,k _ _ (.inr rfl) e2,r2⟩⟩,n⟩
def TWalk.but(W:TWalk h it t xs i)(k:Heap.ExtBut b h h')(n1:it≠b)(n2:t≠b):TWalk h' it t xs i:=W.all λc o hc e=>k c o (by rcases hc with rfl|rfl;exact n1;exact n2) e
def i6(W:TWalk s.heap it t xs i)(hx:xs[i]?=some x)
 (k:∀h',TWalk h' it t xs (i+1)->Heap.SameBut it s.heap h'->Q x { s with heap:=h' }):wpAny (model prog w) A (Builtin.SmallTypes.nextOf (.ref it)) Q E s:=by
 obtain⟨⟨⟨o,ho,hc,hd⟩,⟨ot,et,ct,mt,dt⟩⟩|⟨hit,ol,el,rl⟩,n⟩:=W
 case inr=>exact wpAny_nextOf_list_item hit ⟨ol,el,rl⟩ hx λh' a' sb=>k h' ⟨.inr ⟨a',ol,sb.extBut _ _ n el,rl⟩,n⟩ sb
 have ti:s.TypeIs (.ref it) "tuple_iterator" := ⟨o,ho,hc⟩;unfold Builtin.SmallTypes.nextOf;apply k7;apply ki (name:=Str.ofString "__next__") ti slot_tupleiter_next;apply kj slot_tupleiter_next ti entry_tupleiter_next _ (args_tupleiter_next _);apply k7 (ku ho hd (x := .ref t) rfl _);apply k7 (ku ho hd (x := .int i 0) rfl _);apply k7 (kT et dt _);dsimp only;rw[ja,hx];have b:=Heap.SameBut.update s.heap it (Obj.mapFields (·.setIfInBounds 1 (rawInt ((i:Int)+1))));dsimp only;refine k7 (kL ho hd 'j' (k8 ⟨x,rfl,k8 (k _ ⟨.inl ⟨?_,IsTup.extBut ⟨ot,et,ct,mt,dt⟩ b.extBut n⟩,n⟩ b)⟩));refine⟨_,jh _ ho (Obj.isFreed_of_fields (Obj.data_mapFields hd _)),(Obj.cls_mapFields ..).trans hc,?_⟩;rw[Obj.data_mapFields hd];simp[rawInt]
def uw(hh:A.handled=none)(W:TWalk s.heap it t xs i)(hx:xs[i]?=none)
 (k:∀h' e,Heap.ExtBut it s.heap h'->(∃o,h'.get? e=some o/\o.cls=.type "StopIteration")->E (.ref e) { s with heap:=h' }):wpAny (model prog w) A (Builtin.SmallTypes.nextOf (.ref it)) Q E s:=by
 obtain⟨⟨⟨o,ho,hc,hd⟩,⟨ot,et,ct,mt,dt⟩⟩|⟨hit,hl⟩,n⟩:=W
 case inr=>exact wpAny_nextOf_list_end hh hit hl hx k
 have ti:s.TypeIs (.ref it) "tuple_iterator" := ⟨o,ho,hc⟩;unfold Builtin.SmallTypes.nextOf;apply k7;apply ki (name:=Str.ofString "__next__") ti slot_tupleiter_next;apply kj slot_tupleiter_next ti entry_tupleiter_next _ (args_tupleiter_next _);apply k7 (ku ho hd (x := .ref t) rfl _);apply k7 (ku ho hd (x := .int i 0) rfl _);apply k7 (kT et dt _);dsimp only;rw[ja,hx];dsimp only;refine k7 (qj (k7 (kL ho hd 'j' ?_)));have b:=(Heap.SameBut.update s.heap it (Obj.mapFields (·.setIfInBounds 0 .none))).extBut;unfold Builtin.SmallTypes.stopIteration;refine k7 ?_;unfold newExc;refine k7 (wpAny_newTuple ?_);have f0:firstArgMember (.type "StopIteration") []=pure .none:=rfl;refine k7 ?_;rw[f0];refine k8 (kq ?_ (by size_fits));exact wpAny_raiseNew_none (show A.in1.handled=none from hh) (k _ _ ((b.push _).push _) ⟨_,jO _ rfl,rfl⟩)
structure ZAt (h:Heap) (z TI TO i1 i2 t1 t2:xb) (xs ys:qz) (n:Nat) (f0:qY) (f1:Bool):Prop where
 zip:h.get? z=some { cls := .type "zip",dict:=none,data := .fields #[f0,.bool f1,.bool false,.ref TI,.ref TO],slots:=#[] }
 its:h.get? TI=some { cls := .type "tuple",data := .seq #[.ref i1,.ref i2] }
 own:∃a b,h.get? TO=some { cls := .type "tuple",data := .seq #[a,b] }
 w1:TWalk h i1 t1 xs n
 w2:TWalk h i2 t2 ys n
structure ZOff (z TI TO i1 i2 t1 t2:xb):Prop where
 ne:[z,TI,TO,i1,i2].Nodup
 o1:t1∉[z,TI,TO,i1,i2]
 o2:t2∉[z,TI,TO,i1,i2]
def i8(g:s.heap.get? T=some { cls := .type "tuple",data := .seq #[a,b] })
 (k:∀h',h'.get? T=some { cls := .type "tuple",data := .seq ((#[a,b]:qz).setIfInBounds j v) }->Heap.SameBut T s.heap h'->Q () { s with heap:=h' }):wpAny (model prog w) A (updateSeq T (·.setIfInBounds j v)) Q E s :=
 wpAny_updateSeq g rfl (k _ (by rw[jh _ g rfl];simp[Obj.mapSeq]) (Heap.SameBut.update ..))
def ux{z TI TO i1 i2 t1 t2:xb}{xs ys:qz}{n:Nat}{x y:qY}{f1:Bool}{Q:qk}(D:ZOff z TI TO i1 i2 t1 t2)(Z:ZAt s.heap z TI TO i1 i2 t1 t2 xs ys n .none f1)(hx:xs[n]?=some x)(hy:ys[n]?=some y)
 (k:∀h',ZAt h' z TI TO i1 i2 t1 t2 xs ys (n+1) (rawInt s.heap.objs.size) false->h'.get? s.heap.objs.size=some { cls := .type "tuple",data := .seq #[x,y] }->h'.objs.size=s.heap.objs.size+1->(∀c o,c≠z->c≠TO->c≠i1->c≠i2->s.heap.get? c=some o->h'.get? c=some o)->Q (.ref s.heap.objs.size) { s with heap:=h' }) :
 wpAny (model prog w) A (Builtin.«zip.__next__» ⟨[.ref z],[]⟩) (λqJ s'=>∃v,qJ=.done (.ret v)/\Q v s') E s:=by
 obtain⟨gz,gi,⟨a,b,go⟩,w1,w2⟩:=Z;obtain⟨ne,o1,o2⟩:=D;simp only[jP,jB,jb,kP,not_or,j4,and_true,not_false_eq_true]at ne o1 o2;obtain⟨⟨zTI,zTO,z1,z2⟩,⟨TT,T1,T2⟩,⟨O1,O2⟩,i12⟩:=ne;unfold Builtin.«zip.__next__»;refine k7 (k8 ?_);dsimp only;refine k7 (ku gz rfl (x := .bool false) rfl ?_);refine k7 (ku gz rfl (x := .ref TI) rfl ?_);refine k7 (kT gi rfl ?_);dsimp only;rw[k9 (λc=>Bool.noConfusion c)];refine k7 ?_;unfold Builtin.SmallTypes.ownedTupleIsFree;refine k7 (ku gz rfl (x := .none) rfl (k8 ?_));rw[ke rfl];refine k7 (qj (k7 (ku gz rfl (x := .ref TO) rfl ?_)));dsimp only;refine k7 (qd gz 'j' λh1 gz1 e1=>?_);have go1:=e1.extBut _ _ (Ne.symm zTO) go;refine k7 ?_;rw[show([Value.ref i1,Value.ref i2]:qA).zipIdx=[(.ref i1,0),(.ref i2,1)] from rfl,List.forIn_cons];refine k7 (k7 (wpAny_onRaise ?_));refine k7 (i6 (w1.but e1.extBut (Ne.symm z1) o1.1) hx λh2 w12 e2=>k8 ?_);have go2:=e2.extBut _ _ O1 go1;dsimp only;refine k7 (kT go2 rfl ?_);dsimp only;refine k7 (i8 go2 λh3 go3 e3=>k7 (wpAny_letGo (k8 ?_)));dsimp only;rw[List.forIn_cons];have v2:=((w2.but e1.extBut (Ne.symm z2) o2.1).but e2.extBut (Ne.symm i12) o2.2.2.2.1).but e3.extBut (Ne.symm O2) o2.2.2.1;refine k7 (k7 (wpAny_onRaise ?_));refine k7 (i6 v2 hy λh4 w24 e4=>k8 ?_);have go4:=e4.extBut _ _ O2 go3;dsimp only;refine k7 (kT go4 rfl ?_);dsimp only;refine k7 (i8 go4 λh5 go5 e5=>k7 (wpAny_letGo (k8 ?_)));dsimp only;rw[List.forIn_nil];refine k8 ?_;dsimp only;refine k7 (kT go5 rfl ?_);dsimp only;refine k7 (wpAny_newTuple ?_ (by show(2:Nat)<=sizeLine;decide));have sz:h5.objs.size=s.heap.objs.size:=by rw[e5.1,e4.1,e3.1,e2.1,e1.1]
 have gz5:h5.get? z=some _:=e5.extBut _ _ zTO (e4.extBut _ _ z2 (e3.extBut _ _ zTO (e2.extBut _ _ z1 gz1)));have all5:∀c o,c≠z->c≠TO->c≠i1->c≠i2->s.heap.get? c=some o->h5.get? c=some o:=λc o c1 c2 c3 c4 e=>e5.extBut _ _ c2 (e4.extBut _ _ c4 (e3.extBut _ _ c2 (e2.extBut _ _ c3 (e1.extBut _ _ c1 e))));have u1:=((w12.but e3.extBut (Ne.symm O1) o1.2.2.1).but e4.extBut i12 o1.2.2.2.2).but e5.extBut (Ne.symm O1) o1.2.2.1;have u2:=w24.but e5.extBut (Ne.symm O2) o2.2.2.1;have zl:=jL gz5;refine k7 ?_;unfold Builtin.SmallTypes.ownedTupleHandOut;dsimp only;refine k7 (qd (jF _ gz5) 'j' λh7 gz7 e7=>qd gz7 'j' λh8 gz8 e8=>?_);have up:∀c o,c≠z->h5.get? c=some o->h8.get? c=some o:=λc o c1 e=>e8.extBut _ _ c1 (e7.extBut _ _ c1 (jF _ e))
 have new:h8.get? s.heap.objs.size=some { cls := .type "tuple",data := .seq #[x,y] }:=by
  rw[<- sz];exact e8.extBut _ _ (kI zl) (e7.extBut _ _ (kI zl) (jO _ rfl))
 have s8:h8.objs.size=s.heap.objs.size+1:=by rw[e8.1,e7.1,kB,sz]
 refine k8 ⟨_,rfl,?_⟩;rw[sz]at gz8 ⊢;refine k h8 ⟨gz8,up _ _ (Ne.symm zTI) (all5 _ _ (Ne.symm zTI) TT T1 T2 gi),⟨x,y,up _ _ (Ne.symm zTO) go5⟩,u1.all λc o hc e=>up c o ?_ e,u2.all λc o hc e=>up c o ?_ e⟩ new s8 λc o c1 c2 c3 c4 e=>up c o c1 (all5 c o c1 c2 c3 c4 e)
 . rcases hc with rfl | rfl
   . exact Ne.symm z1
   . exact o1.1
 . rcases hc with rfl | rfl
   . exact Ne.symm z2
   . exact o2.1
def uy{z TI TO i1 i2 t1 t2:xb}{xs ys:qz}{n:Nat}{f1:Bool}{Q:Fin->qZ->Prop}(hh:A.handled=none)(D:ZOff z TI TO i1 i2 t1 t2)(Z:ZAt s.heap z TI TO i1 i2 t1 t2 xs ys n .none f1)(hx:xs[n]?=none)
 (k:∀h' e,(∀c o,c≠z->c≠i1->s.heap.get? c=some o->h'.get? c=some o)->(∃o,h'.get? e=some o/\o.cls=.type "StopIteration")->E (.ref e) { s with heap:=h' }) :
 wpAny (model prog w) A (Builtin.«zip.__next__» ⟨[.ref z],[]⟩) Q E s:=by
 obtain⟨gz,gi,⟨a,b,go⟩,w1,w2⟩:=Z;obtain⟨ne,o1,o2⟩:=D;simp only[jP,jB,jb,kP,not_or,j4,and_true,not_false_eq_true]at ne o1 o2;obtain⟨⟨zTI,zTO,z1,z2⟩,⟨TT,T1,T2⟩,⟨O1,O2⟩,i12⟩:=ne;unfold Builtin.«zip.__next__»;refine k7 (k8 ?_);dsimp only;refine k7 (ku gz rfl (x := .bool false) rfl ?_);refine k7 (ku gz rfl (x := .ref TI) rfl ?_);refine k7 (kT gi rfl ?_);dsimp only;rw[k9 (λc=>Bool.noConfusion c)];refine k7 ?_;unfold Builtin.SmallTypes.ownedTupleIsFree;refine k7 (ku gz rfl (x := .none) rfl (k8 ?_));rw[ke rfl];refine k7 (qj (k7 (ku gz rfl (x := .ref TO) rfl ?_)));dsimp only;refine k7 (qd gz 'j' λh1 gz1 e1=>?_);refine k7 ?_;rw[show([Value.ref i1,Value.ref i2]:qA).zipIdx=[(.ref i1,0),(.ref i2,1)] from rfl,List.forIn_cons];refine k7 (k7 (wpAny_onRaise ?_));refine k7 (uw hh (w1.but e1.extBut (Ne.symm z1) o1.1) hx λh2 e e2 he=>?_);obtain⟨oe,ge,ce⟩:=he;have gz2:h2.get? z=some _:=e2 _ _ z1 gz1;have ez:e≠z:=λq=>by subst q;rw[gz2]at ge;cases ge;simp at ce
 exact qd gz2 'j' λh3 _ e3=>k h3 e (λc o c1 c2 g=>e3.extBut _ _ c1 (e2 _ _ c2 (e1.extBut _ _ c1 g))) ⟨oe,e3.extBut _ _ ez ge,ce⟩
def i9(ht:s.TypeIs (.ref z) "zip")(h:wpAny (model prog w) A.in1 (Builtin.«zip.__next__» ⟨[.ref z],[]⟩) (λqJ s'=>∃v,qJ=.done (.ret v)/\Q (some v) s') (λe s'=>s'.TypeIs e "StopIteration" /\ Q none s') s):wpAny (model prog w) A (pyNext (.ref z)) Q E s:=by
 unfold pyNext;refine k7 (qi (ki (name:=Str.ofString "__next__") ht F.slot_zip_next (kj F.slot_zip_next ht F.entry_zip_next ?_ (F.args_zip_next_1 _))));refine kx h (λqJ s' ⟨v,e,q⟩=>⟨v,e,k8 q⟩) λe s' ⟨te,q⟩=>?_;exact k7 (kU (T := "StopIteration") (b:=true) te isSubtype_stop (k8 q))
def laid(h:Heap)(os:List Obj):Heap:=os.foldl Heap.push h
def uz{h:Heap}{t1 t2:xb}(l1:t1<h.objs.size)(l2:t2<h.objs.size):ZOff (h.objs.size+4) (h.objs.size+2) (h.objs.size+3) h.objs.size (h.objs.size+1) t1 t2:=by
 have far:∀(t:xb) (k:Nat),t<h.objs.size->¬t=h.objs.size+k:=λt k l z=>js _ (jX (jk (Nat.le_of_eq z.symm) l) (ju _ _));refine⟨by simp,?_,?_⟩<;>simp only[jB,jb,kP,not_or]
 . exact⟨far _ 4 l1,far _ 2 l1,far _ 3 l1,far _ 0 l1,far _ 1 l1⟩
 . exact⟨far _ 4 l2,far _ 2 l2,far _ 3 l2,far _ 0 l2,far _ 1 l2⟩
end
section
variable {X:Cx}{qE:qr}{σ:St}{H:Hp}{s:qZ}
def Inv.turnL{t':Nat}{ch:List xb}(I:Inv X qE σ H s)(f:∀b∈ch,FpOk X qE H b)(k:∀b u,b∉ch->s.heap.get? b=some u->h'.get? b=some u):Inv X qE σ H { s with heap:=h',toks:=t' }:=by
 have off:∀b u,H b=some u->b∉ch:=λb u q z=>by rw[(f b z).1]at q;cases q
 refine I.step (g':=s.gens) (d':=s.drawn) (ch:=ch) (λb hb=>?_) (λb u _ _ hc q _=>k b u hc q) (λb u _ _ hc q _=>⟨u.slots,k b u hc q⟩) (λb u _ q n=>n)
  (λb u hc q=>⟨u,k b u hc q⟩) (λb xs q=>q) (λb _ _ q=>q) (λb ps q=>⟨#[],by rw[q];simp⟩) (λm hm=>?_) (λb u q=>?_) I.bare
 . obtain⟨_,g1,g2,g3,g4,g5⟩:=f b hb;exact⟨g3,g1,g4,g5⟩
 . obtain⟨ob,es,ep,ho,r⟩:=hm;exact⟨ob,es,ep,k _ ob (λz=>(f _ z).2.1 rfl) ho,r⟩
 . refine(I.hok b u q).stay (λc v hc z=>k c v ?_ z) (λc z=>z) λc xs z=>z;rcases hc with z | z
   . rw[z];exact off b u q
   . exact off c _ z
def Inv.turnNewL{h':Heap}{t':Nat}{ch:List xb}{a:xb}{o:HO}(I:Inv X qE σ H s)(f:∀b∈ch,FpOk X qE H b)(k:∀b u,b∉ch->s.heap.get? b=some u->h'.get? b=some u)(hp:s.heap.objs.size<=a)
 (new:ObjOk X.prog X.w (upd H a o) h' a o):Inv X qE σ (upd H a o) { s with heap:=h',toks:=t' }:=by
 have hn:H a=none:=I.hok.fresh hp;have off:∀b u,H b=some u->b∉ch:=λb u q z=>by rw[(f b z).1]at q;cases q
 refine I.step (g':=s.gens) (d':=s.drawn) (ch:=ch) (λb hb=>?_) (λb u _ _ hc q _=>k b u hc q) (λb u _ _ hc q _=>⟨u.slots,k b u hc q⟩) (λb u _ q n=>?_)
  (λb u hc q=>⟨u,k b u hc q⟩) (λb xs q=>by rw[xz (Jm q hn)];exact q) (λb _ _ q=>by rw[xz (Jm q hn)];exact q) (λb ps q=>⟨#[],by rw[xz (Jm q hn),q];simp⟩) (λm hm=>?_) (λb u q=>?_) I.bare
 . obtain⟨_,g1,g2,g3,g4,g5⟩:=f b hb;exact⟨g3,g1,g4,g5⟩
 . rw[xz (λz=>by rw[z]at q;exact absurd (jX (jL q) hp) (js _))];exact n
 . obtain⟨ob,es,ep,ho,r⟩:=hm;exact⟨ob,es,ep,k _ ob (λz=>(f _ z).2.1 rfl) ho,r⟩
 . by_cases hb:b=a
   . subst hb;rw[xm]at q;cases q;exact new
   . rw[xz hb]at q;refine(I.hok b u q).stay (λc v hc z=>k c v ?_ z) (λc z=>by rw[xz (Jm z hn)];exact z) λc xs z=>by rw[xz (Jm z hn)];exact z
     rcases hc with z|z
     . rw[z];exact off b u q
     . exact off c _ z
end
section
variable {prog:xf}{w:xh}{A:Around}{E:qk}{s:qZ}
def TWalk.listI(W:TWalk h it t xs i)(p:h.IsList t ys):h.IsListIter it t i:=by
 obtain⟨⟨_,o2,e2,c2,_⟩|⟨a,_⟩,_⟩:=W
 . obtain⟨o,e,c,_⟩:=p;rw[e2]at e;cases e;rw[c2]at c;simp at c
 . exact a
def Xh(b t1 t2:xb):List Obj:=[{ cls := .type "list_iterator",data := .fields #[.ref t1,.int 0 0] },{ cls := .type "list_iterator",data := .fields #[.ref t2,.int 0 0] },
 { cls := .type "tuple",data := .seq #[.ref b,.ref (b+1)] },{ cls := .type "tuple",data := .seq #[.none,.none] },{ cls := .type "zip",data := .fields #[.none,.bool false,.bool false,.ref (b+2),.ref (b+3)] }]
def bV{h h':Heap}{t:xb}{xs:qz}{ch:List xb}(p:h.IsList t xs)(k:∀b u,b∉ch->h.get? b=some u->h'.get? b=some u)(n:t∉ch):h'.IsList t xs:=by
 obtain⟨o,e,r⟩:=p;exact⟨o,k _ _ n e,r⟩
def Zo{h h':Heap}{t:xb}{xs:qz}(p:h.IsList t xs)(k:∀b u,h.get? b=some u->h'.get? b=some u):h'.IsList t xs:=bV (ch:=[]) p (λb u _ e=>k b u e) (jb)
def Yq{h:Heap}{t:xb}{xs:qz}(p:h.IsList t xs):t<h.objs.size:=by
 obtain⟨o,e,_⟩:=p;exact jL e
def uA(t1 t2:xb)(xs ys:qz):Meets (Builtin.«zip.__new__» ⟨[.type "zip",.ref t1,.ref t2],[]⟩) (λ_ R s=>s.heap.IsList t1 xs/\s.heap.IsList t2 ys/\R (.ok (.ret (.ref (s.heap.objs.size+4)))) { s with heap:=laid s.heap (Xh s.heap.objs.size t1 t2) }) :=
 .of_wp λprog w A R s h=>by
  obtain⟨hp,g,d,tk,os⟩:=s;obtain⟨h1,h2,h⟩:=h;have hsub:=sub_zip;have q2:Heap.IsList (Shared.heap ⟨hp.push { cls := .type "list_iterator",data := .fields #[.ref t1,.int 0 0] },g,d,tk,os⟩) t2 ys:=Zo h2 λb u e=>jF _ e;wp_walk using wpAny_pyIter_list h1,wpAny_pyIter_list q2;refine⟨_,rfl,?_⟩;dsimp only at h ⊢;simp only[kB]at h ⊢;exact h
def ic(q1:h.IsList t1 xs)(q2:h.IsList t2 ys):ZAt (laid h (Xh h.objs.size t1 t2)) (h.objs.size+4) (h.objs.size+2) (h.objs.size+3) h.objs.size (h.objs.size+1) t1 t2 xs ys 0 .none false/\(laid h (Xh h.objs.size t1 t2)).objs.size=h.objs.size+5/\∀c o,h.get? c=some o->(laid h (Xh h.objs.size t1 t2)).get? c=some o:=by
 unfold laid Xh;simp only[List.foldl];have at_:∀(h:Heap) (o:Obj) (n:Nat),o.isFreed=false->h.objs.size=n->(h.push o).get? n=some o:=λh o n f e=>by subst e;exact jO _ f
 have up:∀(h:Heap) (o o':Obj) (c:xb),h.get? c=some o'->(h.push o).get? c=some o':=λh o o' c e=>jF _ e;have l1:=Yq q1;have l2:=Yq q2;have kp:∀c o,h.get? c=some o->_:=λc o e=>up _ { cls := .type "zip",data := .fields #[.none,.bool false,.bool false,.ref (h.objs.size+2),.ref (h.objs.size+3)] } _ _ (up _ { cls := .type "tuple",data := .seq #[.none,.none] } _ _ (up _ { cls := .type "tuple",data := .seq #[.ref h.objs.size,.ref (h.objs.size+1)] } _ _ (up _ { cls := .type "list_iterator",data := .fields #[.ref t2,.int 0 0] } _ _ (up _ { cls := .type "list_iterator",data := .fields #[.ref t1,.int 0 0] } _ _ e))))
 refine⟨⟨at_ _ _ _ rfl (by simp only[kB]),up _ _ _ _ (up _ _ _ _ (at_ _ _ _ rfl (by simp only[kB]))),⟨_,_,up _ _ _ _ (at_ _ _ _ rfl (by simp only[kB]))⟩,
  ⟨.inr ⟨⟨_,up _ _ _ _ (up _ _ _ _ (up _ _ _ _ (up _ _ _ _ (at_ _ _ _ rfl rfl)))),rfl,rfl⟩,Zo q1 kp⟩,jZ l1⟩,
  ⟨.inr ⟨⟨_,up _ _ _ _ (up _ _ _ _ (up _ _ _ _ (at_ _ _ _ rfl (by simp only[kB])))),rfl,rfl⟩,Zo q2 kp⟩,λz=>js _ (jX (jk (Nat.le_of_eq z.symm) l2) (ju _ _))⟩⟩,?_,kp⟩
 simp only[kB]
def uB(q1:s.heap.IsList t1 xs)(q2:s.heap.IsList t2 ys)(k:Q (.ref (s.heap.objs.size+4)) { s with heap:=laid s.heap (Xh s.heap.objs.size t1 t2) }):wpAny (model prog w) A (call (.type "zip") [.ref t1,.ref t2]) Q E s :=
 callType_new F.called_zip 'f' (F.typeCall_zip_2 _ _) (F.newCall_zip_2 _ _) (λobj=>F.args_object_init_3 obj _ _) F.entry_zip_new (uA t1 t2 xs ys) ⟨q1,q2,⟨⟨_,(ic q1 q2).1.zip,rfl⟩,k⟩⟩
end
def Zp(K:qu)(a b:xb):It :=
 ⟨λi H=>∃xs ys x y,SqL K H a xs/\SqL K H b ys/\xs[i]?=some x/\ys[i]?=some y,λi H v H'=>∃p x y,H p=none/\v=.ref p/\(∀xs,SqL K H a xs->xs[i]?=some x)/\(∀ys,SqL K H b ys->ys[i]?=some y)/\H'=upd H p (.tup [x,y]),λi H=>∃xs ys,SqL K H a xs/\SqL K H b ys/\xs.length<=i⟩
structure ZOwnL (h:Heap) (z TI TO i1 i2 t1 t2:xb) (n:Nat) (f0:qY) (f1:Bool):Prop where
 zip:h.get? z=some { cls := .type "zip",dict:=none,data := .fields #[f0,.bool f1,.bool false,.ref TI,.ref TO],slots:=#[] }
 its:h.get? TI=some { cls := .type "tuple",data := .seq #[.ref i1,.ref i2] }
 own:∃a b,h.get? TO=some { cls := .type "tuple",data := .seq #[a,b] }
 w1:h.IsListIter i1 t1 n
 w2:h.IsListIter i2 t2 n
def ZOwnL.at_{h:Heap}{z TI TO i1 i2 t1 t2:xb}{n:Nat}{f0:qY}{f1:Bool}{xs ys:qz}(Z:ZOwnL h z TI TO i1 i2 t1 t2 n f0 f1)(D:ZOff z TI TO i1 i2 t1 t2)(a:h.IsList t1 xs)(b:h.IsList t2 ys):ZAt h z TI TO i1 i2 t1 t2 xs ys n f0 f1 :=
 ⟨Z.zip,Z.its,Z.own,⟨.inr ⟨Z.w1,a⟩,λe=>D.o1 (by simp[e])⟩,⟨.inr ⟨Z.w2,b⟩,λe=>D.o2 (by simp[e])⟩⟩
def ZAt.owL{h:Heap}{z TI TO i1 i2 t1 t2:xb}{n:Nat}{f0:qY}{f1:Bool}{xs ys:qz}(Z:ZAt h z TI TO i1 i2 t1 t2 xs ys n f0 f1)(p1:h.IsList t1 xs)(p2:h.IsList t2 ys):ZOwnL h z TI TO i1 i2 t1 t2 n f0 f1:=⟨Z.zip,Z.its,Z.own,Z.w1.listI p1,Z.w2.listI p2⟩
def ZOwnL.keep{h h':Heap}{z TI TO i1 i2 t1 t2:xb}{n:Nat}{f0:qY}{f1:Bool}(Z:ZOwnL h z TI TO i1 i2 t1 t2 n f0 f1)(k:∀b∈[z,TI,TO,i1,i2],∀o,h.get? b=some o->h'.get? b=some o):ZOwnL h' z TI TO i1 i2 t1 t2 n f0 f1:=by
 obtain⟨a,b,⟨c,d,e⟩,⟨o1,f,g⟩,⟨o2,f2,g2⟩⟩:=Z;exact⟨k _ 'j' _ a,k _ 'j' _ b,⟨c,d,k _ 'j' _ e⟩,⟨o1,k _ 'j' _ f,g⟩,⟨o2,k _ 'j' _ f2,g2⟩⟩
def ie{h:Heap}{z TI TO i1 i2 t1 t2:xb}{n:Nat}{f0:qY}{f1:Bool}(st:ZOwnL h z TI TO i1 i2 t1 t2 n f0 f1)(c:xb)(hc:c∈[z,TI,TO,i1,i2]):∃o,h.get? c=some o/\∀v,o.data ≠ .cell v:=by
 obtain⟨e1,e2,⟨u,v,e3⟩,⟨o4,e4,_,d4⟩,⟨o5,e5,_,d5⟩⟩:=st;simp only[jB,jb,kP]at hc;rcases hc with rfl|rfl|rfl|rfl|rfl
 . exact⟨_,e1,λv z=>by cases z⟩
 . exact⟨_,e2,λv z=>by cases z⟩
 . exact⟨_,e3,λv z=>by cases z⟩
 . exact⟨_,e4,λv z=>by rw[d4]at z;cases z⟩
 . exact⟨_,e5,λv z=>by rw[d5]at z;cases z⟩
theorem uC{P:xf}{w:xh}{K:qu}{elts:List Expr}{x1}{pos:Pos}(a b z TI TO i1 i2:xb)(D:ZOff z TI TO i1 i2 a b):Turn P w K (.Tuple elts x1 pos) (Zp K a b) [z,TI,TO,i1,i2] z (λi h=>ZOwnL h z TI TO i1 i2 a b i .none false) where
 mem:=by simp
 obj:=λi h st c hc=>ie st c hc
 keep:=λi h h' Z k=>Z.keep k
 item:=by
  intro X hP hw hK hc i qE s σ H E I hf Z hg;subst hP hw hK;obtain⟨xs,ys,x,y,qx,qy,hx,hy⟩:=hg;obtain⟨it1,r1,p1,_⟩:=I.list qx;have p1:=p1.isList;obtain⟨it2,r2,p2,_⟩:=I.list qy;have p2:=p2.isList;obtain⟨u,hu,ru⟩:=r1.get hx;obtain⟨v,hv,rv⟩:=r2.get hy;refine i9 ⟨_,Z.zip,rfl⟩ (ux D (Z.at_ D p1 p2) (x:=u) (y:=v) (by simpa using hu) (by simpa using hv) λh' Z' new sz al=>⟨_,rfl,wpAny_letOwnedTupleGo_zip (s:={ s with heap:=h' }) Z'.zip λh2 z2 e2=>?_⟩);have e2:Heap.SameBut z h' h2:=e2;have lz:z<s.heap.objs.size:=jL Z.zip;have k1:∀c o,c∉[z,TI,TO,i1,i2]->s.heap.get? c=some o->h'.get? c=some o:=λc o hc q=>al c o (λe=>hc (by simp[e])) (λe=>hc (by simp[e])) (λe=>hc (by simp[e])) (λe=>hc (by simp[e])) q;have k2:∀c o,c∉[z,TI,TO,i1,i2]->s.heap.get? c=some o->h2.get? c=some o:=λc o hc q=>e2.extBut c o (λe=>hc (by simp[e])) (k1 c o hc q);have new2:h2.get? s.heap.objs.size=some { cls := .type "tuple",data := .seq #[u,v] }:=e2.extBut _ _ (kI lz) new;have fr:H s.heap.objs.size=none:=I.hok.fresh (jG _);have I2:Inv X qE σ (upd H s.heap.objs.size (.tup [x,y])) { s with heap:=h2,toks:=s.toks }:=I.turnNewL hf k2 (jG _) ⟨by show 2<=sizeLine;decide,[u,v],.cons ru (.cons rv .nil),⟨_,new2,rfl,_,rfl⟩⟩;refine⟨.ref s.heap.objs.size,_,I2,rfl,⟨_,x,y,fr,rfl,λzs hz=>by rw[I.list_inj hz qx];exact hx,λzs hz=>by rw[I.list_inj hz qy];exact hy,rfl⟩,?_,λc hc=>?_⟩
  . have ne:=D.ne;simp only[jP,jB,jb,kP,not_or,j4,and_true,not_false_eq_true]at ne;obtain⟨⟨zTI,zTO,z1,z2'⟩,_⟩:=ne;obtain⟨p,q,ow⟩:=Z'.own;exact⟨z2,e2.extBut _ _ (Ne.symm zTI) Z'.its,⟨p,q,e2.extBut _ _ (Ne.symm zTO) ow⟩,(Z'.w1.listI (bV p1 k1 D.o1)).extBut e2.extBut (Ne.symm z1),(Z'.w2.listI (bV p2 k1 D.o2)).extBut e2.extBut (Ne.symm z2')⟩
  . have lc:c < s.heap.objs.size:=by
     obtain⟨o,go,_⟩:=(ie Z) c hc;exact jL go
    rw[xz (jZ lc)];exact(hf c hc).1
 done:=by
  intro X hP hw hK hc i qE s σ H E I hf Z hg;subst hP hw hK;obtain⟨xs,ys,qx,qy,hx⟩:=hg;obtain⟨it1,r1,p1,_⟩:=I.list qx;have p1:=p1.isList;obtain⟨it2,r2,p2,_⟩:=I.list qy;have p2:=p2.isList;have hl:=r1.length;refine i9 ⟨_,Z.zip,rfl⟩ (uy (I.ok.hd hc) D (Z.at_ D p1 p2) (by simp;omega) λh' e al he=>⟨?_,rfl,I.turnL (t':=s.toks) hf λb u hb q=>al b u ?_ ?_ q⟩)
  . obtain⟨o,g,c⟩:=he;exact⟨o,g,c⟩
  . exact λz=>hb (by simp[z])
  . exact λz=>hb (by simp[z])
 self:=λ_ _ _ _ _ Z h=>wpAny_pyIter_zip Z.zip h
def uD(K:qu)(ta:TA):TI:=λσ H R=>ta σ H λvs H1=>∃a b,vs=[.ref a,.ref b]/\(∃xs ys,SqL K H1 a xs/\SqL K H1 b ys)/\R (Zp K a b) H1
section
variable {X:Cx}
def uE{elts:List Expr}{x1}{tp:Pos}{ta:TA}{p pos:Pos}(K:qu)(hK:X.K=K)(hg:Gl X "zip")(hm:X.mg "zip" = none)(hv:bootBuiltins "zip" = some (.type "zip"))(ha:PA X [e1,e2] ta)
 (he:starEach [e1,e2] X.env=(false,eval e1 X.env)::starEach [e2] X.env:=by rfl) (qW:(backTo pos (starEach [e2] X.env)).any (·.1)=false:=by rfl):PI X (.Tuple elts x1 tp) (.Call (.Name "zip" p) [e1,e2] [] pos) (uD K ta):=by
 subst hK;intro qE s σ H R I h;refine Call_ (Xe I hg hm hv (PyProof.Rows.callWith_type1 (thn (ha pos qE s σ H _ I h) λus s1 c9=>?_) he qW));obtain⟨vs,H1,I1,r1,q1⟩:=c9;obtain⟨a,b,rfl,⟨xs,ys,qa,qb⟩,q⟩:=q1;obtain⟨_,_,rfl,ra,rb⟩:=Xz r1
 cases ra
 cases rb
 obtain⟨ik,rk,pa,_⟩:=I1.list qa;obtain⟨iv,rv,pb,_⟩:=I1.list qb;have pa:=pa.isList;have pb:=pb.isList;refine uB pa pb ?_;obtain⟨Z,sz,kz⟩:=ic pa pb;have D:=uz (Yq pa) (Yq pb);refine wpAny_pyIter_zip (s:={ s1 with heap:=laid s1.heap (Xh s1.heap.objs.size a b) }) Z.zip ?_;refine⟨s1.heap.objs.size+4,[s1.heap.objs.size+4,s1.heap.objs.size+2,s1.heap.objs.size+3,s1.heap.objs.size,s1.heap.objs.size+1],_,_,H1,rfl,I1.kept (t':=s1.toks) kz,uC a b _ _ _ _ _ D,Z.owL (Zo pa kz) (Zo pb kz),λc hc=>?_,q⟩
 have le:s1.heap.objs.size<=c:=by
  simp only[jB,jb,kP]at hc;rcases hc with rfl|rfl|rfl|rfl|rfl<;>first|exact jG _|exact ju _ _
 exact I1.fpOk le (I1.hok.fresh le)
end
def uF{K:qu}{a b:xb}{xs ys:List V}{g:TG}{tb:TS}{D:Ends}{σ:St}{H:Hp}(Pv:Nat->St->Hp->Prop)(qP:xs.length<=ys.length)(h0:Pv 0 σ H)(hl:∀i σ H,i<=xs.length->Pv i σ H->SqL K H a xs/\SqL K H b ys)
 (hs:∀i x y p σ H,xs[i]?=some x->ys[i]?=some y->Pv i σ H->H p=none->g (.ref p) σ (upd H p (.tup [x,y])) λσ2 H2=>tb { D with nx:=Pv (i+1),ct:=Pv (i+1),bk:=D.nx } σ2 H2) (hd:∀σ H,Pv xs.length σ H->D.nx σ H) :
 ∃W:Nat->Nat->St->Hp->Prop,(∃m,W 0 m σ H)/\∀i m σ H,W i m σ H ->
  ((Zp K a b).stop i H/\D.nx σ H)\/((Zp K a b).go i H/\∃N:St->Hp->Prop,(∀qI H',N qI H'->∃m',m'<m/\W (i+1) m' qI H')/\∀x H',(Zp K a b).yld i H x H'->g x σ H' λσ2 H2=>tb { D with nx:=N,ct:=N,bk:=D.nx } σ2 H2):=by
 refine⟨λi m σ H=>m=xs.length - i/\i<=xs.length/\Pv i σ H,⟨xs.length,by simp,jS _,h0⟩,?_⟩;rintro i m σ H ⟨rfl,hi,p⟩;obtain⟨q1,q2⟩:=hl i σ H hi p
 by_cases qS:i<xs.length
 . refine .inr ⟨⟨xs,ys,xs[i],ys[i]'(by omega),q1,q2,jD qS,jD _⟩,Pv (i+1),λqI H' p'=>⟨xs.length - (i+1),by omega,rfl,qS,p'⟩,λx H' y=>?_⟩;obtain⟨pp,u,v,np,ex,eu,ev,eH⟩:=y;subst ex eH;exact hs i u v pp σ _ (eu xs q1) (ev ys q2) p np
 . have e:i=xs.length:=by omega
   subst e;exact .inl ⟨⟨_,_,q1,q2,jG _⟩,hd σ H p⟩
section
variable {P:xf}{w:xh}{H H':Hp}{h h1 h2 B:Heap}{a:xb}{o:HO}
def ObjOk.has(x:ObjOk P w H h a o):∃ob,h.get? a=some ob:=by
 cases o with
 |lst xs=>obtain⟨_,_,_,_,e⟩:=x;exact⟨_,e⟩
 |tup xs=>obtain⟨_,_,_,ob,e,_⟩:=x;exact⟨ob,e⟩
 |dK kvs=>obtain⟨_,_,_,_,ob,_,_,e,_⟩:=x;exact⟨ob,e⟩
 |dT kvs=>obtain⟨_,_,_,_,ob,_,_,e,_⟩:=x;exact⟨ob,e⟩
 |set S n=>obtain⟨ob,_,_,_,e,_⟩:=x;exact⟨ob,e⟩
 |ins C dx fs=>obtain⟨_,_,_,e,_⟩:=x;exact⟨_,e⟩
 |own y=>exact x
 |xd fs=>obtain⟨_,⟨ob,_,_,e,_⟩,_⟩:=x;exact⟨ob,e⟩
 |rng lo hi=>obtain⟨_,_,_,e⟩:=x;exact⟨_,e⟩
 |frz ob u=>obtain⟨e,_⟩:=x;exact⟨ob,e⟩
 |tbl ps=>exact⟨_,(show h.get? a=some _ from x)⟩
 |met f y=>exact⟨_,(show h.get? a=some _ from x)⟩
 |ext φ=>obtain⟨_,e,_⟩:=x;exact e
def HOk.fly(x:HOk P w H h)(hB:∀b ob,h.get? b=some ob->(H b).isSome=true->B.get? b=some ob)(k:B.StaysIn h2):HOk P w H h2:=λa o e =>
 (x a o e).stay (λb u hb q=>k b u (hB b u q (by rcases hb with rfl|hb<;>first|(rw[e];rfl)|(rw[hb];rfl)))) (λ_ q=>q) λ_ _ q=>q
theorem Un.fly(u:Un fs [] H H' h h1)(hB:∀b ob,h1.get? b=some ob->((H' b).isSome=true\/(h.get? b).isSome=true)->b∉fs->B.get? b=some ob)(k:B.StaysIn h2)
 (hf:∀b∈fs,∀ob,h1.get? b=some ob->∃sl,h2.get? b=some { ob with slots:=sl }):Un fs [] H H' h h2 where
 keep:=λb ob e n hb hx=>k b ob (hB b ob (u.keep b ob e n hb hx) (.inr (by rw[e];rfl)) hb)
 slot:=λb ob e n hb hx=>by
  obtain⟨sl,e1⟩:=u.slot b ob e n hb hx;obtain⟨sl',e2⟩:=hf b hb _ e1;exact⟨sl',e2⟩
 free:=u.free
 there:=λb ob e hx=>by
  obtain⟨o',e1⟩:=u.there b ob e hx
  by_cases hb:b∈fs
  . obtain⟨sl,e2⟩:=hf b hb _ e1;exact⟨_,e2⟩
  . exact⟨o',k b o' (hB b o' e1 (.inr (by rw[e];rfl)) hb)⟩
 tups:=u.tups
 frzs:=u.frzs
 tbls:=u.tbls
end
section
variable {X:Cx}{qE:qr}{σ:St}{H:Hp}{s:qZ}
def Inv.off(I:Inv X qE σ H s)(h:(H b).isSome=true\/(X.s₀.heap.get? b).isSome=true)(hb:b∉X.fs):b∉frs X.stack:=λz=>by
 rcases jB.mp (I.stkSub b z) with q|q
 . rcases h with h | h
   . rw[q,I.free]at h;cases h
   . obtain⟨ob,e⟩:=jl.mp h;exact absurd (jL e) (by rw[q];exact Nat.not_lt.mpr I.ok.above)
 . exact hb q
def Inv.noFr(I:Inv X qE σ H s)(h:(H b).isSome=true):b∉frs X.stack:=λz=>by
 rw[I.stkFree b z]at h;cases h
def Inv.old(I:Inv X qE σ H s)(hx:X.ex=[])(h:(H b).isSome=true\/(X.s₀.heap.get? b).isSome=true):∃ob,s.heap.get? b=some ob:=by
 rcases h with h|h
 . obtain⟨u,e⟩:=jl.mp h;exact(I.hok b u e).has
 . obtain⟨ob,e⟩:=jl.mp h;exact I.base.there b ob e (by rw[hx];exact λz=>nomatch z)
end
end L2
namespace L2
open PySem PySem.Spec
inductive TyS (K:qu) (H:Hp):V->qY->Prop where
 |int (i:Int):TyS K H (.int i) (.type "int")
 |str (x:Str):TyS K H (.str x) (.type "str")
 |tup {a:xb}{xs:List V} (h:SqT K H a xs):TyS K H (.ref a) (.type "tuple")
 |lst {a:xb}{xs:List V} (h:SqL K H a xs):TyS K H (.ref a) (.type "list")
section
variable {X:Cx}
def uG(K:qu)(hK:X.K=K):Jv X (.builtin "isinstance") (λxs H Q=>∃x p n1 n2 t b,xs=[x,.ref p]/\H p=some (.tup [.ty n1,.ty n2])/\TyS K H x t/\PySem.W.kitAny K t [.type n1,.type n2]=some b/\Q (.bl b) H):=by
 subst hK;intro qE s σ H xs us Q I r h;obtain⟨x,p,n1,n2,t,b,rfl,hp,ty,e,q⟩:=h;obtain⟨u,w',rfl,rx,rc⟩:=Xz r
 cases (show w'=Value.ref p from rc)
 obtain⟨_,its,rv,o,g1,g2,n,g3⟩:=(show ObjOk X.prog X.w H s.heap p (.tup [.ty n1,.ty n2]) from I.hok p _ hp);obtain⟨u1,u2,rfl,r1,r2⟩:=Xz rv
 cases (show u1=Value.type n1 from r1)
 cases (show u2=Value.type n2 from r2)
 obtain⟨cls,dict,data,slots⟩:=o
 cases g2
 cases g3
 have qJ:∀tk,EP X qE σ Q (.bool b) { s with toks:=tk }:=λtk=>⟨.bl b,H,I.tok _,rfl,q⟩
 cases ty with
 |int i=>obtain⟨t,rfl⟩:=(show ∃t,u=Value.int i t from rx);exact PySem.W.kia_tup PySem.W.kitx_int I.kIn True.intro g1 e (λz=>nomatch z) qJ
 |str y=>obtain⟨t,rfl⟩:=(show ∃t,u=Value.str y t from rx);exact PySem.W.kia_tup PySem.W.kitx_str I.kIn True.intro g1 e (λz=>nomatch z) qJ
 |tup hs =>
  cases rx
  obtain⟨its,_,⟨o,h1,h2,_⟩,_⟩:=I.tuple hs;exact PySem.W.kia_tup PySem.W.kitx_tuple I.kIn ⟨o,h1,h2⟩ g1 e (λz=>nomatch z) qJ
 |lst hs =>
  cases rx
  obtain⟨its,_,pl,_⟩:=I.list hs;obtain⟨o,h1,h2,_⟩:=pl.isList;exact PySem.W.kia_tup PySem.W.kitx_list I.kIn ⟨o,h1,h2⟩ g1 e (λz=>nomatch z) qJ
end
end L2
namespace L2
open PySem PySem.Spec PyProof.Rows
abbrev uH(C:xb)(od:Option xb)(t:xb):Obj:=⟨.ref C,od,.fields #[.ref t,.none,.none,.none,.bool false,.none],#[]⟩
def TrD(h base:Heap)(e:xb)(c:qY)(od:Option xb)(fl:qY):Prop :=
 ∃(vs:qz) (sl:Array (qv)) (T:xb) (oT:Obj) (ts:qz),h.get? e=some ⟨c,od,.fields vs,sl⟩/\vs[1]?=some (.ref T)/\base.get? T=none/\T≠e/\h.get? T=some oT/\oT.data=.fields ts/\ts[3]?=some fl
def Qu(base:Heap)(l:List Env)(e:xb)(c:qY)(od:Option xb)(fl:qY)(h:Heap):Prop:=base.StaysIn h/\base.get? e=none/\h.FunFrames base l/\TrD h base e c od fl
section
variable {M:Model}{A:Around}{E:qk}{s:qZ}{base:Heap}{env:Env}{outer l:List Env}{L e:xb}{c fl:qY}{od:Option xb}{vs:qz}{sl:Array (qv)}
def ig(fr:A.frames=some (env::outer))(ff:s.heap.FunFrames base (env::outer))(fe:env.frame=some L)(qe:s.heap.get? e=some ⟨c,od,.fields vs,sl⟩)(kb:base.StaysIn s.heap)(nb:base.get? e=none)(sz:1<vs.size)
 (k:∀h',Qu base (env::outer) e c od (rawInt L) h'->s.heap.UpToSlots h'->Q () { s with heap:=h' }) :
 wpAny M A (do let a <- frameOf env;let pl <- entryPlaceOf L had;let b <- EntryCells.newEntry head a .none (rawInt L) .none pl;setField (.ref e) 1 b) Q E s:=by
 have ne:e∉(env::outer).filterMap (·.frame):=λz=>by
  obtain⟨_,o,ho,hn⟩:=ff.mem z;rw[qe]at ho;cases ho;exact hn vs rfl
 refine k7 (wpAny_frameOf_fun fr ff fe λg sg=>?_);refine k7 (wpAny_entryPlaceOf λpl ip=>?_);unfold EntryCells.newEntry newFields;refine k7 (kq ?_ (ip.sizeOk5 _ _ _ _ _));have q1:g.get? e=some ⟨c,od,.fields vs,sl⟩:=(sg.2.1 e ne).trans qe;have b1:base.StaysIn g:=λb o z=>(sg.2.1 b λm=>by rw[(ff.mem m).1]at z;cases z).trans (kb b o z);generalize hob:([head,Value.ref L,Value.none,rawInt L,Value.none]++(if pl.isEmpty then List.replicate 6 Value.none else pl)).toArray=cells;have c3:cells[3]?=some (rawInt L):=by rw[<- hob];simp
 obtain⟨tb,etb⟩:∃tb:Obj,tb={ cls := .type "traceback",dict:=none,data := .fields cells }:=⟨_,rfl⟩;rw[<- etb];have q2:=jF (h:=g) tb q1;have nt:g.objs.size≠e:=kI (jL q1);refine kL q2 rfl sz (k _ ?_ ?_)
 all_goals
  obtain⟨g3,eg3⟩:∃g3,g3=(g.push tb).update e (Obj.mapFields (·.setIfInBounds 1 (Value.ref g.objs.size))):=⟨_,rfl⟩;rw[<- eg3];have q3:g3.get? e=some ⟨c,od,.fields (vs.setIfInBounds 1 (Value.ref g.objs.size)),sl⟩:=by rw[eg3];exact jh _ q2 rfl
  have t3:g3.get? g.objs.size=some tb:=by rw[eg3,jm _ _ (Ne.symm nt)];exact jO g (by rw[etb];rfl)
  have kp:∀b o,b≠e->g.get? b=some o->g3.get? b=some o:=λb o hb z=>by rw[eg3,jm _ _ (Ne.symm hb)];exact jF _ z
  have nr:∀b o,s.heap.get? b=some o->(∀ws,o.data ≠ .fields ws)->b≠e:=λb o z hn q=>by
   rw[q,qe]at z;cases z;exact hn vs rfl
 . refine⟨λb o z=>kp b o (λq=>by rw[q,nb]at z;cases z) (b1 b o z),nb,ff.of_keeps λb o z hn=>?_,?_⟩
   . obtain⟨sl',z'⟩:=sg.2.2 b o z;exact⟨_,kp b _ (nr b o z hn) z',rfl⟩
   . exact⟨_,sl,g.objs.size,tb,cells,q3,by simp[sz],b1.fresh,nt,t3,by rw[etb],c3⟩
 . intro b o z hn;obtain⟨sl',z'⟩:=sg.2.2 b o z;exact⟨sl',kp b _ (nr b o z hn) z'⟩
def uI(f:Qu base l e c od fl s.heap)(k:∀h',Qu base l e c od .none h'->s.heap.UpToSlots h'->Q () { s with heap:=h' }):wpAny M A (setFlight (.ref e) none) Q E s:=by
 obtain⟨kb,nb,ff,vs,sl,T,oT,ts,qe,q1,nT,ne,qT,dT,q3⟩:=f;have z3:3<ts.size:=(j5.mp q3).1;unfold setFlight;refine k7 (ku qe rfl q1 ?_);rw[ke (show(Value.ref T != Value.none)=true from by simp)];have ot:∀b,b≠T->(s.heap.update T (Obj.mapFields (·.setIfInBounds 3 Value.none))).get? b=s.heap.get? b:=λb hb=>jm _ _ (Ne.symm hb)
 have nr:∀b o,s.heap.get? b=some o->(∀ws,o.data ≠ .fields ws)->b≠T:=λb o z hn q=>by
  rw[q,qT]at z;cases z;exact hn ts dT
 refine kL qT dT z3 (k _ ⟨λb o z=>(ot b λq=>by rw[q,nT]at z;cases z).trans (kb b o z),nb,ff.of_keeps λb o z hn=>⟨o,(ot b (nr b o z hn)).trans z,rfl⟩,?_⟩ λb o z hn=>⟨o.slots,(ot b (nr b o z hn)).trans z⟩);exact⟨vs,sl,T,_,_,(ot e (Ne.symm ne)).trans qe,q1,nT,ne,jh _ qT (Obj.isFreed_of_fields (Obj.data_mapFields dT _)),Obj.data_mapFields dT _,by simp[z3]⟩
def uJ(fr:A.frames=some (env::outer))(fe:env.frame=some L)(f:Qu base (env::outer) e c od .none s.heap)(k:∀h',Qu base (env::outer) e c od (rawInt L) h'->s.heap.UpToSlots h'->Q () { s with heap:=h' }):wpAny M A (noteFrame (.ref e) env) Q E s:=by
 obtain⟨kb,nb,ff,vs,sl,T,oT,ts,qe,q1,nT,ne,qT,dT,q3⟩:=f;unfold noteFrame;simp only[fe];refine k7 (ku qe rfl q1 ?_);rw[ke (show(Value.ref T != Value.none)=true from by simp)];refine k7 (ku qT dT q3 ?_);rw[k9 (show ¬((Value.none==rawInt L)=true) from by simp[rawInt])];refine k7 (kL qT dT (j5.mp q3).1 ?_);have ot:∀b,b≠T->(s.heap.update T (Obj.mapFields (·.setIfInBounds 3 Value.none))).get? b=s.heap.get? b:=λb hb=>jm _ _ (Ne.symm hb)
 have nr:∀b o,s.heap.get? b=some o->(∀ws,o.data ≠ .fields ws)->b≠T:=λb o z hn q=>by
  rw[q,qT]at z;cases z;exact hn ts dT
 refine ig fr (ff.of_keeps λb o z hn=>⟨o,(ot b (nr b o z hn)).trans z,rfl⟩) fe ((ot e (Ne.symm ne)).trans qe) (λb o z=>(ot b λq=>by rw[q,nT]at z;cases z).trans (kb b o z)) nb (j5.mp q1).1 λh' f' sm=>k h' f' λb o z hn=>sm b o ((ot b (nr b o z hn)).trans z) hn
end
def CXD(P:xf)(w:xh):CXT:=λouter H s E ev s'=>∃(e C:xb) (od:Option xb) (B:Heap) (H':Hp),ev=.ref e/\s'.os=s.os/\AllBare s'.gens/\Un (frs outer) [] H H' s.heap s'.heap/\HOk P w H' s'.heap /\
 Qu B outer e (.ref C) od .none s'.heap/\(∀b ob,s'.heap.get? b=some ob->((H' b).isSome=true\/(s.heap.get? b).isSome=true)->b∉frs outer->B.get? b=some ob)/\H' e=none/\E (.ref C) od H'
def ii:JX (CXD P w) X E0:=by rintro _ _ _ _ _ _ _ ⟨_,_,_,_,_,_,_,_,_,_,_,_,_,h⟩;exact h.elim
structure Def2 (P:xf) (w:xh) (K:qu) (mg:qm) (base:Heap) (x:Str) (k:Nat) (ps:qB) (sp:Sp):Prop where
 ex:∃f fd,FnOk P w K mg base (CXD P w) k f fd ps sp/\Binds K fd ps []/\PySem.W.keepIn K (.ref f)=true/\mg x=some (.ref f)
section
variable {P:xf}{w:xh}{K:qu}{mg:qm}{base:Heap}
def Fn.ok2{x:Str}{st:Stmt}{N ps:qB}{k:Nat}{sp:Sp}(F:Fn K mg x st ps)(S:FnScope N ps (defScope st))(len:∀vs H Q E,sp vs H Q E->vs.length=ps.length)
 (qQ:∀(f:xb) (qF:qY) (A:Around) (outer:List Env) (s:qZ) (H:Hp) (vs:List V) (Q:VK) (E:XK),Room k (A.deeper (envOfC x (defScope st) s.heap.objs.size f qF))->sp vs H Q E ->
  ∃t,PSs (Q7 (CXD P w) P w K mg base N x (defScope st) f qF A outer s H E) (defBody st) t/\t { nx:=λ_ H'=>Q .non H',rt:=Q } (J2 N vs) H):Def2 P w K mg base x (k+1) ps sp:=by
 obtain⟨f,fd,FF,b,m⟩:=F.ex;have kp:=FF.kp;obtain⟨oc,od,kV,qX,pm,an,qF,ct,osl,rfl,lk,hcd⟩:=FF.ex;exact⟨f,_,bc lk hcd S len λA outer s H vs Q E hr hsp=>qQ f qF A outer s H vs Q E hr hsp,b,kp,m⟩
end
section
variable {X:Cx}{k j:Nat}{ps:qB}{sp:Sp}{x:Str}{p pos:Pos}{e:Expr}{es:List Expr}{t:TA}{E:XK}
def ij(D:Def2 X.prog X.w X.K X.mg X.base x j ps sp)(hr:Room k X.A)(hg:Gl X x)(hx:JX (CXD X.prog X.w) X E)(ha:PA X (e::es) t)(hjk:j<=k:=by decide)(hdb:(x==("__debug__" : Str))=false:=by decide)
 (he:starEach (e::es) X.env=(false,eval e X.env)::starEach es X.env:=by rfl) (qW:(backTo pos (starEach es X.env)).any (·.1)=false:=by rfl) :
 PE X (.Call (.Name x p) (e::es) [] pos) (Zb sp [] E t):=by
 obtain⟨f,fd,F,b,kp,m⟩:=D.ex;exact ft F (hr.mono hjk) hg m kp b .nil hx ha hdb he qW
end
def TrI(h B:Heap)(e:xb)(C:xb)(od:Option xb)(L:xb):Prop:=(∃t,h.get? e=some (uH C od t))\/TrD h B e (.ref C) od .none\/TrD h B e (.ref C) od (rawInt L)
structure InF (X:Cx) (B:Heap) (H':Hp) (e:xb) (s':qZ):Prop where
 os:s'.os=X.s₀.os
 bare:AllBare s'.gens
 un:Un (frs X.outer) [] X.H₀ H' X.s₀.heap s'.heap
 hok:HOk X.prog X.w H' s'.heap
 kb:B.StaysIn s'.heap
 nb:B.get? e=none
 ff:s'.heap.FunFrames B X.stack
 inB:∀b ob,s'.heap.get? b=some ob->((H' b).isSome=true\/(X.s₀.heap.get? b).isSome=true)->b∉frs X.outer->B.get? b=some ob
 inH:∀b ob,s'.heap.get? b=some ob->(H' b).isSome=true->B.get? b=some ob
 fr:∀b∈frs X.outer,b∈X.stack.filterMap (·.frame)
def InF.step(I:InF X B H' e s')(k1:B.StaysIn h2)(ff2:h2.FunFrames B X.stack)(sm:s'.heap.UpToSlots h2):InF X B H' e { s' with heap:=h2 }:=by
 refine⟨I.os,I.bare,Un.fly I.un I.inB k1 (λb hb ob q=>?_),HOk.fly I.hok I.inH k1,k1,I.nb,ff2,λb ob q c nb=>?_,λb ob q c=>?_,I.fr⟩
 . obtain⟨_,o',ho',hnf⟩:=I.ff.mem (I.fr b hb);rw[q]at ho';cases ho';exact sm b ob q hnf
 . have:∃o1,s'.heap.get? b=some o1:=by
    rcases c with c|c
    . obtain⟨u,z⟩:=jl.mp c;exact(I.hok b u z).has
    . obtain⟨o,z⟩:=jl.mp c;exact I.un.there b o z (λz=>nomatch z)
   obtain⟨o1,e1⟩:=this;have z:=I.inB b o1 e1 c nb;have:=k1 b o1 z;rw[q]at this;cases this;exact z
 . obtain⟨u,z⟩:=jl.mp c;obtain⟨o1,e1⟩:=(I.hok b u z).has;have z:=I.inH b o1 e1 c;have:=k1 b o1 z;rw[q]at this;cases this;exact z
def im(X:Cx)(E:XK)(ev:qY)(s':qZ):Prop:=∃(e C:xb) (od:Option xb) (B:Heap) (H':Hp),ev=.ref e/\InF X B H' e s'/\TrI s'.heap B e C od X.env.locals/\H' e=none/\E (.ref C) od H'
section
variable {M:Model}{A:Around}{E:qk}{s:qZ}{base:Heap}{env:Env}{outer l:List Env}{L e C:xb}{c fl:qY}{od:Option xb}
def io(fr:A.frames=some (env::outer))(fe:env.frame=some L)(kb:base.StaysIn s.heap)(nb:base.get? e=none)(ff:s.heap.FunFrames base (env::outer))(tr:TrI s.heap base e C od L)(k:∀h',Qu base (env::outer) e (.ref C) od (rawInt L) h'->s.heap.UpToSlots h'->Q () { s with heap:=h' }):wpAny M A (noteFrame (.ref e) env) Q E s:=by
 rcases tr with ⟨t,he⟩|tr|tr
 . unfold noteFrame;simp only[fe];refine k7 (ku he rfl (x := .none) rfl ?_);rw[k9 'f'];exact ig fr ff fe he kb nb (by show 1<6;decide) k
 . exact uJ fr fe ⟨kb,nb,ff,tr⟩ k
 . have f:Qu base (env::outer) e (.ref C) od (rawInt L) s.heap:=⟨kb,nb,ff,tr⟩;obtain⟨vs,sl,T,oT,ts,qe,q1,nT,ne,qT,dT,q3⟩:=tr;unfold noteFrame;simp only[fe];refine k7 (ku qe rfl q1 ?_);rw[ke (show(Value.ref T != Value.none)=true from by simp)];refine k7 (ku qT dT q3 ?_);rw[ke (show(rawInt L==rawInt L)=true from by simp)];exact k8 (k s.heap f (Heap.UpToSlots.refl _))
def uK(f:Qu base l e c od fl s.heap)(k:∀h',Qu base l e c od (rawInt L) h'->s.heap.UpToSlots h'->Q () { s with heap:=h' }):wpAny M A (setFlight (.ref e) (some L)) Q E s:=by
 obtain⟨kb,nb,ff,vs,sl,T,oT,ts,qe,q1,nT,ne,qT,dT,q3⟩:=f;have z3:3<ts.size:=(j5.mp q3).1;unfold setFlight;refine k7 (ku qe rfl q1 ?_);rw[ke (show(Value.ref T != Value.none)=true from by simp)];have ot:∀b,b≠T->(s.heap.update T (Obj.mapFields (·.setIfInBounds 3 (rawInt L)))).get? b=s.heap.get? b:=λb hb=>jm _ _ (Ne.symm hb)
 have nr:∀b o,s.heap.get? b=some o->(∀ws,o.data ≠ .fields ws)->b≠T:=λb o z hn q=>by
  rw[q,qT]at z;cases z;exact hn ts dT
 refine kL qT dT z3 (k _ ⟨λb o z=>(ot b λq=>by rw[q,nT]at z;cases z).trans (kb b o z),nb,ff.of_keeps λb o z hn=>⟨o,(ot b (nr b o z hn)).trans z,rfl⟩,?_⟩ λb o z hn=>⟨o.slots,(ot b (nr b o z hn)).trans z⟩);exact⟨vs,sl,T,_,_,(ot e (Ne.symm ne)).trans qe,q1,nT,ne,jh _ qT (Obj.isFreed_of_fields (Obj.data_mapFields dT _)),Obj.data_mapFields dT _,by simp[z3]⟩
end
section
variable {P:xf}{w:xh}{K:qu}{mg:qm}{base:Heap}{N:qB}{qual:Str}{scope:Scope}{f:xb}{cd:qY}{A:Around}{outer:List Env}{s0:qZ}{H0:Hp}{E:XK}
abbrev cxI(P:xf)(w:xh)(K:qu)(mg:qm)(base:Heap)(N:qB)(qual:Str)(scope:Scope)(f:xb)(cd:qY)(A:Around)(outer:List Env)(s0:qZ)(H0:Hp)(E:XK):Cx :=
 (Q7 (CXD P w) P w K mg base N qual scope f cd A outer s0 H0 E).wish (im (Q7 (CXD P w) P w K mg base N qual scope f cd A outer s0 H0 E) E)
theorem uL(fr:(A.deeper (envOfC qual scope s0.heap.objs.size f cd)).frames=some (envOfC qual scope s0.heap.objs.size f cd::outer)):PassesOwn (model (cxI P w K mg base N qual scope f cd A outer s0 H0 E).prog (cxI P w K mg base N qual scope f cd A outer s0 H0 E).w) (cxI P w K mg base N qual scope f cd A outer s0 H0 E).A (cxI P w K mg base N qual scope f cd A outer s0 H0 E).env (cxI P w K mg base N qual scope f cd A outer s0 H0 E).xe:=by
 rintro ev s' ⟨e,C,od,B,H',rfl,I,tr,he,hE⟩;refine io fr rfl I.kb I.nb I.ff tr λh1 f1 m1=>?_;have I1:=I.step f1.1 f1.2.2.1 m1;obtain⟨vs,sl,T,oT,ts,qe,q1,_⟩:=id f1.2.2.2;show wpAny _ _ _ _ _ _;refine k7 (ku (s:={ s' with heap:=h1 }) qe rfl q1 ?_);rw[k9 (show ¬((Value.ref T==Value.none)=true) from by simp)];refine uK (s:={ s' with heap:=h1 }) (L:=(envOfC qual scope s0.heap.objs.size f cd).locals) f1 λh2 f2 m2=>?_;exact⟨e,C,od,B,H',rfl,I1.step f2.1 f2.2.2.1 m2,.inr (.inr f2.2.2.2),he,hE⟩
def iq(fr:(A.deeper (envOfC qual scope s0.heap.objs.size f cd)).frames=some (envOfC qual scope s0.heap.objs.size f cd::outer))(h:im (Q7 (CXD P w) P w K mg base N qual scope f cd A outer s0 H0 E) E ev s'):(Q7 (CXD P w) P w K mg base N qual scope f cd A outer s0 H0 E).xe ev s':=by
 obtain⟨e,C,od,B,H',rfl,I,tr,he,hE⟩:=h;show wpAny _ _ (leaving _ (.ref e)) _ _ s';unfold leaving;refine k7 (io fr rfl I.kb I.nb I.ff tr λh1 f1 m1=>?_);have I1:=I.step f1.1 f1.2.2.1 m1;refine uI (s:={ s' with heap:=h1 }) f1 λh2 f2 m2=>?_;have I2:=I1.step f2.1 f2.2.2.1 m2;obtain⟨a,b,⟨_,_,d⟩,t⟩:=f2;exact⟨e,C,od,B,H',rfl,I2.os,I2.bare,I2.un,I2.hok,⟨a,b,d,t⟩,I2.inB,he,hE⟩
end
section
variable {P:xf}{w:xh}{K:qu}{mg:qm}{base:Heap}{N:qB}{qual:Str}{scope:Scope}{f:xb}{cd:qY}{A:Around}{outer:List Env}{s0:qZ}{H0:Hp}{E:XK}
def uM:∀b∈frs l,b∈(env::l).filterMap (·.frame):=λb hb=>by
 obtain⟨v,hv,e⟩:=List.mem_filterMap.mp hb;exact List.mem_filterMap.mpr ⟨v,jE _ hv,e⟩
def Jg:JX (CXD P w) (cxI P w K mg base N qual scope f cd A outer s0 H0 E) E:=by
 intro qE σ H s ev s' I0 h;have I:=I0.unwish;obtain⟨e,C,od,B,H',rfl,hos,hg,u,hok,fl,hB,he,hE⟩:=h;have I':=I.call' (s':=s') (ch:=[]) hos u hok hg (λ_ z=>nomatch z)
 have inB:∀b ob,s'.heap.get? b=some ob->((H' b).isSome=true\/(s0.heap.get? b).isSome=true)->b∉frs outer->B.get? b=some ob:=λb ob q c nb=>by
  refine hB b ob q ?_ (I'.off c nb);rcases c with c|c
  . exact .inl c
  . obtain⟨o1,e1⟩:=I.old rfl (.inr c);exact .inr (by rw[e1];rfl)
 exact⟨e,C,od,B,H',rfl,⟨I'.os,I'.bare,I'.base,I'.hok,fl.1,fl.2.1,fl.2.2.1,inB,λb ob q c=>hB b ob q (.inl c) (I'.noFr c),uM⟩,.inr (.inl fl.2.2.2),he,hE⟩
def Yr(hi:PI (cxI P w K mg base N qual scope f cd A outer s0 H0 E) tg qN wi)(hg:PG (cxI P w K mg base N qual scope f cd A outer s0 H0 E) tg g)(hb:PSs (cxI P w K mg base N qual scope f cd A outer s0 H0 E) body tb)
 (hs:∀x,foldedSetIterable qN (cxI P w K mg base N qual scope f cd A outer s0 H0 E).env x=pure x:=by intro _;rfl):PS (cxI P w K mg base N qual scope f cd A outer s0 H0 E) (.For tg qN body [] pos) (Z6 wi g tb) :=
 λqE s σ H D I h=>Q6 (uL I.ok.frames) rfl hi hg hb hs qE s σ H D I h
def Fn.ok3{x:Str}{st:Stmt}{N ps:qB}{k:Nat}{sp:Sp}(F:Fn K mg x st ps)(S:FnScope N ps (defScope st))(len:∀vs H Q E,sp vs H Q E->vs.length=ps.length)
 (qQ:∀(f:xb) (qF:qY) (A:Around) (outer:List Env) (s:qZ) (H:Hp) (vs:List V) (Q:VK) (E:XK),Room k (A.deeper (envOfC x (defScope st) s.heap.objs.size f qF))->sp vs H Q E ->
  ∃t,PSs (cxI P w K mg base N x (defScope st) f qF A outer s H E) (defBody st) t/\t { nx:=λ_ H'=>Q .non H',rt:=Q } (J2 N vs) H):Def2 P w K mg base x (k+1) ps sp:=by
 refine F.ok2 S len λf qF A outer s H vs Q E hr h=>?_;obtain⟨t,ht,hq⟩:=qQ f qF A outer s H vs Q E hr h;refine⟨t,λqE s1 σ H1 D I q=>?_,hq⟩;exact kx (ht qE s1 σ H1 D (I.wish _) q) (λfl s2 z=>z.unwish) (λev s2 z=>iq I.ok.frames z)
end
structure MFn (K:qu) (C:xb) (m qual:Str) (st:Stmt) (ps:qB):Prop where
 ex:∃f fd,Fun K m qual st f fd/\Meth K C m f/\Binds K fd ps []
structure DefM (P:xf) (w:xh) (K:qu) (mg:qm) (base:Heap) (C:xb) (m:Str) (k:Nat) (ps:qB) (sp:Sp):Prop where
 ex:∃f fd,Meth K C m f/\FnOk P w K mg base (CXD P w) k f fd ps sp/\Binds K fd ps []
section
variable {P:xf}{w:xh}{K:qu}{mg:qm}{base:Heap}
def Fun.ok3{x qual:Str}{st:Stmt}{f:xb}{fd:FuncData}{N ps:qB}{k:Nat}{sp:Sp}(F:Fun K x qual st f fd)(S:FnScope N ps (defScope st))(len:∀vs H Q E,sp vs H Q E->vs.length=ps.length)
 (qQ:∀(qF:qY) (A:Around) (outer:List Env) (s:qZ) (H:Hp) (vs:List V) (Q:VK) (E:XK),Room k (A.deeper (envOfC qual (defScope st) s.heap.objs.size f qF))->sp vs H Q E ->
  ∃t,PSs (cxI P w K mg base N qual (defScope st) f qF A outer s H E) (defBody st) t/\t { nx:=λ_ H'=>Q .non H',rt:=Q } (J2 N vs) H):FnOk P w K mg base (CXD P w) (k+1) f fd ps sp:=by
 obtain⟨oc,od,kV,qX,pm,an,qF,ct,osl,rfl,lk,hcd⟩:=F.ex;refine bc lk hcd S len λA outer s H vs Q E hr hsp=>?_;obtain⟨t,ht,hq⟩:=qQ qF A outer s H vs Q E hr hsp;refine⟨t,λqE s1 σ H1 D I q=>?_,hq⟩;exact kx (ht qE s1 σ H1 D (I.wish _) q) (λfl s2 z=>z.unwish) (λev s2 z=>iq I.ok.frames z)
theorem MFn.ok3{C:xb}{m qual:Str}{st:Stmt}{N ps:qB}{k:Nat}{sp:Sp}(F:MFn K C m qual st ps)(S:FnScope N ps (defScope st))(len:∀vs H Q E,sp vs H Q E->vs.length=ps.length)
 (qQ:∀(f:xb) (qF:qY) (A:Around) (outer:List Env) (s:qZ) (H:Hp) (vs:List V) (Q:VK) (E:XK),Room k (A.deeper (envOfC qual (defScope st) s.heap.objs.size f qF))->sp vs H Q E ->
  ∃t,PSs (cxI P w K mg base N qual (defScope st) f qF A outer s H E) (defBody st) t/\t { nx:=λ_ H'=>Q .non H',rt:=Q } (J2 N vs) H):DefM P w K mg base C m (k+1) ps sp:=by
 obtain⟨f,fd,FF,M,b⟩:=F.ex;exact⟨f,fd,M,FF.ok3 S len (qQ f),b⟩
end
section
variable {X:Cx}{C:xb}{k j:Nat}{ps:qB}{sp:Sp}{E:XK}{m x:Str}{apos pos p:Pos}{e o:Expr}{es:List Expr}{ta:TE}{t:TA}
def Jn{pl:Sem Bool}(D:DefM X.prog X.w X.K X.mg X.base C m j ps sp)(c:Cls X.K C)(hr:Room k X.A)(hx:JX (CXD X.prog X.w) X E)(ho:PE X o ta)(ha:PA X (e::es) t)(hjk:j<=k:=by decide)
 (hst:starEach (e::es) X.env=(false,eval e X.env)::starEach es X.env:=by rfl) (qW:(backTo pos (starEach es X.env)).any (·.1)=false:=by rfl)
 (ht:eval (.Call (.Attribute o m apos) (e::es) [] pos) X.env=(do
  let ov <- eval o X.env
  standAt apos.atName
  let (f,first) <- holding [ov] (getMethod ov m pl)
  callWith pos f first (backTo pos (starEach (e::es) X.env)) (backToKw pos (keywordEach [] X.env))):=by rfl):PE X (.Call (.Attribute o m apos) (e::es) [] pos) (Y1 C m sp [] E ta t):=by
 obtain⟨f,fd,M,F,b⟩:=D.ex;exact oV (pl:=pl) ho c M F (hr.mono hjk) b .nil hx ha hst qW ht
def ir{pl:Sem Bool}(D:DefM X.prog X.w X.K X.mg X.base C m j ps sp)(c:Cls X.K C)(hr:Room k X.A)(hx:JX (CXD X.prog X.w) X E)(ho:PE X o ta)(hjk:j<=k:=by decide)
 (ht:eval (.Call (.Attribute o m apos) [] [] pos) X.env=(do
  let ov <- eval o X.env
  standAt apos.atName
  let (f,first) <- holding [ov] (getMethod ov m pl)
  callWith pos f first (backTo pos (starEach [] X.env)) (backToKw pos (keywordEach [] X.env))):=by rfl):PE X (.Call (.Attribute o m apos) [] [] pos) (Y1 C m sp [] E ta Ja):=by
 obtain⟨f,fd,M,F,b⟩:=D.ex;exact oW (pl:=pl) ho c M F (hr.mono hjk) b .nil hx ht
structure NewC (P:xf) (w:xh) (K:qu) (mg:qm) (base:Heap) (x:Str) (C:xb) (k:Nat) (ps:qB) (sp:Sp):Prop where
 nm:mg x=some (.ref C)
 ex:∃f fd,Mk K C f/\FnOk P w K mg base (CXD P w) k f fd ps sp/\Binds K fd ps []
def uN(D:NewC X.prog X.w X.K X.mg X.base x C j ps sp)(hr:Room k X.A)(hg:Gl X x)(hx:JX (CXD X.prog X.w) X E)(ha:PA X (e::es) t)(hjk:j+1<=k:=by decide)(hdb:(x==("__debug__" : Str))=false:=by decide)
 (he:starEach (e::es) X.env=(false,eval e X.env)::starEach es X.env:=by rfl) (qW:(backTo pos (starEach es X.env)).any (·.1)=false:=by rfl):PE X (.Call (.Name x p) (e::es) [] pos) (fj C sp [] E t):=by
 obtain⟨f,fd,M,F,b⟩:=D.ex;exact oY M F (hr.mono hjk) hg D.nm b .nil hx ha hdb he qW
end
structure IFn (K:qu) (mg:qm) (x:Str) (C:xb) (qual:Str) (st:Stmt) (ps:qB):Prop where
 nm:mg x=some (.ref C)
 ex:∃f fd,Fun K "__init__" qual st f fd/\Mk K C f/\Binds K fd ps []
def IFn.new{P:xf}{w:xh}{K:qu}{mg:qm}{base:Heap}{x qual:Str}{C:xb}{st:Stmt}{ps:qB}{k:Nat}{sp:Sp}(I:IFn K mg x C qual st ps)(h:∀f fd,Fun K "__init__" qual st f fd->FnOk P w K mg base (CXD P w) k f fd ps sp):NewC P w K mg base x C k ps sp:=by
 obtain⟨f,fd,F,M,b⟩:=I.ex;exact⟨I.nm,f,fd,M,h f fd F,b⟩
inductive NK where
 |lf (v:Int)|qn (q:Int) (ns:qD)
 deriving DecidableEq
section
variable {H0:Hp}{σ:St}{te:TE}{i n m:Nat}{sep:Str}{ts:qB}
theorem Qv{K:qu}{H:Hp}:∀{ns:qB}{ys:List V},IsDs K H (ns.map D.str) ys->ys=ns.map V.str
 | [],_,h=>h
 |_::ns,_,⟨x,r,e1,e2,e3⟩=>by
  have e2:x=.str _:=e2;have e3:=Qv (ns:=ns) e3;rw[e1,e2,e3];rfl
end
end L2
set_option Elab.async false
set_option linter.all false
set_option maxRecDepth 100000
set_option maxHeartbeats 4000000
namespace Fd
open PySem L2
def top(i:Nat):Stmt:=PySem.Challenge.pw_fairdraw_k32_laid_out.main.body.getD i (.Pass ⟨0,0,0,0⟩)
abbrev Zq:Stmt:=top 1
abbrev Ys:Stmt:=top 4
abbrev Yt:Stmt:=top 6
abbrev Yu:Stmt:=top 7
abbrev Yv:Stmt:=top 8
abbrev Yw:Stmt:=top 9
abbrev Yx:Stmt:=top 10
abbrev Yy:Stmt:=top 11
abbrev Yz:Stmt:=top 12
abbrev YA:Stmt:=top 13
abbrev YB:Stmt:=top 14
abbrev YC:Stmt:=top 15
abbrev YD:Stmt:=top 16
abbrev YE:Stmt:=top 17
abbrev YF:Stmt:=top 18
abbrev YG:Stmt:=top 19
abbrev YH:Stmt:=top 20
abbrev YI:Stmt:=top 21
abbrev YJ:Stmt:=top 22
abbrev Zr:Stmt:=top 23
abbrev YK:Stmt:=top 24
abbrev YL:Stmt:=top 25
abbrev Zs:Stmt:=top 26
abbrev Zt:Stmt:=top 27
abbrev Zu:Stmt:=top 28
abbrev Zv:Stmt:=top 29
abbrev Zw:Stmt:=top 30
abbrev Qw:Stmt:=top 31
structure Bl (mg:qm):Prop where
 bool:mg "bool" = none
 dict:mg "dict" = none
 int:mg "int" = none
 isinstance:mg "isinstance" = none
 len:mg "len" = none
 list:mg "list" = none
 max:mg "max" = none
 range:mg "range" = none
 set:mg "set" = none
 sorted:mg "sorted" = none
 str:mg "str" = none
 sum:mg "sum" = none
 tuple:mg "tuple" = none
 zip:mg "zip" = none
def Qk(s:Stmt):List Stmt:=match s with | .ClassDef _ _ _ b _ _ _ _ _ _ _=>b|_=>[]
abbrev YM:Stmt:=(Qk (top 3)).getD 0 (.Pass ⟨0,0,0,0⟩)
abbrev YN:Stmt:=(Qk (top 3)).getD 1 (.Pass ⟨0,0,0,0⟩)
abbrev YO:Stmt:=(Qk (top 3)).getD 2 (.Pass ⟨0,0,0,0⟩)
abbrev YQ:Stmt:=(Qk (top 3)).getD 3 (.Pass ⟨0,0,0,0⟩)
abbrev YR:Stmt:=(Qk (top 3)).getD 4 (.Pass ⟨0,0,0,0⟩)
abbrev Zx:Stmt:=(Qk (top 3)).getD 5 (.Pass ⟨0,0,0,0⟩)
abbrev YS:Stmt:=(Qk (top 3)).getD 6 (.Pass ⟨0,0,0,0⟩)
abbrev YT:Stmt:=(Qk (top 3)).getD 7 (.Pass ⟨0,0,0,0⟩)
abbrev Zy:Stmt:=(Qk (top 3)).getD 8 (.Pass ⟨0,0,0,0⟩)
abbrev Zz:Stmt:=(Qk (top 3)).getD 9 (.Pass ⟨0,0,0,0⟩)
abbrev ZA:Stmt:=(Qk (top 3)).getD 10 (.Pass ⟨0,0,0,0⟩)
def iu:FnScope ["e", "book"] ["e", "book"] (defScope Zq):='c'
def bW:FnScope ["program", "spreader", "book"] ["program"] (defScope Ys):='c'
def uO:FnScope ["_law_script", "_law_k"] ["_law_script", "_law_k"] (defScope Yt):='c'
def YU:FnScope ["_law_one_here", "_law_other", "_law_rest"] ["_law_one_here", "_law_other"] (defScope Yu):='c'
def XQ:FnScope ["_law_cell", "_law_size", "_law_place", "_law_rest", "_law_some"] ["_law_cell"] (defScope Yv):='c'
def uP:FnScope ["_law_state", "_law_cell"] ["_law_state", "_law_cell"] (defScope Yw):='c'
def iw:FnScope ["_law_state", "_law_cell", "_law_now"] ["_law_state", "_law_cell"] (defScope Yx):='c'
def YV:FnScope ["_law_state", "_law_cell", "_law_mixed", "_law_a", "_law_b"] ["_law_state", "_law_cell"] (defScope Yy):='c'
def QZ:FnScope ["_law_state", "_law_cell", "_law_many", "_law_weights", "_law_whole", "_law_gap", "_law_found", "_law_k", "_law_by"] ["_law_state", "_law_cell", "_law_many"] (defScope Yz):='c'
def uQ:FnScope ["_law_word", "_law_head", "_law_now"] ["_law_word", "_law_head", "_law_now"] (defScope YA):='c'
def iy:FnScope ["_law_state", "_law_row", "_law_last"] ["_law_state", "_law_row"] (defScope YB):='c'
def Xi:FnScope ["_law_state", "_law_size", "_law_many", "_law_turns", "_law_frame", "_law_found", "_law_k"] ["_law_state", "_law_size", "_law_many"] (defScope YC):='c'
def XR:FnScope ["_law_state", "_law_cell", "_law_name", "_law_mixed", "_law_many", "_law_part_here", "_law_some"] ["_law_state", "_law_cell"] (defScope YD):='c'
def uR:FnScope ["_law_state", "_law_cell"] ["_law_state", "_law_cell"] (defScope YE):='c'
def ZB:FnScope ["_law_state", "_law_last", "_law_above", "_law_other"] ["_law_state"] (defScope YF):='c'
def bX:FnScope ["_law_state", "_law_cell", "_law_frames", "_law_last"] ["_law_state", "_law_cell"] (defScope YG):='c'
def iz:FnScope ["_law_state", "_law_cells", "_law_now", "_law_limit", "_law_room", "_law_cell"] ["_law_state", "_law_cells", "_law_now", "_law_limit", "_law_room"] (defScope YH):='c'
def XS:FnScope ["_law_state", "_law_cells", "_law_k", "_law_names_here", "_law_cell", "_law_params", "_law_frame", "_law_made"] ["_law_state", "_law_cells", "_law_k"] (defScope YI):='c'
def Ql:FnScope ["_law_script", "_law_limit", "_law_room", "_law_cell", "_law_large", "_law_state", "_law_many", "_law_cells", "_law_made", "_law_frame", "_law_names_here", "_law_k", "_law_name"] ["_law_script", "_law_limit", "_law_room"] (defScope YJ):='c'
def iA:FnScope ["_law_e", "_law_book"] ["_law_e", "_law_book"] (defScope Zr):='c'
def iB:FnScope ["_law_out", "_law_e", "_law_name"] ["_law_out", "_law_e"] (defScope YK):='c'
def uS:FnScope ["_law_guard", "_law_e"] ["_law_guard", "_law_e"] (defScope YL):='c'
def Qx:FnScope ["_law_out", "_law_row", "_law_book", "_law_guard", "_law_parts", "_law_asked", "_law_inner", "_law_one_here", "_law_other", "_law_found", "_law_name", "_law_e"] ["_law_out", "_law_row", "_law_book", "_law_guard", "_law_parts"] (defScope Zs):='c'
def XT:FnScope ["_law_out", "_law_row", "_law_book", "_law_guard", "_law_parts", "_law_part_here", "_law_inner", "_law_values_here", "_law_k"] ["_law_out", "_law_row", "_law_book", "_law_guard", "_law_parts"] (defScope Zt):='c'
def X0:FnScope ["_law_out", "_law_rows_here", "_law_before", "_law_guard", "_law_parts", "_law_book", "_law_row", "_law_held", "_law_k"] ["_law_out", "_law_rows_here", "_law_before", "_law_guard", "_law_parts"] (defScope Zu):='c'
def iC:FnScope ["_law_thing"] ["_law_thing"] (defScope Zv):='c'
def bY:FnScope ["_law_found", "_law_due", "_law_k"] ["_law_found", "_law_due"] (defScope Zw):='c'
def X1:FnScope ["_law_script", "_law_program_here", "_law_out", "_law_book", "_law_due", "_law_handed", "_law_found", "_law_row"] ["_law_script"] (defScope Qw):='c'
def uT:FnScope ["self", "parts"] ["self", "parts"] (defScope YM):='c'
def iD:FnScope ["self", "number"] ["self"] (defScope YN):='c'
def iE:FnScope ["self", "e", "name"] ["self", "e"] (defScope YO):='c'
def iF:FnScope ["self", "outcomes", "name"] ["self", "outcomes"] (defScope YQ):='c'
def iG:FnScope ["self", "e", "guard"] ["self", "e", "guard"] (defScope YR):='c'
def XU:FnScope ["self", "row", "book", "guard", "choice", "first", "second", "name", "sides"] ["self", "row", "book", "guard"] (defScope Zx):='c'
def uU:FnScope ["self", "choice", "guard"] ["self", "choice", "guard"] (defScope YS):='c'
def uV:FnScope ["self", "choice", "guard"] ["self", "choice", "guard"] (defScope YT):='c'
def ZC:FnScope ["self", "row", "book", "guard", "part", "inner", "parameter", "e"] ["self", "row", "book", "guard"] (defScope Zy):='c'
def iH:FnScope ["self", "row", "book", "guard", "time"] ["self", "row", "book", "guard"] (defScope Zz):='c'
def bZ:FnScope ["self", "rows", "book", "guard", "row"] ["self", "rows", "book", "guard"] (defScope ZA):='c'
def sz(r:Rat):Prop:=r.num.natAbs<2 ^ 2000/\r.den<2 ^ 2000
inductive Sg where
 |neg|add|sub|lt|eq|conj|disj|pick
 deriving DecidableEq
def Sg.str:Sg->Str
 |.neg => "not" |.add => "+" |.sub => "-" |.lt => "<" |.eq => "=" |.conj => "and" |.disj => "or" |.pick => "pick"
def Sg.many:Sg->Nat
 |.neg=>1 | .pick=>3|_=>2
inductive Ex where
 |num (n:Int)|nam (x:Str)|un (a:Ex)|bi (s:Sg) (a b:Ex)|pick (c a b:Ex)
def b2n(b:Bool):Int:=if b=true then 1 else 0
def rk2(s:Sg)(a b:Int):Int:=match s with
 |.add=>a+b
 |.sub=>a - b
 |.lt=>b2n (decide (a<b))
 |.eq=>b2n (decide (a=b))
 |.conj=>b2n (decide (a≠0)&&decide (b≠0))
 |_=>b2n (decide (a≠0)||decide (b≠0))
def Sg.two:Sg->Bool
 |.neg=>false | .pick=>false|_=>true
def ev(ρ:Str->Int):Ex->Int
 |.num n=>n
 |.nam x=>ρ x
 |.un a=>b2n (decide (ev ρ a=0))
 |.bi s a b=>rk2 s (ev ρ a) (ev ρ b)
 |.pick c a b=>if ev ρ c≠0 then ev ρ a else ev ρ b
def dE:Ex->D
 |.num n => .tup [.str "num",.int n]
 |.nam x => .tup [.str "name",.str x]
 |.un a => .tup [.str "not",dE a]
 |.bi s a b => .tup [.str s.str,dE a,dE b]
 |.pick c a b => .tup [.str "pick",dE c,dE a,dE b]
def Ex.high:Ex->Nat
 |.num _=>0
 |.nam _=>0
 |.un a=>a.high+1
 |.bi _ a b=>max a.high b.high+1
 |.pick c a b=>max c.high (max a.high b.high)+1
def Ex.ok:Ex->Prop
 |.num _=>True
 |.nam _=>True
 |.un a=>a.ok
 |.bi s a b=>s.two=true/\a.ok/\b.ok
 |.pick c a b=>c.ok/\a.ok/\b.ok
def Ex.over(p:Str->Prop):Ex->Prop
 |.num _=>True
 |.nam x=>p x
 |.un a=>a.over p
 |.bi _ a b=>a.over p/\b.over p
 |.pick c a b=>c.over p/\a.over p/\b.over p
theorem JR:∀e:Ex,(dE e).noL=true
 |.num _=>rfl
 |.nam _=>rfl
 |.un a=>by show(true&&((dE a).noL&&true))=true;rw[JR a];rfl
 |.bi s a b=>by show(true&&((dE a).noL&&((dE b).noL&&true)))=true;rw[JR a,JR b];rfl
 |.pick c a b=>by show(true&&((dE c).noL&&((dE a).noL&&((dE b).noL&&true))))=true;rw[JR c,JR a,JR b];rfl
def iI(s:Sg):s.str ≠ "num" := by cases s<;>decide +kernel
def iJ(s:Sg):s.str ≠ "name" := by cases s<;>decide +kernel
def rkL(s:Sg)(ns:qD):Int:=match s,ns with
 |.neg,[a]=>b2n (decide (a=0))
 |.pick,[c,a,b]=>if c≠0 then a else b
 |s,[a,b]=>rk2 s a b
 |_,_=>0
def mkE:Sg->List Ex->Ex
 |.neg,[a] => .un a
 |.pick,[c,a,b] => .pick c a b
 |s,[a,b] => .bi s a b
 |_,_ => .num 0
def YW(hl:cs.length=s.many)(ρ:Str->Int):dE (mkE s cs)=.tup (.str s.str::cs.map dE)/\ev ρ (mkE s cs)=rkL s (cs.map (ev ρ)):=by
 cases s with
 |neg=>match cs,hl with | [a],_=>exact⟨rfl,rfl⟩
 |pick=>match cs,hl with | [x,a,b],_=>exact⟨rfl,rfl⟩
 |add=>match cs,hl with | [a,b],_=>exact⟨rfl,rfl⟩
 |sub=>match cs,hl with | [a,b],_=>exact⟨rfl,rfl⟩
 |lt=>match cs,hl with | [a,b],_=>exact⟨rfl,rfl⟩
 |eq=>match cs,hl with | [a,b],_=>exact⟨rfl,rfl⟩
 |conj=>match cs,hl with | [a,b],_=>exact⟨rfl,rfl⟩
 |disj=>match cs,hl with | [a,b],_=>exact⟨rfl,rfl⟩
structure Mk where
 so:Int->Option Sg
 si:Int->Ex
 c0:Int
 j:Sg
def cf(s:Sg):1<=s.many/\s.many<=3:=by cases s<;>decide
theorem Ex.node2(p:Str->Prop):∀e:Ex,e.ok->e.over p->(∃n,e=.num n)\/(∃x,e=.nam x)\/∃(s:Sg) (cs:List Ex),e=mkE s cs/\cs.length=s.many/\∀c∈cs,c.ok/\c.over p/\c.high<e.high
 |.num n,_,_ => .inl ⟨n,rfl⟩
 |.nam x,_,_ => .inr (.inl ⟨x,rfl⟩)
 |.un a,h,o => .inr (.inr ⟨.neg,[a],rfl,rfl,λc hc=>by
  have:c=a:=by simpa using hc
  subst this;exact⟨h,o,by show c.high<c.high+1;omega⟩⟩)
 |.bi s a b,h,o => .inr (.inr ⟨s,[a,b],(by
  obtain⟨h1,_⟩:=h
  cases s<;>first|rfl|(cases h1)),(by
  obtain⟨h1,_⟩:=h
  cases s<;>first|rfl|(cases h1)),λc hc=>by
  obtain⟨_,h2,h3⟩:=h;have z:(Ex.bi s a b).high=max a.high b.high+1:=rfl;rcases jB.mp hc with rfl|hc
  . exact⟨h2,o.1,by omega⟩
  . have:c=b:=by simpa using hc
    subst this;exact⟨h3,o.2,by omega⟩⟩)
 |.pick x a b,h,o => .inr (.inr ⟨.pick,[x,a,b],rfl,rfl,λc hc=>by
  obtain⟨h1,h2,h3⟩:=h;have z:(Ex.pick x a b).high=max x.high (max a.high b.high)+1:=rfl;simp only[jB,jb,kP]at hc;rcases hc with rfl|rfl|rfl
  . exact⟨h1,o.1,by omega⟩
  . exact⟨h2,o.2.1,by omega⟩
  . exact⟨h3,o.2.2,by omega⟩⟩)
def Ex.ren(r:Str->Str):Ex->Ex
 |.num n => .num n
 |.nam x => .nam (r x)
 |.un a => .un (a.ren r)
 |.bi s a b => .bi s (a.ren r) (b.ren r)
 |.pick c a b => .pick (c.ren r) (a.ren r) (b.ren r)
def iK(hl:cs.length=s.many)(r:Str->Str):(mkE s cs).ren r=mkE s (cs.map (Ex.ren r)):=by
 cases s with
 |neg=>match cs,hl with | [a],_=>rfl
 |pick=>match cs,hl with | [x,a,b],_=>rfl
 |add=>match cs,hl with | [a,b],_=>rfl
 |sub=>match cs,hl with | [a,b],_=>rfl
 |lt=>match cs,hl with | [a,b],_=>rfl
 |eq=>match cs,hl with | [a,b],_=>rfl
 |conj=>match cs,hl with | [a,b],_=>rfl
 |disj=>match cs,hl with | [a,b],_=>rfl
def YX(a:Str):¬ltS a a:=List.lt_irrefl _
def X2(x:Str):qB->qB
 | []=>[x]
 |y::r=>if x=y then y::r else if decide (x.cps.toList<y.cps.toList)=true then x::y::r else y::X2 x r
def srt(l:qB):qB:=l.foldr X2 []
theorem cg:∀{l:qB},k∈X2 x l↔k=x\/k∈l
 | []=>by simp[X2]
 |y::r=>by
  unfold X2;split
  . rename_i h;subst h;simp
  . split
    . simp
    . rw[jB,cg (l:=r),jB];exact⟨λh=>h.elim (λh => .inr (.inl h)) λh=>h.elim .inl λh => .inr (.inr h),λh=>h.elim (λh => .inr (.inl h)) λh=>h.elim .inl λh => .inr (.inr h)⟩
theorem iL:∀{l:qB},l.Pairwise ltS->(X2 x l).Pairwise ltS
 | [],_=>List.pairwise_singleton _ _
 |y::r,h=>by
  obtain⟨h1,h2⟩:=kA.mp h;unfold X2;split
  . exact h
  . rename_i ne;split
    . rename_i lt;have lt:ltS x y:=kS lt;exact kA.mpr ⟨λk hk=>(jB.mp hk).elim (λe=>e ▸ lt) λhk=>Yk lt (h1 k hk),h⟩
    . rename_i nl;have lt:ltS y x:=bJ ne λz=>nl (kf z);exact kA.mpr ⟨λk hk=>(cg.mp hk).elim (λe=>e ▸ lt) λhk=>h1 k hk,iL h2⟩
theorem ci:∀{l:qB},k∈srt l↔k∈l
 | []=>Iff.rfl
 |x::l=>by
  show k∈X2 x (srt l)↔_;rw[cg,ci (l:=l),jB]
theorem YY:∀l:qB,(srt l).Pairwise ltS
 | []=>List.Pairwise.nil
 |_::l=>iL (YY l)
theorem cj:∀{l m:qB},l.Pairwise ltS->m.Pairwise ltS->(∀k,k∈l↔k∈m)->l=m
 | [],[],_,_,_=>rfl
 | [],b::m,_,_,h=>absurd ((h b).mpr (jH ..)) (λz=>nomatch z)
 |a::l,[],_,_,h=>absurd ((h a).mp (jH ..)) (λz=>nomatch z)
 |a::l,b::m,hl,hm,h=>by
  obtain⟨l1,l2⟩:=kA.mp hl;obtain⟨m1,m2⟩:=kA.mp hm
  have e:a=b:=by
   rcases jB.mp ((h a).mp (jH ..)) with e|ha
   . exact e
   rcases jB.mp ((h b).mpr (jH ..)) with e|hb
   . exact e.symm
   exact absurd (Yk (m1 a ha) (l1 b hb)) (YX _)
  subst e;refine kN (a::·) (cj l2 m2 λk=>⟨λhk=>?_,λhk=>?_⟩)
  . rcases jB.mp ((h k).mp (jE _ hk)) with e | z
    . exact absurd (l1 k hk) (e ▸ YX _)
    . exact z
  . rcases jB.mp ((h k).mpr (jE _ hk)) with e | z
    . exact absurd (m1 k hk) (e ▸ YX _)
    . exact z
def iM{l:qB}(h:l.Pairwise ltS):l.Nodup:=List.nodup_iff_pairwise_ne.mpr (h.imp fun {a b} h e=>by rw[e]at h;exact YX _ h)
def Ex.rds:Ex->qB
 |.num _=>[]
 |.nam x=>[x]
 |.un a=>a.rds
 |.bi _ a b=>a.rds++b.rds
 |.pick c a b=>c.rds++(a.rds++b.rds)
theorem Xj:∀e:Ex,e.over p↔∀x∈e.rds,p x
 |.num _=>⟨λ_ x hx=>(nomatch hx),λ_=>trivial⟩
 |.nam y=>⟨λh x hx=>(by
  have:x=y:=by simpa [Ex.rds] using hx
  rw[this];exact h),λh=>h y (by simp[Ex.rds])⟩
 |.un a=>Xj a
 |.bi s a b=>by
  show a.over p/\b.over p↔∀x∈a.rds++b.rds,p x;rw[Xj a,Xj b];exact⟨λh x hx=>(jI.mp hx).elim (h.1 x) (h.2 x),λh=>⟨λx hx=>h x (ji _ hx),λx hx=>h x (jM _ hx)⟩⟩
 |.pick c a b=>by
  show c.over p/\a.over p/\b.over p↔∀x∈c.rds++(a.rds++b.rds),p x;rw[Xj c,Xj a,Xj b];exact⟨λh x hx=>(jI.mp hx).elim (h.1 x) λhx=>(jI.mp hx).elim (h.2.1 x) (h.2.2 x),λh=>⟨λx hx=>h x (ji _ hx),λx hx=>h x (jM _ (ji _ hx)),λx hx=>h x (jM _ (jM _ hx))⟩⟩
theorem iN:∀{l:qB}{p:Str},PyProof.Rows.risingS p l=true->(p::l).Nodup->(p::l).Pairwise ltS
 | [],_,_,_=>List.pairwise_singleton _ _
 |x::r,p,h,nd=>by
  obtain⟨n1,n2⟩:=jP.mp nd;unfold PyProof.Rows.risingS at h;rw[jj]at h;have ih:=iN h.2 n2
  have nl:¬ltS x p:=by
   have:=h.1;rw[PyProof.Rows.ltCps_eq]at this;intro z;have z:x.cps.toList<p.cps.toList:=z;rw[kf z]at this
   cases this
  have lt:ltS p x:=bJ (λz=>n1 (by rw[z];exact jH ..)) nl;refine kA.mpr ⟨λy hy=>?_,ih⟩;rcases jB.mp hy with rfl|hy
  . exact lt
  . exact Yk lt ((kA.mp ih).1 y hy)
def uW(h:PyProof.Rows.sortedS l=true)(nd:l.Nodup):l.Pairwise ltS:=by
 cases l with
 |nil=>exact List.Pairwise.nil
 |cons x r=>exact iN h nd
local macro_rules | `(tactic| walk_at "sd") => `(tactic| (try dsimp only); first | decide | omega | assumption | (refine ⟨?_, ?_⟩ <;> first | decide | omega | assumption) | (refine ⟨?_, ?_, ?_⟩ <;> first | decide | omega | assumption))
local macro_rules | `(tactic| walk_at "rd1") => `(tactic| first
 |refine⟨_,rfl,?_⟩
 |refine⟨_,_,rfl,rfl,?_⟩
 |refine⟨_,_,rfl,?_⟩
 |refine .inl ⟨_,_,rfl,rfl,?_⟩
 |refine .inr (.inl ⟨_,_,rfl,rfl,?_⟩)
 |refine .inr (.inr (.inl ⟨_,_,rfl,rfl,?_⟩))
 |refine .inl ⟨_,rfl,?_⟩
 |refine .inr ⟨_,rfl,?_⟩
 |refine⟨rfl,?_⟩
 |(refine And.intro ?sd ?_;(case sd=>walk_at "sd"))
 |(refine' .inr (.inl ⟨_,_,_,_,rfl,rfl,?hs,?ha,?_⟩);(case hs=>assumption);(case ha=>rfl))
 |(refine'⟨_,_,_,rfl,?hs,?hk,?_⟩;(case hs=>assumption);(case hk=>decide)))
local macro_rules | `(tactic| walk_at "rd") => `(tactic| repeat (walk_at "rd1"))
local macro_rules | `(tactic| walk_at "mk") => `(tactic| repeat' (first
 |exact mk_str
 |exact mk_int
 |exact mk_varS rfl
 |exact mk_var rfl (by assumption)
 |exact mks_nil
 |refine mks_cons ?_ ?_
 |refine mk_tup ?_ ?_
 |refine mk_lst ?_ ?_
 |exact mkS_lit 'f'
 |exact mkS_var rfl (by assumption)
 |apply mk_addS
 |apply mkS_add
 |refine mk_cat ?_ ?_ ?_
 |exact few100 (Nat.le_of_ble_eq_true rfl)
 |(show _<=sizeLine;decide)))
section
variable {P:xf}{w:xh}{K:qu}{mg:qm}{base:Heap}{CP:xb}
inductive Wr where
 |draw (x:Str) (os:List D)|lett (x:Str) (e:Ex)|seen (e:Ex)|ifr (e:Ex) (a b:List Wr)|rnd (k:Nat) (a:List Wr)|call (x f:Str) (es:List Ex)
def dOs(os:List D):List D:=os
mutual
def dW:Wr->D
 |.draw x os => .tup [.str "draw",.str x,.lst (dOs os)]
 |.lett x e => .tup [.str "let",.str x,dE e]
 |.seen e => .tup [.str "seen",dE e]
 |.ifr e a b => .tup [.str "if",dE e,.lst (dWs a),.lst (dWs b)]
 |.rnd k a => .tup [.str "rounds",.int (k:Nat),.lst (dWs a)]
 |.call x f es => .tup [.str "call",.str x,.str f,.lst (es.map dE)]
def dWs:List Wr->List D
 | []=>[]
 |r::l=>dW r::dWs l
end
theorem Jj:∀l:List Wr,dWs l=l.map dW
 | []=>rfl
 |r::l=>by unfold dWs;rw[Jj l];rfl
def QL(a b:List Wr):dWs (a++b)=dWs a++dWs b:=by rw[Jj,Jj,Jj,jd]
structure Pt where
 nm:Str
 pa:qB
 rs:List Wr
 e:Ex
def dPt(p:Pt):D := .tup [.str p.nm,.lst (p.pa.map D.str),.lst (dWs p.rs),dE p.e]
abbrev Bo:=Str->Option Str
def Bo.put(b:Bo)(x v:Str):Bo:=λn=>if n=x then some v else b n
def Bo.at(b:Bo)(n:Str):Str:=(b n).getD ""
def bo0:Bo:=λ_=>none
structure LB where
 out:List Wr
 b:Bo
def Wr.giv:Wr->Bool
 |.seen _=>false
 |_=>true
def gvn(out:List Wr):Nat:=(out.filter Wr.giv).length
def vn(n:Nat):Str:=("v" : Str)++((toString (n:Int):String):Str)
abbrev nx(out:List Wr):Str:=vn (gvn out)
def ltv(out:List Wr)(e:Ex):List Wr:=out++[.lett (nx out) e]
def pk1(k:Str)(b1 b2:Bo)(s:LB)(n:Str):LB :=
 if b1 n=b2 n then⟨s.out,s.b.put n (b1.at n)⟩ else⟨ltv s.out (.pick (.nam k) (.nam (b1.at n)) (.nam (b2.at n))),s.b.put n (nx s.out)⟩
def both(pool:qB)(b1 b2:Bo):qB:=(srt pool).filter λn=>(b1 n).isSome&&(b2 n).isSome
def Q2(pool:qB)(k:Str)(b1 b2:Bo)(out:List Wr):LB:=(both pool b1 b2).foldl (pk1 k b1 b2) ⟨out,bo0⟩
def ag1(b:Bo)(s:LB)(p:Str×Ex):LB:=⟨ltv s.out (p.2.ren b.at),s.b.put p.1 (nx s.out)⟩
def args(b:Bo)(ps:List (Str×Ex))(out:List Wr):LB:=ps.foldl (ag1 b) ⟨out,bo0⟩
def under(g:Option Str)(e:Ex):Ex:=match g with
 |none=>e
 |some gd => .bi .conj (.nam gd) e
def if1(g:Option Str)(k:Str)(o:List Wr):List Wr×Str:=match g with
 |none=>(o,k)
 |some gd=>(ltv o (.bi .conj (.nam gd) (.nam k)),nx o)
def fnd(ps:List Pt)(f:Str):Option Pt:=ps.find? λp=>decide (p.nm=f)
section
variable (pool:qB) (ps:List Pt)
def JG(f:List Wr->Option Str->LB->LB)(g:Option Str):Wr->LB->LB
 |.draw x os,s=>⟨s.out++[.draw (nx s.out) os],s.b.put x (nx s.out)⟩
 |.lett x e,s=>⟨ltv s.out (e.ren s.b.at),s.b.put x (nx s.out)⟩
 |.seen e,s=>match g with
  |none=>⟨s.out++[.seen (e.ren s.b.at)],s.b⟩
  |some gd=>⟨ltv s.out (e.ren s.b.at)++[.seen (.bi .disj (.un (.nam gd)) (.nam (nx s.out)))],s.b⟩
 |.ifr e a c,s =>
  let k:=nx s.out
  let i:=if1 g k (ltv s.out (e.ren s.b.at))
  let t1:=f a (some i.2) ⟨i.1,s.b⟩
  let t2:=f c (some (nx t1.out)) ⟨ltv t1.out (under g (.un (.nam k))),s.b⟩
  Q2 pool k t1.b t2.b t2.out
 |.rnd k a,s=>Nat.rec s (λ_ t=>f a g t) k
 |.call x p es,s=>match fnd ps p with
  |none=>s
  |some q =>
   let t:=args s.b (q.pa.zip es) s.out
   let u:=f q.rs g t
   ⟨ltv u.out (q.e.ren u.b.at),s.b.put x (nx u.out)⟩
def JS(f:List Wr->Option Str->LB->LB)(g:Option Str)(rows:List Wr)(s:LB):LB:=rows.foldl (λs r=>JG pool ps f g r s) s
def xS:Nat->List Wr->Option Str->LB->LB
 |0=>λ_ _ s=>s
 |d+1=>λrows g s=>JS pool ps (xS d) g rows s
end
def OsQ(os:List D):Prop:=∀d∈os,∃v a b:Int,d=.tup [.int v,.tup [.int a,.int b]]
mutual
def kn1:Wr->qB
 |.draw x _=>[x]
 |.lett x _=>[x]
 |.seen _=>[]
 |.ifr _ a c=>(knR a).filter λx=>decide (x∈knR c)
 |.rnd k a=>if 0<k then knR a else []
 |.call x _ _=>[x]
def knR:List Wr->qB
 | []=>[]
 |r::l=>kn1 r++knR l
end
theorem iO:∀a b:List Wr,knR (a++b)=knR a++knR b
 | [],_=>rfl
 |r::a,b=>by show kn1 r++knR (a++b)=(kn1 r++knR a)++knR b;rw[iO a b,jw]
def OkE(K:qB)(e:Ex):Prop:=e.ok/\e.high<10/\∀n∈e.rds,n∈K
def OkE.mono{K K':qB}{e:Ex}(h:OkE K e)(s:∀n∈K,n∈K'):OkE K' e:=⟨h.1,h.2.1,λn hn=>s n (h.2.2 n hn)⟩
section
variable (pool:qB) (ps:List Pt)
def ok1(f:qB->List Wr->Prop)(K:qB):Wr->Prop
 |.draw x os=>x∈pool/\os.length<=100/\OsQ os
 |.lett x e=>x∈pool/\OkE K e
 |.seen e=>OkE K e
 |.ifr e a c=>OkE K e/\f K a/\f K c
 |.rnd k a=>k<=1000/\f K a
 |.call x p es=>x∈pool/\∃q,fnd ps p=some q/\q.pa.length=es.length/\es.length<=100/\(∀e∈es,OkE K e)/\(∀n∈q.pa,n∈pool)/\f q.pa q.rs/\OkE (q.pa++knR q.rs) q.e
def okR(f:qB->List Wr->Prop):qB->List Wr->Prop
 |_,[]=>True
 |K,r::l=>ok1 pool ps f K r/\okR f (K++kn1 r) l
def okD:Nat->qB->List Wr->Prop
 |0=>λ_ _=>False
 |d+1=>okR pool ps (okD d)
def cs1(f:List Wr->Nat):Wr->Nat
 |.draw _ _=>1
 |.lett _ _=>1
 |.seen _=>2
 |.ifr _ a c=>3+pool.length+f a+f c
 |.rnd k a=>k*f a
 |.call _ p es=>match fnd ps p with
  |none=>0
  |some q=>1+es.length+f q.rs
def csR(f:List Wr->Nat):List Wr->Nat
 | []=>0
 |r::l=>cs1 pool ps f r+csR f l
def csD:Nat->List Wr->Nat
 |0=>λ_=>0
 |d+1=>csR pool ps (csD d)
end
def XV(a b:List Wr):gvn (a++b)=gvn a+gvn b:=by unfold gvn;rw[List.filter_append,jY]
def cm(o:List Wr)(e:Ex):gvn (ltv o e)=gvn o+1:=by unfold ltv;rw[XV];rfl
def X3(o:List Wr)(e:Ex):(ltv o e).length=o.length+1:=by unfold ltv;rw[jY];rfl
def Dm(b:Bo)(K:qB):Prop:=∀n,(b n).isSome=true↔n∈K
theorem Dm.put{b:Bo}{K:qB}(h:Dm b K)(x v:Str):Dm (b.put x v) (K++[x]):=λn=>by
 unfold Bo.put;rw[jI,jA]
 by_cases c:n=x
 . rw[ke c];exact⟨λ_ => .inr c,λ_=>rfl⟩
 . rw[k9 c,h n];exact⟨.inl,λz=>z.elim id λz=>absurd z c⟩
def Dm.congr{b:Bo}{K K':qB}(h:Dm b K)(e:∀n,n∈K↔n∈K'):Dm b K':=λn=>(h n).trans (e n)
def dm0:Dm bo0 []:=λn=>⟨λh=>(nomatch h),λh=>(nomatch h)⟩
def Nw(b b':Bo)(i j:Nat):Prop:=∀n,b' n=b n\/∃k,i<=k/\k<j/\b' n=some (vn k)
def Nw.refl(b:Bo)(i j:Nat):Nw b b i j:=λ_ => .inl rfl
theorem Nw.wide(h:Nw b b' i j)(h1:i'<=i)(h2:j<=j'):Nw b b' i' j':=λn=>(h n).imp id λ⟨k,a,c,e⟩=>⟨k,by omega,by omega,e⟩
def Nw.trans(h:Nw a b i j)(h2:Nw b c i j):Nw a c i j:=λn=>by
 rcases h2 n with e|e
 . rw[e];exact h n
 . exact .inr e
theorem Nw.put(h:Nw b b' i j)(x:Str)(h1:i<=k)(h2:k<j):Nw b (b'.put x (vn k)) i j:=λn=>by
 unfold Bo.put
 by_cases c:n=x
 . rw[ke c];exact .inr ⟨k,h1,h2,rfl⟩
 . rw[k9 c];exact h n
def uX{a b:String}(h:(a:Str)=(b:Str)):a=b:=by
 have h:Str.ofString a=Str.ofString b:=h;rw[Str.ofString_eq_toList,Str.ofString_eq_toList]at h
 have h2:(a.toList.map Char.toNat)=b.toList.map Char.toNat:=by
  have:=kN (λx=>x.cps.toList) h;simpa using this
 have inj:∀(l m:List Char),l.map Char.toNat=m.map Char.toNat->l=m:=λl=>by
  induction l with
  |nil=>intro m e;cases m with|nil=>rfl|cons _ _=>cases e
  |cons c l ih =>
   intro m e
   cases m with
   |nil=>cases e
   |cons d m =>
    rw[jg,jg]at e;injection e with e1 e2
    rw[Char.toNat_inj.mp e1,ih m e2]
 exact String.toList_inj.mp (inj _ _ h2)
def uY(h:vn i=vn j):i=j:=by
 have h1:("v" : Str).cps++((toString (i:Int):String):Str).cps=("v" : Str).cps++((toString (j:Int):String):Str).cps:=kN Str.cps h
 have h2:((toString (i:Int):String):Str).cps=((toString (j:Int):String):Str).cps:=by
  have:=kN Array.toList h1;rw[Array.toList_append,Array.toList_append]at this;exact Array.toList_inj.mp (List.append_cancel_left this)
 have h3:((toString (i:Int):String):Str)=((toString (j:Int):String):Str):=by
  cases e1:((toString (i:Int):String):Str)
  cases e2:((toString (j:Int):String):Str)
  rw[e1,e2]at h2;exact kN Str.mk h2
 exact Nat.repr_inj.mp (uX h3)
theorem YZ(n:Str):∀(l:qB) (s:LB),n∉l->(l.foldl (pk1 k b1 b2) s).b n=s.b n
 | [],_,_=>rfl
 |m::l,s,h=>by
  rw[kC,YZ n l _ λz=>h (jE _ z)];have nm:n≠m:=λz=>h (z ▸ jH);unfold pk1;split
  . show(if n=m then _ else s.b n)=s.b n;rw[k9 nm]
  . show(if n=m then _ else s.b n)=s.b n;rw[k9 nm]
def pp1(k:Str)(b1 b2:Bo)(s:LB)(n:Str):LB:=if b1 n=b2 n then s else⟨ltv s.out (.pick (.nam k) (.nam (b1.at n)) (.nam (b2.at n))),s.b.put n (nx s.out)⟩
theorem cn:∀(l:qB) (o:List Wr) (p c:Bo),l.Nodup->(∀n∈l,(b1 n).isSome=true)->(∀n∈l,b1 n=b2 n->p n=b1 n) ->
 (l.foldl (pp1 k b1 b2) ⟨o,p⟩).out=(l.foldl (pk1 k b1 b2) ⟨o,c⟩).out/\∀n,(l.foldl (pp1 k b1 b2) ⟨o,p⟩).b n=if n∈l then(l.foldl (pk1 k b1 b2) ⟨o,c⟩).b n else p n
 | [],_,_,_,_,_,_=>⟨rfl,λn=>rfl⟩
 |m::l,o,p,c,nd,hs,hp=>by
  rw[jP]at nd;rw[kC,kC]
  by_cases e:b1 m=b2 m
  . rw[show pp1 k b1 b2 ⟨o,p⟩ m=⟨o,p⟩ from ke e,show pk1 k b1 b2 ⟨o,c⟩ m=⟨o,c.put m (b1.at m)⟩ from ke e];obtain⟨h1,h2⟩:=cn l o p (c.put m (b1.at m)) nd.2 (λn hn=>hs n (jE _ hn)) λn hn=>hp n (jE _ hn);refine⟨h1,λn=>?_⟩;rw[h2 n]
    by_cases hn:n∈l
    . rw[ke hn,ke (jE _ hn)]
    . rw[k9 hn]
      by_cases z:n=m
      . subst z;rw[ke jH,YZ _ l _ hn,hp n jH e];show b1 n=(if n=n then some (b1.at n) else _);rw[ke rfl];have:=hs n jH;unfold Bo.at
        cases hb:b1 n with
        |none=>rw[hb]at this;cases this
        |some v=>rfl
      . rw[k9 (λy=>(jB.mp y).elim z hn)]
  . rw[show pp1 k b1 b2 ⟨o,p⟩ m=⟨ltv o (.pick (.nam k) (.nam (b1.at m)) (.nam (b2.at m))),p.put m (nx o)⟩ from k9 e,show pk1 k b1 b2 ⟨o,c⟩ m=⟨ltv o (.pick (.nam k) (.nam (b1.at m)) (.nam (b2.at m))),c.put m (nx o)⟩ from k9 e]
    obtain⟨h1,h2⟩:=cn l (ltv o (.pick (.nam k) (.nam (b1.at m)) (.nam (b2.at m)))) (p.put m (nx o)) (c.put m (nx o)) nd.2 (λn hn=>hs n (jE _ hn)) λn hn he=>by
     have nm:n≠m:=λz=>nd.1 (z ▸ hn);unfold Bo.put;rw[k9 nm];exact hp n (jE _ hn) he
    refine⟨h1,λn=>?_⟩;rw[h2 n]
    by_cases hn:n∈l
    . rw[ke hn,ke (jE _ hn)]
    . rw[k9 hn]
      by_cases z:n=m
      . subst z;rw[ke jH,YZ _ l _ hn];show(if n=n then some _ else _)=(if n=n then some _ else _);rw[ke rfl,ke rfl]
      . rw[k9 (λy=>(jB.mp y).elim z hn)];show(if n=m then _ else p n)=p n;rw[k9 z]
structure Grw (o o':List Wr) (c:Nat):Prop where
 pre:∃l,o'=o++l/\l.length<=c
def Grw.gv(h:Grw o o' c):gvn o<=gvn o':=by
 obtain⟨l,rfl,_⟩:=h.pre;rw[XV];omega
def Grw.len(h:Grw o o' c):o.length<=o'.length/\o'.length<=o.length+c:=by
 obtain⟨l,rfl,_⟩:=h.pre;rw[jY];omega
def Grw.refl(o:List Wr)(c:Nat):Grw o o c:=⟨[],(jR _).symm,jS _⟩
def Grw.trans(h:Grw a b m)(h2:Grw b c n):Grw a c (m+n):=by
 obtain⟨l,rfl,h1⟩:=h.pre;obtain⟨l2,rfl,h3⟩:=h2.pre;exact⟨l++l2,jw ..,by rw[jY];omega⟩
def Grw.mono(h:Grw a b m)(l:m<=n):Grw a b n:=by
 obtain⟨x,e,h1⟩:=h.pre;exact⟨x,e,je h1 l⟩
def X4(o:List Wr)(e:Ex):Grw o (ltv o e) 1:=⟨[_],rfl,jG _⟩
def cr(o:List Wr)(r:Wr):Grw o (o++[r]) 1:=⟨[_],rfl,jG _⟩
structure LyF (pool K kn:qB) (c:Nat) (s s':LB):Prop where
 gr:Grw s.out s'.out c
 dm:Dm s'.b (K++kn)
 nw:Nw s.b s'.b (gvn s.out) (gvn s'.out)
theorem cv{b1 b2:Bo}{k:Str}:∀(l:qB) (s:LB) (K:qB),(∀n∈l,(b1 n).isSome=true)->Dm s.b K->Grw s.out (l.foldl (pk1 k b1 b2) s).out l.length/\Dm (l.foldl (pk1 k b1 b2) s).b (K++l) /\
 ∀n,(l.foldl (pk1 k b1 b2) s).b n=s.b n\/(l.foldl (pk1 k b1 b2) s).b n=b1 n\/∃i,gvn s.out<=i/\i<gvn (l.foldl (pk1 k b1 b2) s).out/\(l.foldl (pk1 k b1 b2) s).b n=some (vn i)
 | [],s,K,_,h=>⟨Grw.refl _ _,by rw[jR];exact h,λn => .inl rfl⟩
 |m::l,s,K,hs,h=>by
  rw[kC]
  by_cases e:b1 m=b2 m
  . rw[show pk1 k b1 b2 s m=⟨s.out,s.b.put m (b1.at m)⟩ from ke e];obtain⟨h1,h2,h3⟩:=cv l ⟨s.out,s.b.put m (b1.at m)⟩ (K ++ [m]) (λn hn=>hs n (jE _ hn)) (h.put m _);refine⟨h1.mono (j7 _),by rw[jw]at h2;exact h2,λn=>?_⟩;rcases h3 n with z | z
    . by_cases c:n=m
      . right;left
        rw[z];show(if n=m then some (b1.at m) else s.b n)=b1 n;rw[ke c,c];have:=hs m jH;unfold Bo.at
        cases hb:b1 m with
        |none=>rw[hb]at this;cases this
        |some v=>rfl
      . left
        rw[z];show(if n=m then some (b1.at m) else s.b n)=s.b n;rw[k9 c]
    . exact .inr z
  . rw[show pk1 k b1 b2 s m=⟨ltv s.out (.pick (.nam k) (.nam (b1.at m)) (.nam (b2.at m))),s.b.put m (nx s.out)⟩ from k9 e];obtain⟨h1,h2,h3⟩:=cv l ⟨ltv s.out (.pick (.nam k) (.nam (b1.at m)) (.nam (b2.at m))),s.b.put m (nx s.out)⟩ (K ++ [m]) (λn hn=>hs n (jE _ hn)) (h.put m _);have g1:=h1.gv;have g2:=cm s.out (.pick (.nam k) (.nam (b1.at m)) (.nam (b2.at m)));refine⟨((X4 _ _).trans h1).mono (by rw[jU];omega),by rw[jw]at h2;exact h2,λn=>?_⟩;rcases h3 n with z | z | ⟨i,a1,a2,z⟩
    . by_cases c:n=m
      . right;right
        refine⟨gvn s.out,jG _,by dsimp only at g1;omega,?_⟩;rw[z];show(if n=m then some (nx s.out) else s.b n)=_;rw[ke c]
      . left
        rw[z];show(if n=m then some (nx s.out) else s.b n)=s.b n;rw[k9 c]
    . exact .inr (.inl z)
    . exact .inr (.inr ⟨i,by dsimp only at a1;omega,a2,z⟩)
def Xk:n∈both pool b1 b2↔n∈pool/\(b1 n).isSome=true/\(b2 n).isSome=true:=by
 unfold both;rw[j6,jj,ci]
def cw(pool:qB)(b1 b2:Bo):(both pool b1 b2).length<=pool.length:=by
 refine je (List.length_filter_le _ _) ?_;exact List.Nodup.length_le_of_subset (iM (YY _)) λn hn=>ci.mp hn
def uZ(pool:qB)(b1 b2:Bo):(both pool b1 b2).Nodup:=(iM (YY pool)).filter _
def Lay(pool K kn:qB)(c:Nat)(s s':LB):Prop:=LyF pool K kn c s s'/\∀n∈kn,n∈pool
def FP(pool:qB)(f:List Wr->Option Str->LB->LB)(okf:qB->List Wr->Prop)(csf:List Wr->Nat):Prop :=
 ∀K rows g s,okf K rows->Dm s.b K->(∀n∈K,n∈pool)->Lay pool K (knR rows) (csf rows) s (f rows g s)
def FM(okf:qB->List Wr->Prop):Prop:=∀K K' rows,(∀n∈K,n∈K')->okf K rows->okf K' rows
def iP{b:Bo}{K:qB}(h:Dm b K){n:Str}(hn:n∉K):b n=none:=by
 cases e:b n with
 |none=>rfl
 |some v=>exact absurd ((h n).mp (by rw[e];rfl)) hn
theorem XW:∀(l:List (Str×Ex)) (s:LB) (K:qB),Dm s.b K->Grw s.out (l.foldl (ag1 b) s).out l.length/\Dm (l.foldl (ag1 b) s).b (K++l.map (·.1))
 | [],s,K,h=>⟨Grw.refl _ _,by rw[List.map_nil,jR];exact h⟩
 |p::l,s,K,h=>by
  rw[kC];obtain⟨h1,h2⟩:=XW l (ag1 b s p) (K++[p.1]) (h.put _ _);exact⟨((X4 _ _).trans h1).mono (by rw[jU];omega),by rw[jw]at h2;exact h2⟩
theorem a7{α β:Type}:∀{l:List α}{m:List β},l.length=m.length->(l.zip m).map (·.1)=l
 | [],[],_=>rfl
 |a::l,b::m,h=>by rw[List.zip_cons_cons,jg,a7 (by simpa using h)]
section
variable {pool:qB}{ps:List Pt}{f:List Wr->Option Str->LB->LB}{okf:qB->List Wr->Prop}{csf:List Wr->Nat}{K:qB}
structure IfF (pool K:qB) (a c:List Wr) (csf:List Wr->Nat) (s i t1 t1' t2:LB):Prop where
 gi:Grw s.out i.out 2
 l1:Lay pool K (knR a) (csf a) i t1
 e1:t1'.b=s.b
 g1:Grw t1.out t1'.out 1
 l2:Lay pool K (knR c) (csf c) t1' t2
 ib:i.b=s.b
theorem iQ(h:IfF pool K a c csf s i t1 t1' t2)(sub:∀n∈K,n∈pool)(n:Str):n∈both pool t1.b t2.b↔n∈K++(knR a).filter λx=>decide (x∈knR c):=by
 rw[Xk,h.l1.1.dm n,h.l2.1.dm n,jI,jI,jI,j6,qg];constructor
 . rintro⟨_,h1 | h1,h2⟩
   . exact .inl h1
   . exact h2.imp id λh2=>⟨h1,h2⟩
 . rintro (h1 | ⟨h1,h2⟩)
   . exact⟨sub n h1,.inl h1,.inl h1⟩
   . exact⟨h.l1.2 n h1,.inr h1,.inr h2⟩
def v6(h:IfF pool K a c csf s i t1 t1' t2)(dm:Dm s.b K)(sub:∀n∈K,n∈pool)(k:Str):Lay pool K ((knR a).filter λx=>decide (x∈knR c)) (3+pool.length+csf a+csf c) s (Q2 pool k t1.b t2.b t2.out):=by
 obtain⟨p1,p2,p3⟩:=cv (b1:=t1.b) (b2:=t2.b) (k:=k) (both pool t1.b t2.b) ⟨t2.out,bo0⟩ [] (λn hn=>(Xk.mp hn).2.1) dm0;have mem:=iQ h sub;have bl:=cw pool t1.b t2.b;have gg:=((h.gi.trans h.l1.1.gr).trans (h.g1.trans h.l2.1.gr)).trans p1;refine⟨⟨gg.mono 'd',p2.congr λn=>by rw[j0];exact mem n,λn=>?_⟩,λn hn=>h.l1.2 n (j6.mp hn).1⟩;have g0:=h.gi.gv;have g1:=h.l1.1.gr.gv;have g2:=h.g1.gv;have g3:=h.l2.1.gr.gv;have g4:=p1.gv;rcases p3 n with z|z|⟨j,a1,a2,z⟩
 . refine .inl (z.trans ?_);show none=s.b n;refine(iP dm λhn=>?_).symm;have hb:n∈both pool t1.b t2.b:=(mem n).mpr (ji _ hn);have:=(p2 n).mpr (by rw[j0];exact hb);rw[z]at this;cases this
 . rcases h.l1.1.nw n with y | ⟨j,a1,a2,y⟩
   . exact .inl (z.trans (y.trans (by rw[h.ib])))
   . exact .inr ⟨j,by omega,by show j<gvn (Q2 pool k t1.b t2.b t2.out).out;unfold Q2;dsimp only at g4;omega,z.trans y⟩
 . exact .inr ⟨j,by dsimp only at a1;omega,a2,z⟩
def v7(h:IfF pool K a c csf s i t1 t1' t2)(dm:Dm s.b K)(sub:∀n∈K,n∈pool)(k:Str):(both pool t1.b t2.b).foldl (pp1 k t1.b t2.b) ⟨t2.out,s.b⟩=Q2 pool k t1.b t2.b t2.out:=by
 have mem:=iQ h sub;have g1:=h.g1.gv
 have same:∀n∈both pool t1.b t2.b,t1.b n=t2.b n->s.b n=t1.b n:=λn hn e=>by
  rcases h.l1.1.nw n with y|⟨j,a1,a2,y⟩
  . rw[y,h.ib]
  . rcases h.l2.1.nw n with z | ⟨m,b1,b2,z⟩
    . rw[e,z,h.e1]
    . rw[y,z]at e;have:=uY (Option.some.inj e);omega
 obtain⟨h1,h2⟩:=cn (b1:=t1.b) (b2:=t2.b) (k:=k) (both pool t1.b t2.b) t2.out s.b bo0 (uZ ..) (λn hn=>(Xk.mp hn).2.1) same
 have hb:((both pool t1.b t2.b).foldl (pp1 k t1.b t2.b) ⟨t2.out,s.b⟩).b=(Q2 pool k t1.b t2.b t2.out).b:=funext λn=>by
  rw[h2 n]
  by_cases c:n∈both pool t1.b t2.b
  . rw[ke c];rfl
  . rw[k9 c];unfold Q2;rw[YZ n _ _ c];exact iP dm λhn=>c ((mem n).mpr (ji _ hn))
 generalize(both pool t1.b t2.b).foldl (pp1 k t1.b t2.b) ⟨t2.out,s.b⟩=A at h1 hb ⊢;obtain⟨o,b⟩:=A;unfold Q2 at hb ⊢;generalize(both pool t1.b t2.b).foldl (pk1 k t1.b t2.b) ⟨t2.out,bo0⟩=B at h1 hb ⊢;obtain⟨o2,b2⟩:=B;dsimp only at h1 hb;rw[h1,hb]
def cy(g:Option Str)(k:Str)(o:List Wr):Grw o (if1 g k o).1 1:=by
 cases g with
 |none=>exact Grw.refl _ _
 |some gd=>exact X4 _ _
def cA(fp:FP pool f okf csf)(g:Option Str)(ha:okf K a)(hc:okf K c)(dm:Dm s.b K)(sub:∀n∈K,n∈pool)(v:Ex) :
 IfF pool K a c csf s ⟨(if1 g (nx s.out) (ltv s.out e)).1,s.b⟩ (f a (some (if1 g (nx s.out) (ltv s.out e)).2) ⟨(if1 g (nx s.out) (ltv s.out e)).1,s.b⟩) ⟨ltv (f a (some (if1 g (nx s.out) (ltv s.out e)).2) ⟨(if1 g (nx s.out) (ltv s.out e)).1,s.b⟩).out v,s.b⟩
  (f c (some (nx (f a (some (if1 g (nx s.out) (ltv s.out e)).2) ⟨(if1 g (nx s.out) (ltv s.out e)).1,s.b⟩).out)) ⟨ltv (f a (some (if1 g (nx s.out) (ltv s.out e)).2) ⟨(if1 g (nx s.out) (ltv s.out e)).1,s.b⟩).out v,s.b⟩) :=
 ⟨(X4 _ _).trans (cy _ _ _),fp K a _ _ ha dm sub,rfl,X4 _ _,fp K c _ _ hc dm sub,rfl⟩
theorem a8(fp:FP pool f okf csf)(fm:FM okf)(g:Option Str)(s:LB)(ha:okf K a)(dm:Dm s.b K)(sub:∀n∈K,n∈pool):∀k:Nat,Lay pool K (if 0<k then knR a else []) (k*csf a) s (Nat.rec s (λ_ t=>f a g t) k)
 |0=>⟨⟨Grw.refl _ _,by rw[k9 (js 0),jR];exact dm,Nw.refl _ _ _⟩,λn hn=>by rw[k9 (js 0)]at hn;cases hn⟩
 |k+1=>by
  obtain⟨h1,h2⟩:=a8 fp fm g s ha dm sub k;have sub':∀n∈K++(if 0<k then knR a else []),n∈pool:=λn hn=>(jI.mp hn).elim (sub n) (h2 n);obtain⟨h3,h4⟩:=fp (K++(if 0<k then knR a else [])) a g (Nat.rec s (λ_ t=>f a g t) k) (fm _ _ _ (λn hn=>ji _ hn) ha) h1.dm sub';have g1:=h1.gr.gv;have g2:=h3.gr.gv;rw[ke (Nat.succ_pos k)];refine⟨⟨(h1.gr.trans h3.gr).mono (by rw[Nat.succ_mul];exact jG _),h3.dm.congr λn=>?_,(h1.nw.wide (jG _) g2).trans (h3.nw.wide g1 (jG _))⟩,h4⟩;rw[jI,jI,jI];constructor
  . rintro ((h | h) | h)
    . exact .inl h
    . split at h
      . exact .inr h
      . cases h
    . exact .inr h
  . rintro (h | h)
    . exact .inl (.inl h)
    . exact .inr h
def v8(fp:FP pool f okf csf)(g:Option Str)(hx:x∈pool)(hq:fnd ps p=some q)(hl:q.pa.length=es.length)(hr:okf q.pa q.rs)(sq:∀n∈q.pa,n∈pool)(dm:Dm s.b K):Lay pool K [x] (1+es.length+csf q.rs) s ⟨ltv (f q.rs g (args s.b (q.pa.zip es) s.out)).out (q.e.ren (f q.rs g (args s.b (q.pa.zip es) s.out)).b.at),s.b.put x (nx (f q.rs g (args s.b (q.pa.zip es) s.out)).out)⟩:=by
 obtain⟨h1,h2⟩:=XW (b:=s.b) (q.pa.zip es) ⟨s.out,bo0⟩ [] dm0;rw[j0,a7 hl]at h2;obtain⟨h3,_⟩:=fp q.pa q.rs g (args s.b (q.pa.zip es) s.out) hr h2 sq;have zl:(q.pa.zip es).length=es.length:=by rw[List.length_zip];omega
 have g1:=h1.gv;have g2:=h3.gr.gv;have e:=cm (f q.rs g (args s.b (q.pa.zip es) s.out)).out (q.e.ren (f q.rs g (args s.b (q.pa.zip es) s.out)).b.at);refine⟨⟨((h1.trans h3.gr).trans (X4 _ _)).mono 'd',dm.put _ _,(Nw.refl _ _ _).put x ?_ ?_⟩,λn hn=>by rw[jA.mp hn];exact hx⟩
 . exact je g1 g2
 . dsimp only;omega
def v9(fp:FP pool f okf csf)(fm:FM okf)(g:Option Str)(hr:ok1 pool ps okf K r)(dm:Dm s.b K)(sub:∀n∈K,n∈pool):Lay pool K (kn1 r) (cs1 pool ps csf r) s (JG pool ps f g r s):=by
 cases r with
 |draw x os =>
  refine⟨⟨cr _ _,dm.put _ _,(Nw.refl _ _ _).put x (jG _) ?_⟩,λn hn=>by rw[jA.mp hn];exact hr.1⟩;show gvn s.out<gvn (s.out++[_]);rw[XV];exact Nat.lt_succ_self _
 |lett x e =>
  refine⟨⟨X4 _ _,dm.put _ _,(Nw.refl _ _ _).put x (jG _) ?_⟩,λn hn=>by rw[jA.mp hn];exact hr.1⟩;show gvn s.out<gvn (ltv s.out _);rw[cm];exact Nat.lt_succ_self _
 |seen e =>
  cases g with
  |none=>exact⟨⟨(cr _ _).mono (j7 _),by show Dm s.b (K++[]);rw[jR];exact dm,Nw.refl _ _ _⟩,λn hn=>(nomatch hn)⟩
  |some gd=>exact⟨⟨(X4 _ _).trans (cr _ _),by show Dm s.b (K++[]);rw[jR];exact dm,Nw.refl _ _ _⟩,λn hn=>(nomatch hn)⟩
 |ifr e a c=>exact v6 (cA fp g hr.2.1 hr.2.2 dm sub _) dm sub _
 |rnd k a=>exact a8 fp fm g s hr.2 dm sub k
 |call x p es =>
  obtain⟨hx,q,hq,hl,_,_,sq,hrs,_⟩:=hr;have:=v8 (f:=f) fp g hx hq hl hrs sq dm;show Lay pool K [x] (match fnd ps p with|none=>0|some q=>1+es.length+csf q.rs) s (match fnd ps p with|none=>s|some q=>_);rw[hq];exact this
theorem a9(fp:FP pool f okf csf)(fm:FM okf)(g:Option Str):∀(rows:List Wr) (K:qB) (s:LB),okR pool ps okf K rows->Dm s.b K->(∀n∈K,n∈pool)->Lay pool K (knR rows) (csR pool ps csf rows) s (JS pool ps f g rows s)
 | [],K,s,_,dm,_=>⟨⟨Grw.refl _ _,by show Dm s.b (K++[]);rw[jR];exact dm,Nw.refl _ _ _⟩,λn hn=>(nomatch hn)⟩
 |r::rows,K,s,h,dm,sub=>by
  obtain⟨h1,h2⟩:=v9 fp fm g h.1 dm sub;obtain⟨h3,h4⟩:=a9 fp fm g rows (K++kn1 r) _ h.2 h1.dm λn hn=>(jI.mp hn).elim (sub n) (h2 n);have g1:=h1.gr.gv;have g2:=h3.gr.gv;refine⟨⟨h1.gr.trans h3.gr,by have:=h3.dm;rw[jw]at this;exact this,(h1.nw.wide (jG _) g2).trans (h3.nw.wide g1 (jG _))⟩,λn hn=>(jI.mp hn).elim (h2 n) (h4 n)⟩
def va(fm:FM okf)(s:∀n∈K,n∈K')(h:ok1 pool ps okf K r):ok1 pool ps okf K' r:=by
 cases r with
 |draw x os=>exact h
 |lett x e=>exact⟨h.1,h.2.mono s⟩
 |seen e=>exact OkE.mono h s
 |ifr e a c=>exact⟨h.1.mono s,fm _ _ _ s h.2.1,fm _ _ _ s h.2.2⟩
 |rnd k a=>exact⟨h.1,fm _ _ _ s h.2⟩
 |call x p es =>
  obtain⟨hx,q,h1,h2,h3,h4,h5⟩:=h;exact⟨hx,q,h1,h2,h3,λe he=>(h4 e he).mono s,h5⟩
theorem iR(fm:FM okf):∀(rows:List Wr) (K K':qB),(∀n∈K,n∈K')->okR pool ps okf K rows->okR pool ps okf K' rows
 | [],_,_,_,_=>trivial
 |r::rows,K,K',s,h=>⟨va fm s h.1,iR fm rows _ _ (λn hn=>(jI.mp hn).elim (λz=>ji _ (s n z)) λz=>jM _ z) h.2⟩
end
theorem Qy(pool:qB)(ps:List Pt):∀d,FM (okD pool ps d)
 |0=>λ_ _ _ _ h=>h
 |d+1=>λK K' rows s h=>iR (Qy pool ps d) rows K K' s h
theorem Qc(pool:qB)(ps:List Pt):∀d,FP pool (xS pool ps d) (okD pool ps d) (csD pool ps d)
 |0=>λ_ _ _ _ h=>h.elim
 |d+1=>λK rows g s h dm sub=>a9 (Qc pool ps d) (Qy pool ps d) g rows K s h dm sub
def hid(A:List xb)(H:Hp):Hp:=λp=>if p∈A then none else H p
def xJ(A:List xb)(H:Hp):Same (hid A H) H:=λb o h=>by
 unfold hid at h;split at h
 . cases h
 . exact h
def xQ(hp:p∉A)(h:H p=some o):hid A H p=some o:=by unfold hid;rw[k9 hp];exact h
def J3(s:Same H H'):Same (hid A H) (hid A H'):=λb o e=>by
 unfold hid at e ⊢;split at e
 . cases e
 . rename_i hb;rw[k9 hb];exact s b o e
def Qz(hp:p∈A):hid A (upd H p o)=hid A H:=funext λb=>by
 unfold hid
 by_cases h:b∈A
 . rw[ke h,ke h]
 . rw[k9 h,k9 h,xz (λz:b=p=>h (by rw[z];exact hp))]
def Al(A:List xb)(H:Hp):Prop:=∀a∈A,∃o,H a=some o
def Al.not(h:Al A H)(hp:H p=none):p∉A:=λz=>by
 obtain⟨o,e⟩:=h p z;rw[e]at hp;cases hp
def Al.same(h:Al A H)(e:Same H H'):Al A H':=λa ha=>by
 obtain⟨o,q⟩:=h a ha;exact⟨o,e a o q⟩
def IsA(K:qu)(H0 H:Hp)(dd:D)(x:V):Prop:=∀A,Al A H0->IsD K (hid A H) dd x
theorem IsA.same(h:IsA K H0 H dd x)(s:Same H H'):IsA K H0 H' dd x:=λA a=>(h A a).same (J3 s)
def IsA.back(h:IsA K H1 H dd x)(s:Same H0 H1):IsA K H0 H dd x:=λA a=>h A (a.same s)
def vb(H:Hp):hid [] H=H:=funext λb=>by unfold hid;rw[k9 (λz=>nomatch z)]
def IsA.plain(h:IsA K H0 H dd x):IsD K H dd x:=by
 have:=h [] (λ_ z=>nomatch z)
 rwa [vb]at this
def cB(s:Same H0 H1)(np:H1 p=none)(h:∀A,Al A H0->IsDs K (hid A H1) ds xs):IsA K H0 (upd H1 p (.tup xs)) (.tup ds) (.ref p):=λA a=>by
 have hp:p∉A:=(a.same s).not np;exact⟨p,xs,rfl,.of (xQ hp xm),(h A a).same (J3 (xy np _))⟩
def vc{ix:qC}{wi:TI}{te:TE}{g:TG}{D:Ends}(h:wi σ H (JQ ix te σ λx H1=>g x σ H1 D.nx)):Qr (JL ix wi Q9 te) g D σ H:=h
theorem iS{P:V->Prop}:∀{l:List Unit}{ys:List V},Paired (λ_ v=>P v) l ys->(∀y∈ys,P y)/\ys.length=l.length
 |_,_,.nil=>⟨λ_ h=>(nomatch h),rfl⟩
 |_,_,.cons h t=>by
  obtain⟨h1,h2⟩:=iS t;exact⟨λy hy=>(jB.mp hy).elim (λe=>e ▸ h) (h1 y),by rw[jU,jU,h2]⟩
def cC(P:Hp->V->Prop)(mono:∀{H H':Hp}{v:V},Same H H'->P H v->P H' v)(hz:n<=sizeLine)
 (step:∀(i:Nat) (Da:xb) (H':Hp) (R:VK),i<n->Same H H'->H Da=none->(∃o,H' Da=some o)->(∀y qH,Same H' qH->P (Jz Da qH) y->R y qH)->te (some (.int (0+(i:Nat)))::cap ix σ) H' R)
 (qJ:∀p H' ys,Same H H'->H p=none->H' p=some (.lst ys)->ys.length=n->(∀y∈ys,P H' y)->Q (.ref p) H'):JQ ix te σ Q (Itr 0 n) H :=
 QY (α:=Unit) (λH _ v=>P H v) (λs h=>mono s h) n (λi => .int (0+(i:Nat))) (List.replicate n ()) (List.length_replicate ..) hz (λ_ _=>jG _) (λi H' hi sm=>⟨hi,λx qH hy=>⟨hy.2,hy.1⟩⟩) (λi _ Da H' R hi _ sm nD oD hR=>step i Da H' R hi sm nD oD hR)
  λp H' ys s1 np e pr=>by
   obtain⟨h1,h2⟩:=iS pr;exact qJ p H' ys s1 np e (by rw[h2,List.length_replicate]) h1
theorem cD:∀{ys:List V},(∀y∈ys,∃n:Int,y=.int n/\lo<=n/\n<=hi)->∃ws:qD,ys=ws.map V.int/\∀w∈ws,lo<=w/\w<=hi
 | [],_=>⟨[],rfl,λ_ h=>(nomatch h)⟩
 |y::ys,h=>by
  obtain⟨n,rfl,n0,n1⟩:=h _ (jH ..);obtain⟨ws,rfl,h1⟩:=cD (ys:=ys) λz hz=>h z (jE _ hz);exact⟨n::ws,rfl,λw hw=>(jB.mp hw).elim (λe=>e ▸ ⟨n0,n1⟩) (h1 w)⟩
def cell(ns:qD)(k:Int):Int:=ns.getD k.toNat 0
def cE:Sp:=λvs H Q _=>∃a ns k,vs=[.ref a,.int k]/\SqL K H a (ns.map V.int)/\0<=k/\Q (.int (cell ns k)) H
def vd(B:Bl mg)(F:Fn K mg "_law_cell_at" Yt ["_law_script", "_law_k"]):Def P w K mg base "_law_cell_at" 1 ["_law_script", "_law_k"] (cE (K:=K)):=by
 refine F.ok uO (λvs H Q E h=>?_) (λf qF A outer s H vs Q E hr h=>?_)
 . obtain⟨a,ns,k,rfl,_⟩:=h;rfl
 obtain⟨a,ns,k,rfl,hS,hk,q⟩:=h
 refine⟨_,(@xu _ _ _ _ _ (xO (xK Z8 (pv 1) (J5 (JF K rfl) rfl B.len PySem.boot_len (xC (pv 0) xk)) (xN _)) (@xw _ _ _ (xP (xD (xE K rfl) (pv 0) (pv 1) (λ_ _=>rfl)))) xX)
  (@xw _ _ _ (xP xi))),?_⟩
 refine⟨_,rfl,_,rfl,_,_,rfl,JZ hS,_,_,rfl,rfl,_,rfl,?_⟩;have hl:(ns.map V.int).length=ns.length:=jC _;refine xU (λc=>?_) (λc=>?_)
 . rw[hl]at c;refine⟨_,rfl,_,rfl,.inl ⟨a,_,_,.int (cell ns k),rfl,rfl,hS,?_,q⟩⟩;have hk':k.toNat < ns.length:=by omega
   have e:k=((k.toNat:Nat):Int):=by omega
   rw[e];refine Jx ?_;rw[jJ,jD hk'];show some (V.int ns[k.toNat])=some (V.int (ns.getD _ 0));rw[<- e];simp[List.getD,hk']
 . rw[hl]at c
   have e:cell ns k=0:=by
    unfold cell;rw[jN,List.getElem?_eq_none 'd'];rfl
   rw[e]at q;exact q
def Xc(A:List xb)(H H':Hp):Prop:=∀b u,b∉A->H b=some u->H' b=some u
def Xc.of(s:Same H H'):Xc A H H':=λb u _ e=>s b u e
def Xc.trans(h:Xc A H H')(h':Xc A H' qH):Xc A H qH:=λb u n e=>h' b u n (h b u n e)
def Xc.wide(h:Xc A H H')(s:∀a∈A,a∈B):Xc B H H':=λb u n e=>h b u (λz=>n (s b z)) e
def Jl(h:a∈A):Xc A H (upd H a u):=λb u n e=>by rw[xz (λz:b=a=>n (z ▸ h))];exact e
def NoD(u:HO):Prop:=(∀xs,u ≠ .lst xs)/\(∀xs,u ≠ .tup xs)/\(∀o xs,u ≠ .frz o (.lst xs))/\∀o xs,u ≠ .frz o (.tup xs)
def DEx(B:List xb)(H H':Hp):Prop:=∀b u,b∉B->H b=some u->¬NoD u->H' b=some u
theorem DEx.hid(h:DEx B H H')(e:hid B H b=some u)(n:¬NoD u):hid B H' b=some u:=by
 unfold Fd.hid at e ⊢;split at e
 . cases e
 . rename_i hb;rw[k9 hb];exact h b u hb e n
def DEx.of(h:Xc A H H')(n:∀a∈A,a∉B->∀u,H a=some u->NoD u):DEx B H H':=λb u hb e nd=>h b u (λz=>nd (n b z hb u e)) e
def ab:NoD (.ins C dx fs):=⟨λ_ z=>by(cases z),λ_ z=>by(cases z),λ_ _ z=>by(cases z),λ_ _ z=>by(cases z)⟩
def ZD:NoD (.dK kvs):=⟨λ_ z=>by(cases z),λ_ z=>by(cases z),λ_ _ z=>by(cases z),λ_ _ z=>by(cases z)⟩
def Jp(h:DEx B H H')(q:SqT K (hid B H) a xs):SqT K (hid B H') a xs:=by
 rcases q with (q|⟨o,q⟩)|q
 . exact .inl (.inl (h.hid q λz=>z.2.1 _ rfl))
 . exact .inl (.inr ⟨o,h.hid q λz=>z.2.2.2 _ _ rfl⟩)
 . exact .inr q
def ZE(h:DEx B H H')(q:SqL K (hid B H) a xs):SqL K (hid B H') a xs:=by
 rcases q with (q|⟨o,q⟩)|q
 . exact .inl (.inl (h.hid q λz=>z.1 _ rfl))
 . exact .inl (.inr ⟨o,h.hid q λz=>z.2.2.1 _ _ rfl⟩)
 . exact .inr q
mutual
theorem Jr{B:List xb}{H H':Hp}(s:DEx B H H'):∀{dd:D}{x:V},IsD K (hid B H) dd x->IsD K (hid B H') dd x
 |.non,_,h=>h
 |.bl _,_,h=>h
 |.int _,_,h=>h
 |.str _,_,h=>h
 |.tup _,_,⟨a,xs,h1,h2,h3⟩=>⟨a,xs,h1,Jp s h2,X5 s h3⟩
 |.lst _,_,⟨a,xs,h1,h2,h3⟩=>⟨a,xs,h1,ZE s h2,X5 s h3⟩
theorem X5{B:List xb}{H H':Hp}(s:DEx B H H'):∀{ds:List D}{xs:List V},IsDs K (hid B H) ds xs->IsDs K (hid B H') ds xs
 | [],_,h=>h
 |_::_,_,⟨x,r,h1,h2,h3⟩=>⟨x,r,h1,Jr s h2,X5 s h3⟩
end
structure BkD (pool:qB) (kvs:List (Key×V)) (b:Bo):Prop where
 nd:(kvs.map (·.1)).Nodup
 key:∀k∈kvs.map (·.1),∃n∈pool,k=.inr n
 val:∀n,valV kvs (.inr n)=(b n).map V.str
def ZF(pool:qB):BkD pool [] bo0:=⟨j4,λk h=>(nomatch h),λn=>rfl⟩
def cF(kvs:List (Key×V))(k:Key)(v:V):(k∈kvs.map (·.1)/\(xH kvs k v).map (·.1)=kvs.map (·.1))\/(k∉kvs.map (·.1)/\(xH kvs k v).map (·.1)=kvs.map (·.1)++[k]):=by
 unfold xH
 by_cases h:(kvs.any λkv=>decide (kv.1=k))=true
 . refine .inl ⟨?_,?_⟩
   . obtain⟨p,hp,e⟩:=List.any_eq_true.mp h;exact jn.mpr ⟨p,hp,kS e⟩
   . rw[ke h,List.map_map]
     exact List.map_congr_left λp _=>by
      show(if p.1=k then(p.1,v) else p).1=p.1;split<;>rfl
 . refine .inr ⟨λz=>?_,?_⟩
   . obtain⟨p,hp,e⟩:=jn.mp z;exact h (List.any_eq_true.mpr ⟨p,hp,kf e⟩)
   . rw[k9 h,jd];rfl
theorem BkD.put(h:BkD pool kvs b)(hx:x∈pool)(v:Str):BkD pool (xH kvs (.inr x) (.str v)) (b.put x v):=by
 refine⟨?_,λk hk=>?_,λn=>?_⟩
 . rcases cF kvs (.inr x) (.str v) with ⟨_,e⟩ | ⟨c,e⟩
   . rw[e];exact h.nd
   . rw[e,j3];exact⟨h.nd,by simp,λa ha b hb z=>c (by rw[jA]at hb;rw[<- hb,<- z];exact ha)⟩
 . rcases cF kvs (.inr x) (.str v) with ⟨_,e⟩ | ⟨c,e⟩
   . rw[e]at hk;exact h.key k hk
   . rw[e]at hk;rcases jI.mp hk with hk | hk
     . exact h.key k hk
     . exact⟨x,hx,jA.mp hk⟩
 . unfold Bo.put
   by_cases c:n=x
   . rw[ke c,c,Y4,ke rfl];rfl
   . rw[k9 c,Y4,k9 (λz=>c (Sum.inr.inj z)),h.val n]
def BkD.names(h:BkD pool kvs b):∃ns:qB,kvs.map (·.1)=ns.map .inr/\ns.Nodup/\(∀n∈ns,n∈pool)/\∀n,n∈ns↔(b n).isSome=true:=by
 obtain⟨ns,e⟩:∃ns:qB,kvs.map (·.1)=ns.map .inr:=by
  have hk:=h.key;generalize kvs.map (·.1)=l at hk
  induction l with
  |nil=>exact⟨[],rfl⟩
  |cons k l ih =>
   obtain⟨n,_,rfl⟩:=hk k jH;obtain⟨ns,e⟩:=ih λk hk'=>hk k (jE _ hk');exact⟨n::ns,by rw[e];rfl⟩
 refine⟨ns,e,?_,λn hn=>?_,λn=>?_⟩
 . have:=h.nd;rw[e]at this;unfold List.Nodup at this ⊢;rw[List.pairwise_map]at this;exact this.imp λa b=>a (by rw[b])
 . obtain⟨m,hm,z⟩:=h.key (.inr n) (by rw[e];exact jn.mpr ⟨n,hn,rfl⟩)
   cases z;exact hm
 . have hv:=h.val n
   have:n∈ns↔(valV kvs (.inr n)).isSome=true:=by
    rw[<- Ze,List.any_eq_true];have e2:(∃x,x∈kvs/\decide (x.1=Sum.inr n)=true)↔(Sum.inr n:Key)∈kvs.map (·.1):=⟨λ⟨x,h1,h2⟩=>jn.mpr ⟨x,h1,kS h2⟩,λh=>by obtain⟨x,h1,h2⟩:=jn.mp h;exact⟨x,h1,kf h2⟩⟩;rw[e2,e];exact⟨λhn=>jn.mpr ⟨n,hn,rfl⟩,λhn=>by obtain⟨m,hm,z⟩:=jn.mp hn;cases z;exact hm⟩
   rw[this,hv,Option.isSome_map]
def BkD.len(h:BkD pool kvs b):kvs.length<=pool.length:=by
 obtain⟨ns,e,nd,sub,_⟩:=h.names;have:=kN List.length e;rw[jC,jC]at this;rw[this];exact List.Nodup.length_le_of_subset nd sub
def J0{a:V}{r:List V}:atI (a::r) 0=some a:=Jx (j:=0) rfl
def J9{a b:V}{r:List V}:atI (a::b::r) 1=some b:=Jx (j:=1) rfl
def JA{a b c:V}{r:List V}:atI (a::b::c::r) 2=some c:=Jx (j:=2) rfl
def Xl{a b c d:V}{r:List V}:atI (a::b::c::d::r) 3=some d:=Jx (j:=3) rfl
structure SpA where
 g:xb
 dx:xb
 pd:xb
 rl:xb
def fSp(γ:SpA)(n:Nat):List (Str×V):=[("parts",.ref γ.pd),("rows",.ref γ.rl),("given",.int (n:Nat))]
def RowN(H0 H:Hp)(rl:xb):Wr->V->Prop
 |.draw _ _,y=>∃(t ol:xb) (v:V) (xs:List V),y=.ref t/\H t=some (.tup [.str "draw",v,.ref ol])/\H ol=some (.lst xs)/\H0 ol=none/\ol≠rl/\xs.length<=100
 |_,_=>True
structure PtD (K:qu) (H:Hp) (rl:xb) (ps:List Pt) (kvs:List (Key×V)):Prop where
 nd:(kvs.map (·.1)).Nodup
 at_:∀f q,fnd ps f=some q->∃v,valV kvs (.inr f)=some v/\IsD K (hid [rl] H) (dPt q) v
structure SpQ (K:qu) (CP:xb) (H0 H:Hp) (γ:SpA) (ps:List Pt) (out:List Wr) (n:Nat):Prop where
 ins:H γ.g=some (.ins CP γ.dx (fSp γ n))
 pd:∃kvs,H γ.pd=some (.dK kvs)/\PtD K H γ.rl ps kvs
 rl:∃ys,H γ.rl=some (.lst ys)/\IsDs K (hid [γ.rl] H) (dWs out) ys/\Paired (RowN H0 H γ.rl) out ys
 sm:Same H0 H
 n0:H0 γ.rl=none
 g0:H0 γ.g=none
abbrev Jd(K:qu)(CP:xb)(H0 H:Hp)(γ:SpA)(ps:List Pt)(out:List Wr):Prop:=SpQ K CP H0 H γ ps out (gvn out)
def cG{H0 H H':Hp}{rl:xb}(s:∀b u,b≠rl->H b=some u->¬NoD u->H' b=some u):∀{l:List Wr}{m:List V},(∀a xs,H a=some (.tup xs)->a≠rl)->Paired (RowN H0 H rl) l m->Paired (RowN H0 H' rl) l m:=by
 intro l m nt p
 induction p with
 |nil=>exact .nil
 | @cons r y _ _ a _ ih =>
  refine .cons ?_ ih
  cases r with
  |draw x os =>
   obtain⟨t,ol,v,xs,e0,e1,e2,e3,e4,e5⟩:=a;exact⟨t,ol,v,xs,e0,s _ _ (nt _ _ e1) e1 (λz=>z.2.1 _ rfl),s _ _ e4 e2 (λz=>z.1 _ rfl),e3,e4,e5⟩
  |_=>trivial
def SpQ.dex(h:SpQ K CP H0 H γ ps out n)(e:DEx [γ.rl] H H')(hi:H' γ.g=some (.ins CP γ.dx (fSp γ n')))(hp:H' γ.pd=H γ.pd)(hr:H' γ.rl=H γ.rl)(sm:Same H0 H'):SpQ K CP H0 H' γ ps out n':=by
 obtain⟨_,⟨kvs,h2,h3⟩,⟨ys,h4,h5,h6⟩,_,h7,h8⟩:=h;refine⟨hi,⟨kvs,hp.trans h2,h3.nd,λf q e'=>?_⟩,⟨ys,hr.trans h4,X5 e h5,cG (λb u nb eb=>e b u (λz=>nb (jA.mp z)) eb) (λa xs ea z=>by rw[z,h4]at ea;cases ea) h6⟩,sm,h7,h8⟩;obtain⟨v,e1,e2⟩:=h3.at_ f q e';exact⟨v,e1,Jr e e2⟩
def SpQ.same(h:SpQ K CP H0 H γ ps out n)(s:Same H H'):SpQ K CP H0 H' γ ps out n:=by
 obtain⟨kvs,h2,_⟩:=h.pd;obtain⟨ys,h4,_⟩:=h.rl;exact h.dex (λb u _ e _=>s b u e) (s _ _ h.ins) (by rw[s _ _ h2,h2]) (by rw[s _ _ h4,h4]) (h.sm.trans s)
def SpQ.giv(h:SpQ K CP H0 H γ ps out n)(m:Nat):SpQ K CP H0 (upd H γ.g (.ins CP γ.dx (fSp γ m))) γ ps out m:=by
 obtain⟨kvs,h2,_⟩:=h.pd;obtain⟨ys,h4,_⟩:=h.rl;refine h.dex (λb u _ e nd=>?_) xm ?_ ?_ λb u e=>?_
 . rw[xz (λz=>by rw[z,h.ins]at e;cases e;exact nd ab)];exact e
 . rw[xz (Qe h2 h.ins (λz=>nomatch z))]
 . rw[xz (Qe h4 h.ins (λz=>nomatch z))]
 . rw[xz (Jm e h.g0)];exact h.sm b u e
theorem iT{α:Type}{F:α->V->Prop}{x:α}{y:V}(h:F x y):∀{l:List α}{m:List V},Paired F l m->Paired F (l++[x]) (m++[y])
 |_,_,.nil => .cons h .nil
 |_,_,.cons g t => .cons g (iT h t)
def SpQ.add(h:SpQ K CP H0 H γ ps out n)(hy:H γ.rl=some (.lst ys))(d:IsD K (hid [γ.rl] H) (dW r) y)(rn:RowN H0 H γ.rl r y):SpQ K CP H0 (upd H γ.rl (.lst (ys++[y]))) γ ps (out++[r]) n:=by
 obtain⟨kvs,h2,h3⟩:=h.pd;obtain⟨ys',h4,h5,h6⟩:=h.rl;obtain rfl:ys=ys':=by rw[hy]at h4;cases h4;rfl
 have eh:hid [γ.rl] (upd H γ.rl (.lst (ys++[y])))=hid [γ.rl] H:=Qz (jA.mpr rfl);refine⟨by rw[xz (Qe h.ins hy (λz=>nomatch z))];exact h.ins,⟨kvs,by rw[xz (Qe h2 hy (λz=>nomatch z))];exact h2,h3.nd,λf q e=>by rw[eh];exact h3.at_ f q e⟩,⟨_,xm,by rw[eh,QL];exact h5.append ⟨y,[],rfl,d,rfl⟩,?_⟩,λb u e=>by rw[xz (Jm e h.n0)];exact h.sm b u e,h.n0,h.g0⟩;refine cG (λb u nb eb _=>by rw[xz nb];exact eb) (λa xs ea z=>by rw[z,hy]at ea;cases ea) (iT rn h6)
mutual
theorem Xm{H:Hp}{rl:xb}{ys:List V}(e:H rl=some (.lst ys)):∀{dd:D}{x:V},dd.noL=true->IsD K H dd x->IsD K (hid [rl] H) dd x
 |.non,_,_,h=>h
 |.bl _,_,_,h=>h
 |.int _,_,_,h=>h
 |.str _,_,_,h=>h
 |.tup _,_,n,⟨a,xs,h1,h2,h3⟩=>⟨a,xs,h1,by
  rcases h2 with (q|⟨o,q⟩)|q
  . exact .inl (.inl (xQ (λz=>by rw[jA.mp z,e]at q;cases q) q))
  . exact .inl (.inr ⟨o,xQ (λz=>by rw[jA.mp z,e]at q;cases q) q⟩)
  . exact .inr q,iU e n h3⟩
 |.lst _,_,n,_=>by cases n
theorem iU{H:Hp}{rl:xb}{ys:List V}(e:H rl=some (.lst ys)):∀{ds:List D}{xs:List V},D.noLs ds=true->IsDs K H ds xs->IsDs K (hid [rl] H) ds xs
 | [],_,_,h=>h
 |d::ds,_,n,⟨x,r,h1,h2,h3⟩=>by
  have n:(d.noL&&D.noLs ds)=true:=n;rw[jj]at n;exact⟨x,r,h1,Xm e n.1 h2,iU e n.2 h3⟩
end
def iV(n:Int)(h0:0<=n)(h1:n<10 ^ 60):(Str.ofString (toString n)).length<=61:=by
 rw[ofString_length];exact int_text_length_le10 (k:=60) 'f' 'd'
def ve{n:Int}(h:n.natAbs<=2 ^ 250):n.natAbs.log2<1920:=by
 by_cases z:n.natAbs=0
 . rw[z];decide
 . exact jX ((Nat.log2_lt z).mpr (show n.natAbs<2 ^ 251 from jk h (Nat.pow_lt_pow_right 'f' 'f'))) 'f'
def QM(h:SpQ K CP H0 H γ ps out n)(e:Xc [γ.g,γ.rl] H H'):DEx [γ.rl] H H':=DEx.of e λa ha hr u eu=>by
 rcases jB.mp ha with rfl|ha
 . rw[h.ins]at eu;cases eu;exact ab
 . exact absurd ha hr
def cH(K:qu)(CP:xb):Sp:=λvs H Q _=>∃(H0:Hp) (γ:SpA) (ps:List Pt) (out:List Wr),vs=[.ref γ.g]/\Jd K CP H0 H γ ps out/\gvn out<1000000 /\
 ∀H',H'=upd H γ.g (.ins CP γ.dx (fSp γ (gvn out+1)))->Q (.str (nx out)) H'
def vf(B:Bl mg)(qL:Cls K CP)(w3:NoAttr K CP "given")(F:MFn K CP "new_value" "Spreader.new_value" YN ["self"]):DefM P w K mg base CP "new_value" 1 ["self"] (cH K CP):=by
 refine F.ok3 iD (λvs H Q E h=>?_) (λf qF A outer s H vs Q E hr h=>?_)
 . obtain⟨H0,γ,ps,out,rfl,_⟩:=h;rfl
 obtain⟨H0,γ,ps,out,rfl,sa,l1,q⟩:=h
 refine⟨_,(@xu _ _ _ _ _ (xM (i:=1) iD.nd rfl 'b' (XA (pv 0) rfl))
  (@xu _ _ _ _ _ (oM (pv 0) xi oO)
  (@xw _ _ _ (xP (sR (PJ.cons xt (PJ.cons (sQ (pv 1)) PJ.nil))))))),?_⟩
 refine⟨_,rfl,γ.g,CP,γ.dx,_,_,rfl,sa.ins,qL,w3,rfl,?_⟩;refine⟨_,rfl,γ.g,CP,γ.dx,_,_,rfl,sa.ins,qL,w3,rfl,_,_,rfl,rfl,γ.dx,_,sa.ins,by show 3<1000;decide,?_⟩;refine⟨_,rfl,by decide,_,rfl,.inr ⟨_,rfl,ve (je (by omega:_<=1000000) 'f'),_,rfl,?_,?_⟩⟩
 . show(("v" : Str) ++ Str.ofString (toString ((gvn out:Nat):Int))).length<=sizeLine;have:=iV (gvn out:Nat) 'd' 'd';have e:(("v" : Str) ++ Str.ofString (toString ((gvn out:Nat):Int))).length=1 + (Str.ofString (toString ((gvn out:Nat):Int))).length:=Array.size_append ..;have big:(1000:Nat) < sizeLine:=by decide
   omega
 . exact q _ rfl
def X6(K:qu)(CP:xb):Sp:=λvs H Q _=>∃(H0:Hp) (γ:SpA) (ps:List Pt) (out:List Wr) (e:Ex) (x:V),vs=[.ref γ.g,x]/\Jd K CP H0 H γ ps out/\out.length<1000000/\IsD K H (dE e) x /\
 ∀H',Xc [γ.g,γ.rl] H H'->Jd K CP H0 H' γ ps (ltv out e)->Q (.str (nx out)) H'
def cI(o:List Wr):gvn o<=o.length:=List.length_filter_le _ _
def vg(B:Bl mg)(qL:Cls K CP)(w2:NoAttr K CP "rows")(cJ:DefM P w K mg base CP "new_value" 1 ["self"] (cH K CP))(F:MFn K CP "lay_let" "Spreader.lay_let" YO ["self", "e"]):DefM P w K mg base CP "lay_let" 2 ["self", "e"] (X6 K CP):=by
 refine F.ok3 iE (λvs H Q E h=>?_) (λf qF A outer s H vs Q E hr h=>?_)
 . obtain⟨H0,γ,ps,out,e,x,rfl,_⟩:=h;rfl
 obtain⟨H0,γ,ps,out,e,x,rfl,sa,l1,dx,q⟩:=h
 refine⟨_,(@xu _ _ _ _ _ (xM (i:=2) iE.nd rfl 'b' (ir cJ qL hr Jg (pv 0)))
  (@xu _ _ _ _ _ (J1 (JD PySem.F.plainAttrs_list PySem.F.slot_list_append PySem.F.type_list_append Jy (XA (pv 0) rfl) (xC (JO (xC xt (xC (pv 2) (xC (pv 1) xk)))) xk)))
  (@xw _ _ _ (xP (pv 2))))),?_⟩
 have gl:=cI out;have big:(2000000:Nat)<sizeLine:=by decide
 obtain⟨ys0,hy0,dy0,_⟩:=sa.rl;have dxh:=Xm hy0 (JR e) dx;refine⟨_,rfl,γ.g,γ.dx,_,rfl,sa.ins,rfl,H0,γ,ps,out,rfl,sa,by omega,λH1 e1=>?_⟩;have sa1:=sa.giv (gvn out+1);have x1:Xc [γ.g,γ.rl] H H1:=by rw[e1];exact Jl jH
 have dx1:=Jr (QM sa x1) dxh;rw[<- e1]at sa1;clear e1;dsimp only[xF,List.set];obtain⟨ys,hy,dy,_⟩:=sa1.rl;have yl:=dy.length;rw[Jj,jC]at yl;refine⟨_,rfl,γ.g,CP,γ.dx,_,_,rfl,sa1.ins,qL,w2,rfl,.inl ⟨rfl,_,.of hy⟩,_,rfl,_,rfl,by show 3<=sizeLine;decide,λpt qM=>?_⟩;have u:=xy qM (.tup [.str "let",.str (nx out),x]);have sa2:=sa1.same u;have nr:pt∉[γ.rl]:=λz=>by rw[jA.mp z,hy]at qM;cases qM
 have d2:IsD K (hid [γ.rl] (upd H1 pt (.tup [.str "let",.str (nx out),x]))) (dW (.lett (nx out) e)) (.ref pt):=⟨pt,_,rfl,.of (xQ nr xm),_,_,rfl,rfl,_,_,rfl,rfl,_,_,rfl,dx1.same (J3 u),rfl⟩;refine⟨γ.rl,ys,.ref pt,rfl,rfl,u _ _ hy,by omega,_,rfl,q _ ((x1.trans (.of u)).trans (Jl 'j')) ?_⟩;have:=sa2.add (u _ _ hy) d2 trivial;rw[show gvn out+1=gvn (out++[.lett (nx out) e]) by rw[XV];rfl]at this;exact this
def cK(K:qu)(CP:xb):Sp:=λvs H Q _=>∃(H0:Hp) (γ:SpA) (ps:List Pt) (out:List Wr) (os:List D) (x:V),vs=[.ref γ.g,x]/\Jd K CP H0 H γ ps out/\out.length<1000000/\os.length<=100/\IsD K (hid [γ.rl] H) (.lst (dOs os)) x /\
 ∀H',Xc [γ.g,γ.rl] H H'->Jd K CP H0 H' γ ps (out++[.draw (nx out) os])->Q (.str (nx out)) H'
def vh(B:Bl mg)(qL:Cls K CP)(w2:NoAttr K CP "rows")(cJ:DefM P w K mg base CP "new_value" 1 ["self"] (cH K CP))(F:MFn K CP "lay_draw" "Spreader.lay_draw" YQ ["self", "outcomes"]):DefM P w K mg base CP "lay_draw" 2 ["self", "outcomes"] (cK K CP):=by
 refine F.ok3 iF (λvs H Q E h=>?_) (λf qF A outer s H vs Q E hr h=>?_)
 . obtain⟨H0,γ,ps,out,os,x,rfl,_⟩:=h;rfl
 obtain⟨H0,γ,ps,out,os,x,rfl,sa,l1,o1,dx,q⟩:=h
 refine⟨_,(@xu _ _ _ _ _ (xM (i:=2) iF.nd rfl 'b' (ir cJ qL hr Jg (pv 0)))
  (@xu _ _ _ _ _ (J1 (JD PySem.F.plainAttrs_list PySem.F.slot_list_append PySem.F.type_list_append Jy (XA (pv 0) rfl) (xC (JO (xC xt (xC (pv 2) (xC (JY (Zm K rfl) rfl B.list PyProof.Rows.boot_list (xC (pv 1) xk)) xk)))) xk)))
  (@xw _ _ _ (xP (pv 2))))),?_⟩
 have gl:=cI out;have big:(2000000:Nat)<sizeLine:=by decide
 refine⟨_,rfl,γ.g,γ.dx,_,rfl,sa.ins,rfl,H0,γ,ps,out,rfl,sa,by omega,λH1 e1=>?_⟩;have sa1:=sa.giv (gvn out+1);have x1:Xc [γ.g,γ.rl] H H1:=by rw[e1];exact Jl jH
 have dx1:=Jr (QM sa x1) dx;rw[<- e1]at sa1;clear e1;dsimp only[xF,List.set];obtain⟨ys,hy,dy,_⟩:=sa1.rl;have yl:=dy.length;rw[Jj,jC]at yl;obtain⟨la,zs,rfl,ql,dz⟩:=dx1;have zl:=dz.length;unfold dOs at zl;have ql':SqL K H1 la zs:=(xJ _ _).seq ql;refine⟨_,rfl,γ.g,CP,γ.dx,_,_,rfl,sa1.ins,qL,w2,rfl,.inl ⟨rfl,_,.of hy⟩,_,rfl,_,rfl,la,zs,rfl,.inl ql',λpo npo=>⟨by show 3<=sizeLine;decide,λpt qM=>?_⟩⟩;have u1:=xy npo (.lst zs);have u2:=xy qM (.tup [.str "draw",.str (nx out),.ref po]);have u:=u1.trans u2;have sa2:=sa1.same u;have no:po∉[γ.rl]:=λz=>by rw[jA.mp z,hy]at npo;cases npo
 have nr:pt∉[γ.rl]:=λz=>by rw[jA.mp z,u1 _ _ hy]at qM;cases qM
 have d2:IsD K (hid [γ.rl] (upd (upd H1 po (.lst zs)) pt (.tup [.str "draw",.str (nx out),.ref po]))) (dW (.draw (nx out) os)) (.ref pt):=⟨pt,_,rfl,.of (xQ nr xm),_,_,rfl,rfl,_,_,rfl,rfl,_,_,rfl,⟨po,zs,rfl,.of (xQ no (u2 _ _ xm)),dz.same (J3 u)⟩,rfl⟩;refine⟨γ.rl,ys,.ref pt,rfl,rfl,u _ _ hy,by omega,_,rfl,q _ ((x1.trans (.of u)).trans (Jl 'j')) ?_⟩;have:=sa2.add (u _ _ hy) d2 ⟨pt,po,_,zs,rfl,xm,u2 _ _ xm,sa1.sm.free npo,λz=>no (jA.mpr z),by omega⟩;rw[show gvn out+1=gvn (out++[.draw (nx out) os]) by rw[XV];rfl]at this;exact this
def gdV:Option Str->V
 |none => .non
 |some g => .str g
def cL(K:qu)(CP:xb):Sp:=λvs H Q _=>∃(H0:Hp) (γ:SpA) (ps:List Pt) (out:List Wr) (e:Ex) (x:V) (g:Option Str),vs=[.ref γ.g,x,gdV g]/\Jd K CP H0 H γ ps out/\out.length+2<1000000/\IsD K H (dE e) x /\
 ∀H',Xc [γ.g,γ.rl] H H'->Jd K CP H0 H' γ ps (match g with|none=>out++[.seen e]|some gd=>ltv out e++[.seen (.bi .disj (.un (.nam gd)) (.nam (nx out)))])->Q .non H'
def iW(sa:Jd K CP H0 H γ ps out)(dx:IsD K H (dE e) x)(qM:H pt=none)(hy:H γ.rl=some (.lst ys)):Xc [γ.g,γ.rl] H (upd (upd H pt (.tup [.str "seen",x])) γ.rl (.lst (ys++[.ref pt])))/\Jd K CP H0 (upd (upd H pt (.tup [.str "seen",x])) γ.rl (.lst (ys++[.ref pt]))) γ ps (out++[.seen e]):=by
 have dxh:=Xm hy (JR e) dx;have u:=xy qM (.tup [.str "seen",x]);have nr:pt∉[γ.rl]:=λz=>by rw[jA.mp z,hy]at qM;cases qM
 have d2:IsD K (hid [γ.rl] (upd H pt (.tup [.str "seen",x]))) (dW (.seen e)) (.ref pt):=⟨pt,_,rfl,.of (xQ nr xm),_,_,rfl,rfl,_,_,rfl,dxh.same (J3 u),rfl⟩;refine⟨(Xc.of u).trans (Jl 'j'),?_⟩;have:=(sa.same u).add (u _ _ hy) d2 trivial;rw[show gvn out=gvn (out++[.seen e]) by rw[XV];rfl]at this;exact this
def vi(B:Bl mg)(qL:Cls K CP)(w2:NoAttr K CP "rows")(Js:DefM P w K mg base CP "lay_let" 2 ["self", "e"] (X6 K CP))(F:MFn K CP "lay_seen" "Spreader.lay_seen" YR ["self", "e", "guard"]):DefM P w K mg base CP "lay_seen" 3 ["self", "e", "guard"] (cL K CP):=by
 refine F.ok3 iG (λvs H Q E h=>?_) (λf qF A outer s H vs Q E hr h=>?_)
 . obtain⟨H0,γ,ps,out,e,x,g,rfl,_⟩:=h;rfl
 obtain⟨H0,γ,ps,out,e,x,g,rfl,sa,l1,dx,q⟩:=h
 refine⟨_,(@xu _ _ _ _ _ (xO (xK oo (pv 2) ZS (xN _)) (@xw _ _ _ (@Q0 _ 1 _ _ _ _ _ iG.nd rfl 'b' (@Jq _ _ _ _ _ _ _ _ _ xt (@xZ _ _ _ _ _ _ _ xt (@xZ _ _ _ _ _ _ _ xt (pv 2) rfl rfl) rfl rfl) (@xZ _ _ _ _ _ _ _ xt (Jn Js qL hr Jg (pv 0) (@xj _ _ _ _ _ (pv 1) xk rfl)) rfl rfl) rfl rfl rfl) rfl (by first|exact .inl rfl|exact .inr rfl))) xX)
  (@xw _ _ _ (J1 (JD PySem.F.plainAttrs_list PySem.F.slot_list_append PySem.F.type_list_append Jy (XA (pv 0) rfl) (@xj _ _ _ _ _ (@xZ _ _ _ _ _ _ _ xt (pv 1) rfl rfl) xk rfl))))),?_⟩
 have big:(2000000:Nat)<sizeLine:=by decide
 cases g with
 |none =>
  obtain⟨ys,hy,dy,_⟩:=sa.rl;have yl:=dy.length;rw[Jj,jC]at yl;refine⟨_,rfl,rfl,_,rfl,xY (nxt ?_)⟩;refine⟨_,rfl,γ.g,CP,γ.dx,_,_,rfl,sa.ins,qL,w2,rfl,.inl ⟨rfl,_,.of hy⟩,_,rfl,by show 2<=sizeLine;decide,λpt qM=>?_⟩;obtain⟨h1,h2⟩:=iW sa dx qM hy;exact⟨γ.rl,ys,.ref pt,rfl,rfl,xy qM _ _ _ hy,by omega,q _ h1 h2⟩
 |some gd =>
  refine⟨_,rfl,rfl,_,rfl,Jc ?_⟩;have z2:(2:Nat)<=sizeLine:=by decide
  dsimp only[gdV];refine⟨_,rfl,z2,λp1 n1=>⟨z2,λp2 n2=>?_⟩⟩;have u1:=xy n1 (.tup [.str "name",.str gd]);have u2:=xy n2 (.tup [.str "not",.ref p1]);have e1:(upd (upd H p1 (.tup [.str "name",.str gd])) p2 (.tup [.str "not",.ref p1])) p1=some (.tup [.str "name",.str gd]):=u2 _ _ xm;have e2:(upd (upd H p1 (.tup [.str "name",.str gd])) p2 (.tup [.str "not",.ref p1])) p2=some (.tup [.str "not",.ref p1]):=xm;have u:=u1.trans u2;have sa2:=sa.same u;generalize upd (upd H p1 (.tup [.str "name",.str gd])) p2 (.tup [.str "not",.ref p1])=H2 at e1 e2 u sa2 ⊢;refine⟨_,rfl,γ.g,γ.dx,_,rfl,sa2.ins,rfl,_,rfl,H0,γ,ps,out,e,x,rfl,sa2,by omega,dx.same u,λH3 x3 sa3=>⟨z2,λp4 n4=>⟨by show 3<=sizeLine;decide,λp5 n5=>?_⟩⟩⟩;obtain⟨ys2,hy2,_⟩:=sa2.rl
  have nt:∀{a:xb}{xs:List V},H2 a=some (.tup xs)->a∉[γ.g,γ.rl]:=fun {a xs} ea z=>by
   rcases jB.mp z with z|z
   . rw[z,sa2.ins]at ea;cases ea
   . rw[jA.mp z,hy2]at ea;cases ea
  have e13:=x3 _ _ (nt e1) e1;have e23:=x3 _ _ (nt e2) e2;have u4:=xy n4 (.tup [.str "name",.str (nx out)]);have u5:=xy n5 (.tup [.str "or",.ref p2,.ref p4]);have sa5:=sa3.same (u4.trans u5);have d5:IsD K (upd (upd H3 p4 (.tup [.str "name",.str (nx out)])) p5 (.tup [.str "or",.ref p2,.ref p4])) (dE (.bi .disj (.un (.nam gd)) (.nam (nx out)))) (.ref p5):=⟨p5,_,rfl,.of xm,_,_,rfl,rfl,_,_,rfl,⟨p2,_,rfl,.of ((u4.trans u5) _ _ e23),_,_,rfl,rfl,_,_,rfl,⟨p1,_,rfl,.of ((u4.trans u5) _ _ e13),_,_,rfl,rfl,_,_,rfl,rfl,rfl⟩,rfl⟩,_,_,rfl,⟨p4,_,rfl,.of (u5 _ _ xm),_,_,rfl,rfl,_,_,rfl,rfl,rfl⟩,rfl⟩;have x5:=((Xc.of u).trans x3).trans (.of (u4.trans u5));dsimp only[xF,List.set,Ja,jR];generalize upd (upd H3 p4 (.tup [.str "name",.str (nx out)])) p5 (.tup [.str "or",.ref p2,.ref p4])=H5 at sa5 d5 x5 ⊢;obtain⟨ys,hy,dy,_⟩:=sa5.rl;have yl:=dy.length;rw[Jj,jC,X3]at yl;refine⟨_,rfl,γ.g,CP,γ.dx,_,_,rfl,sa5.ins,qL,w2,rfl,.inl ⟨rfl,_,.of hy⟩,_,rfl,z2,λpt qM=>?_⟩;obtain⟨h1,h2⟩:=iW sa5 d5 qM hy;exact⟨γ.rl,ys,.ref pt,rfl,rfl,xy qM _ _ _ hy,by omega,q _ (x5.trans h1) h2⟩
def cM(K:qu)(CP:xb):Sp:=λvs H Q _=>∃(H0:Hp) (γ:SpA) (ps:List Pt) (out:List Wr) (k:Str) (c:xb) (g:Option Str),vs=[.ref γ.g,.ref c,gdV g]/\Jd K CP H0 H γ ps out/\out.length<1000000/\SqT K H c [.str "name",.str k] /\
 ∀H',Xc [γ.g,γ.rl] H H'->Jd K CP H0 H' γ ps (if1 g k out).1->Q (.str (if1 g k out).2) H'
def vj(B:Bl mg)(qL:Cls K CP)(Js:DefM P w K mg base CP "lay_let" 2 ["self", "e"] (X6 K CP))(F:MFn K CP "first_guard" "Spreader.first_guard" YS ["self", "choice", "guard"]):DefM P w K mg base CP "first_guard" 3 ["self", "choice", "guard"] (cM K CP):=by
 refine F.ok3 uU (λvs H Q E h=>?_) (λf qF A outer s H vs Q E hr h=>?_)
 . obtain⟨H0,γ,ps,out,k,c,g,rfl,_⟩:=h;rfl
 obtain⟨H0,γ,ps,out,k,c,g,rfl,sa,l1,qc,q⟩:=h
 refine⟨_,(@xu _ _ _ _ _ (xO (xK f6 (pv 2) ZS (xN _)) (@xw _ _ _ (xP (xD (xE K rfl) (pv 1) xi (λ_ _=>rfl)))) xX)
  (@xw _ _ _ (xP (Jn Js qL hr Jg (pv 0) (@xj _ _ _ _ _ (@Jq _ _ _ _ _ _ _ _ _ xt (@xZ _ _ _ _ _ _ _ xt (pv 2) rfl rfl) (pv 1) rfl rfl rfl) xk rfl))))),?_⟩
 cases g with
 |none=>exact⟨_,rfl,rfl,_,rfl,Jc ⟨_,rfl,.inr (.inl ⟨c,_,1,.str k,rfl,rfl,qc,J9,q H (Xc.of (Same.refl _)) sa⟩)⟩⟩
 |some gd =>
  have z2:(2:Nat)<=sizeLine:=by decide
  refine⟨_,rfl,rfl,_,rfl,xY (nxt ?_)⟩;refine⟨_,rfl,γ.g,γ.dx,_,rfl,sa.ins,rfl,_,rfl,z2,λp1 n1=>⟨_,rfl,by show 3<=sizeLine;decide,λp2 n2=>?_⟩⟩;have u1:=xy n1 (.tup [.str "name",.str gd]);have u2:=xy n2 (.tup [.str "and",.ref p1,.ref c]);have u:=u1.trans u2;have d2:IsD K (upd (upd H p1 (.tup [.str "name",.str gd])) p2 (.tup [.str "and",.ref p1,.ref c])) (dE (.bi .conj (.nam gd) (.nam k))) (.ref p2):=⟨p2,_,rfl,.of xm,_,_,rfl,rfl,_,_,rfl,⟨p1,_,rfl,.of (u2 _ _ xm),_,_,rfl,rfl,_,_,rfl,rfl,rfl⟩,_,_,rfl,⟨c,_,rfl,u.tupq qc,_,_,rfl,rfl,_,_,rfl,rfl,rfl⟩,rfl⟩;exact⟨H0,γ,ps,out,_,_,rfl,sa.same u,l1,d2,λH3 x3 sa3=>q H3 ((Xc.of u).trans x3) sa3⟩
def cN(K:qu)(CP:xb):Sp:=λvs H Q _=>∃(H0:Hp) (γ:SpA) (ps:List Pt) (out:List Wr) (k:Str) (c:xb) (g:Option Str),vs=[.ref γ.g,.ref c,gdV g]/\Jd K CP H0 H γ ps out/\out.length<1000000/\SqT K H c [.str "name",.str k] /\
 ∀H',Xc [γ.g,γ.rl] H H'->Jd K CP H0 H' γ ps (ltv out (under g (.un (.nam k))))->Q (.str (nx out)) H'
def vk(B:Bl mg)(qL:Cls K CP)(Js:DefM P w K mg base CP "lay_let" 2 ["self", "e"] (X6 K CP))(F:MFn K CP "second_guard" "Spreader.second_guard" YT ["self", "choice", "guard"]):DefM P w K mg base CP "second_guard" 3 ["self", "choice", "guard"] (cN K CP):=by
 refine F.ok3 uV (λvs H Q E h=>?_) (λf qF A outer s H vs Q E hr h=>?_)
 . obtain⟨H0,γ,ps,out,k,c,g,rfl,_⟩:=h;rfl
 obtain⟨H0,γ,ps,out,k,c,g,rfl,sa,l1,qc,q⟩:=h
 refine⟨_,(@xu _ _ _ _ _ (xO (xK f6 (pv 2) ZS (xN _)) (@xw _ _ _ (xP (Jn Js qL hr Jg (pv 0) (@xj _ _ _ _ _ (@xZ _ _ _ _ _ _ _ xt (pv 1) rfl rfl) xk rfl)))) xX)
  (@xw _ _ _ (xP (Jn Js qL hr Jg (pv 0) (@xj _ _ _ _ _ (@Jq _ _ _ _ _ _ _ _ _ xt (@xZ _ _ _ _ _ _ _ xt (pv 2) rfl rfl) (@xZ _ _ _ _ _ _ _ xt (pv 1) rfl rfl) rfl rfl rfl) xk rfl))))),?_⟩
 have z2:(2:Nat)<=sizeLine:=by decide
 cases g with
 |none =>
  refine⟨_,rfl,rfl,_,rfl,Jc ⟨_,rfl,γ.g,γ.dx,_,rfl,sa.ins,rfl,_,rfl,z2,λp1 n1=>?_⟩⟩;have u:=xy n1 (.tup [.str "not",.ref c]);exact⟨H0,γ,ps,out,.un (.nam k),_,rfl,sa.same u,l1,⟨p1,_,rfl,.of xm,_,_,rfl,rfl,_,_,rfl,⟨c,_,rfl,u.tupq qc,_,_,rfl,rfl,_,_,rfl,rfl,rfl⟩,rfl⟩,λH3 x3 sa3=>q H3 ((Xc.of u).trans x3) sa3⟩
 |some gd =>
  refine⟨_,rfl,rfl,_,rfl,xY (nxt ?_)⟩;refine⟨_,rfl,γ.g,γ.dx,_,rfl,sa.ins,rfl,_,rfl,z2,λp1 n1=>⟨_,rfl,z2,λp2 n2=>⟨by show 3<=sizeLine;decide,λp3 n3=>?_⟩⟩⟩;have u1:=xy n1 (.tup [.str "name",.str gd]);have u2:=xy n2 (.tup [.str "not",.ref c]);have u3:=xy n3 (.tup [.str "and",.ref p1,.ref p2]);have u:=u1.trans (u2.trans u3);exact⟨H0,γ,ps,out,.bi .conj (.nam gd) (.un (.nam k)),_,rfl,sa.same u,l1,⟨p3,_,rfl,.of xm,_,_,rfl,rfl,_,_,rfl,⟨p1,_,rfl,.of ((u2.trans u3) _ _ xm),_,_,rfl,rfl,_,_,rfl,rfl,rfl⟩,_,_,rfl,⟨p2,_,rfl,.of (u3 _ _ xm),_,_,rfl,rfl,_,_,rfl,⟨c,_,rfl,u.tupq qc,_,_,rfl,rfl,_,_,rfl,rfl,rfl⟩,rfl⟩,rfl⟩,λH3 x3 sa3=>q H3 ((Xc.of u).trans x3) sa3⟩
def JT(K:qu)(d:Nat):Sp:=λvs H Q _=>∃(e:Ex) (x:V) (pb:xb) (kvs:List (Key×V)) (r:Str->Str),vs=[x,.ref pb]/\e.ok/\e.over (λn=>valV kvs (.inr n)=some (.str (r n)))/\e.high<d/\IsD K H (dE e) x/\H pb=some (.dK kvs)/\∀p H',Same H H'->IsD K H' (dE (e.ren r)) (.ref p)->Q (.ref p) H'
def vm(d:Nat)(B:Bl mg)(F:Fn K mg "renamed" Zq ["e", "book"])(JH:Def P w K mg base "renamed" (d+2) ["e", "book"] (JT K d)):Def P w K mg base "renamed" (d+3) ["e", "book"] (JT K (d+1)):=by
 have hjk:d+2<=d+2:=jG _;refine F.ok iu (λvs H Q E h=>?_) (λf qF A outer s H vs Q E hr h=>?_)
 . obtain⟨e,x,pb,kvs,r,rfl,_⟩:=h;rfl
 obtain⟨e,x,pb,kvs,r,rfl,ho,hv,hh,dx,hB,q⟩:=h
 refine⟨_,(@xu _ _ _ _ _ (xO (xK (Ji.or (Jb.or (XE.or (XI K rfl hr.units)))) (xD (xE K rfl) (pv 0) xi (λ_ _=>rfl)) xt (xN _)) (@xw _ _ _ (xP (JO (xC xt (xC (xD (xE K rfl) (pv 0) xi (λ_ _=>rfl)) xk))))) xX)
  (@xu _ _ _ _ _ (xO (xK (Ji.or (Jb.or (XE.or (XI K rfl hr.units)))) (xD (xE K rfl) (pv 0) xi (λ_ _=>rfl)) xt (xN _)) (@xw _ _ _ (xP (JO (xC xt (xC (xL (xG hr) (pv 1) (xD (xE K rfl) (pv 0) xi (λ_ _=>rfl)) (λ_ _=>rfl)) xk))))) xX)
  (@xw _ _ _ (xP (JY (bB K rfl) rfl B.tuple PyProof.Rows.boot_tuple (xC (xx (J7.or (QT.or (bg.or (bA K rfl)))) (XB (xC (xD (xE K rfl) (pv 0) xi (λ_ _=>rfl)) xk)) (Qa (CompOk.of (x := "part") (M:=["book"]) (ix:=[1]) rfl rfl (by decide +kernel) (by decide +kernel) rfl ⟨rfl,trivial⟩ 'g' ⟨⟨rfl,rfl,rfl,rfl⟩,trivial⟩) rfl (by decide +kernel) (aW (XC ((XG K rfl).or (XH K rfl)) (pv 0) (QV xi) Y2)) (λ_ _ _ _ _=>JP) (λ_ _ _ _ _=>(xI JH hr rfl (xC (pv 0) (xC (pv 1) xk)) (hjk:=hjk))))) xk)))))),?_⟩
 rcases Ex.node2 _ e ho hv with ⟨n,rfl⟩|⟨n,rfl⟩|⟨sg,cs,rfl,hl,hc⟩
 . obtain⟨t,xs,rfl,qt,_,_,rfl,rfl,_,_,rfl,rfl,rfl⟩:=dx;walk_at "rd";refine⟨by show 2<=sizeLine;decide,λp hp=>q p _ (xy hp _) ?_⟩;exact⟨p,_,rfl,.of xm,_,_,rfl,rfl,_,_,rfl,rfl,rfl⟩
 . obtain⟨t,xs,rfl,qt,_,_,rfl,rfl,_,_,rfl,rfl,rfl⟩:=dx;walk_at "rd";have e:some (V.str (r n))=valV kvs (.inr n):=Eq.symm hv;refine⟨pb,_,rfl,.inl ⟨kvs,.inr n,.inl hB,rfl,e⟩,?_⟩;refine⟨by show 2<=sizeLine;decide,λp hp=>q p _ (xy hp _) ?_⟩;exact⟨p,_,rfl,.of xm,_,_,rfl,rfl,_,_,rfl,rfl,rfl⟩
 . have md:=(YW hl (λ_=>0)).1;rw[md]at dx;obtain⟨t,xs,rfl,qt,y,ys,rfl,ey,dys⟩:=dx;obtain rfl:y = .str sg.str:=ey;have at0:atI (.str sg.str :: ys) 0=some (.str sg.str):=Jx (j:=0) rfl;have yl:=dys.length;rw[jC]at yl;have lm:cs.length<=3:=by rw[hl];exact(cf sg).2
   refine⟨_,rfl,.inr (.inl ⟨t,_,_,_,rfl,rfl,qt,at0,.inr (.inl ⟨_,_,rfl,rfl,_,rfl,xU (λc=>absurd c (iI sg)) λ_=>nxt ?_⟩)⟩)⟩;refine⟨_,rfl,.inr (.inl ⟨t,_,_,_,rfl,rfl,qt,at0,.inr (.inl ⟨_,_,rfl,rfl,_,rfl,xU (λc=>absurd c (iJ sg)) λ_=>nxt ?_⟩)⟩)⟩;refine⟨_,rfl,.inr (.inl ⟨t,_,_,_,rfl,rfl,qt,at0,(by show 1<=sizeLine;decide),λp0 hp0=>?_⟩)⟩;dsimp only;refine rW ?_;have s0:Same H (upd H p0 (.lst [.str sg.str])):=xy hp0 _;have t0:(upd H p0 (.lst [.str sg.str])) p0=some (.lst [.str sg.str]):=xm;obtain⟨H0,eH0⟩:∃H0,H0=upd H p0 (.lst [.str sg.str]):=⟨_,rfl⟩;rw[<- eH0]at s0 t0;rw[<- eH0]
   have one:¬(HT.sIx (V.str sg.str::ys).length 0 (some 1)=0/\HT.sIx (V.str sg.str::ys).length (V.str sg.str::ys).length none=(V.str sg.str::ys).length):=λh=>by
    have:=h.1;simp[HT.sIx]at this
   refine⟨_,rfl,_,rfl,.inr ⟨t,_,rfl,s0.tupq qt,one,λp1 hp1=>⟨p1,rfl,⟨_,.of xm⟩,?_⟩⟩⟩;have ecut:Jw (V.str sg.str::ys) (some 1) none=ys:=bz _ 1;rw[ecut];have s1:Same H0 (upd H0 p1 (.tup ys)):=xy hp1 _
   refine gn (K:=K) (xs:=ys) ((cs.map (Ex.ren r)).map dE) (.of xm) (by simp[yl]) (by rw[yl];exact Nat.le_of_lt (Y3 'd')) (Ye λd hd=>by
    obtain⟨c,_,rfl⟩:=jn.mp hd;exact JR c) (λi x z H' R hx hd sm hR=>?_) (λp2 H2 zs sm2 e2 dz=>?_)
   . have hi:i < cs.length:=by have:=(jV.mp hx).1;omega
     obtain⟨y,ey,dy⟩:=dys.get (i:=i) (d:=dE cs[i]) (by rw[jJ,jD hi];rfl);obtain rfl:x=y:=by rw[hx]at ey;exact Option.some.inj ey
     rw[jJ,jJ,jD hi]at hd;obtain rfl:z=dE (cs[i].ren r):=(Option.some.inj hd).symm;obtain⟨c1,c2,c3⟩:=hc _ (jp hi);have sH:=(s0.trans s1).trans sm;exact⟨_,rfl,_,rfl,cs[i],x,pb,kvs,r,rfl,c1,c2,by omega,dy.same sH,sH _ _ hB,λp qH sm'' d''=>hR _ _ sm'' d''⟩
   . have zl:=dz.length;rw[jC,jC]at zl;refine .inr (.inr (.inl ⟨p0,p2,_,_,rfl,rfl,(s1.trans sm2) _ _ t0,e2,Nat.le_of_lt (Y3 (by show 1+zs.length<=1000;omega)),λp3 hp3=>?_⟩));have s3:Same H2 (upd H2 p3 (.lst ([.str sg.str]++zs))):=xy hp3 _;refine⟨p3,_,rfl,.inl ⟨.of xm,λp4 hp4=>?_⟩⟩;have s4:=xy hp4 (.tup ([.str sg.str]++zs));refine q p4 _ ((((s0.trans s1).trans sm2).trans s3).trans s4) ?_;rw[iK hl,(YW (s:=sg) (cs:=cs.map (Ex.ren r)) (by rw[jC];exact hl) (λ_=>0)).1];exact⟨p4,_,rfl,.of xm,_,_,rfl,rfl,dz.same (s3.trans s4)⟩
theorem iX(B:Bl mg)(F:Fn K mg "renamed" Zq ["e", "book"]):∀d,Def P w K mg base "renamed" (d+2) ["e", "book"] (JT K d)
 |0=>by
  refine F.ok iu (λvs H Q E h=>?_) (λf qF A outer s H vs Q E hr h=>?_)
  . obtain⟨e,x,pb,kvs,r,rfl,_⟩:=h;rfl
  . obtain⟨e,x,pb,kvs,r,rfl,_,_,hh,_⟩:=h;exact absurd hh (kH _)
 |d+1=>vm d B F (iX B F d)
structure BkH (pool:qB) (H0 H:Hp) (bd:xb) (b:Bo):Prop where
 at_:∃kvs,H bd=some (.dK kvs)/\BkD pool kvs b
 n0:H0 bd=none
def BkH.same(h:BkH pool H0 H bd b)(s:Same H H'):BkH pool H0 H' bd b:=by
 obtain⟨⟨kvs,h1,h2⟩,h3⟩:=h;exact⟨⟨kvs,s _ _ h1,h2⟩,h3⟩
def BkH.xc(h:BkH pool H0 H bd b)(s:Xc A H H')(n:bd∉A):BkH pool H0 H' bd b:=by
 obtain⟨⟨kvs,h1,h2⟩,h3⟩:=h;exact⟨⟨kvs,s _ _ n h1,h2⟩,h3⟩
def X7(h:BkH pool H0 H bd b)(sa:SpQ K CP H0 H γ ps out n):bd≠γ.g/\bd≠γ.rl:=by
 obtain⟨⟨kvs,h1,_⟩,_⟩:=h;obtain⟨ys,hy,_⟩:=sa.rl;exact⟨Qe h1 sa.ins (λz=>nomatch z),Qe h1 hy (λz=>nomatch z)⟩
def QA(h:SpQ K CP H0 H γ ps out n)(hb:BkH pool H0 H bd b)(e:Xc [γ.g,γ.rl,bd] H H'):DEx [γ.rl] H H':=DEx.of e λa ha hr u eu=>by
 rcases jB.mp ha with rfl|ha
 . rw[h.ins]at eu;cases eu;exact ab
 . rcases jB.mp ha with rfl | ha
   . exact absurd (jA.mpr rfl) hr
   . obtain⟨⟨kvs,h1,_⟩,_⟩:=hb;rw[jA.mp ha,h1]at eu;cases eu;exact ZD
def XX(K:qu)(CP:xb)(d:Nat):Sp:=λvs H Q _=>∃(pool Kn:qB) (H0:Hp) (γ:SpA) (ps:List Pt) (s:LB) (rows:List Wr) (x:V) (bd:xb) (g:Option Str),vs=[.ref γ.g,x,.ref bd,gdV g]/\Jd K CP H0 H γ ps s.out/\IsD K (hid [γ.rl] H) (.lst (dWs rows)) x/\BkH pool H0 H bd s.b/\okD pool ps d Kn rows/\Dm s.b Kn/\(∀n∈Kn,n∈pool)/\pool.length<=10/\s.out.length+csD pool ps d rows<900000 /\
 ∀H',Xc [γ.g,γ.rl,bd] H H'->Jd K CP H0 H' γ ps (xS pool ps d rows g s).out->BkH pool H0 H' bd (xS pool ps d rows g s).b->Q .non H'
def iY(K:qu)(CP:xb)(d:Nat):Sp:=λvs H Q _=>∃(pool Kn:qB) (H0:Hp) (γ:SpA) (ps:List Pt) (s:LB) (r:Wr) (x:V) (bd:xb) (g:Option Str),vs=[.ref γ.g,x,.ref bd,gdV g]/\Jd K CP H0 H γ ps s.out/\IsD K (hid [γ.rl] H) (dW r) x/\BkH pool H0 H bd s.b/\ok1 pool ps (okD pool ps d) Kn r/\Dm s.b Kn/\(∀n∈Kn,n∈pool)/\pool.length<=10/\s.out.length+cs1 pool ps (csD pool ps d) r<900000 /\
 ∀H',Xc [γ.g,γ.rl,bd] H H'->Jd K CP H0 H' γ ps (JG pool ps (xS pool ps d) g r s).out->BkH pool H0 H' bd (JG pool ps (xS pool ps d) g r s).b->Q .non H'
theorem ac(pool:qB)(ps:List Pt)(f:List Wr->Nat):∀a b:List Wr,csR pool ps f (a++b)=csR pool ps f a+csR pool ps f b
 | [],b=>(Nat.zero_add _).symm
 |r::a,b=>by show cs1 pool ps f r+csR pool ps f (a++b)=cs1 pool ps f r+csR pool ps f a+csR pool ps f b;rw[ac pool ps f a b,Nat.add_assoc]
theorem ae(pool:qB)(ps:List Pt)(f:qB->List Wr->Prop):∀(a b:List Wr) (K:qB),okR pool ps f K (a++b)↔okR pool ps f K a/\okR pool ps f (K++knR a) b
 | [],b,K=>by
  show okR pool ps f K b↔True/\okR pool ps f (K++[]) b;rw[jR,true_and]
 |r::a,b,K=>by
  show ok1 pool ps f K r/\okR pool ps f (K++kn1 r) (a++b)↔(ok1 pool ps f K r/\okR pool ps f (K++kn1 r) a)/\okR pool ps f (K++(kn1 r++knR a)) b;rw[ae pool ps f a b,jw,and_assoc]
def cO(pool:qB)(ps:List Pt)(f:List Wr->Option Str->LB->LB)(g:Option Str)(a b:List Wr)(s:LB):JS pool ps f g (a++b) s=JS pool ps f g b (JS pool ps f g a s):=by unfold JS;rw[List.foldl_append]
def vo(B:Bl mg)(qL:Cls K CP)(vp:DefM P w K mg base CP "lay_row" j ["self", "row", "book", "guard"] (iY K CP d))(F:MFn K CP "lay_rows" "Spreader.lay_rows" ZA ["self", "rows", "book", "guard"]):DefM P w K mg base CP "lay_rows" (j+1) ["self", "rows", "book", "guard"] (XX K CP (d+1)):=by
 have hj_Spreader_lay_row:j<=j:=jG _;refine F.ok3 bZ (λvs H Q E h=>?_) (λf qF A outer s H vs Q E hr h=>?_)
 . obtain⟨pool,Kn,H0,γ,ps,s,rows,x,bd,g,rfl,_⟩:=h;rfl
 obtain⟨pool,Kn,H0,γ,ps,s,rows,x,bd,g,rfl,sa,dx,bk,ok,dm,sub,qU,len,q⟩:=h;refine⟨_,(@xw _ _ _ (Yr (JK (pv 1)) (Ju (i:=4) bZ.nd rfl 'b') (@xw _ _ _ (J1 (Jn vp qL hr Jg (pv 0) (xC (pv 4) (xC (pv 2) (xC (pv 3) xk))) (hjk:=hj_Spreader_lay_row)))))),?_⟩;obtain⟨ra,xs,rfl,qa,ids⟩:=dx;have xl:=ids.length;rw[Jj,jC]at xl;have qa':SqL K H ra xs:=(xJ _ _).seq qa;refine⟨_,rfl,ra,rfl,⟨_,qa'⟩,Xf (K:=K) (xs:=xs) (λi σ H'=>∃(c4:Option V),σ=[some (.ref γ.g),some (.ref ra),some (.ref bd),some (gdV g),c4]/\Xc [γ.g,γ.rl,bd] H H'/\Jd K CP H0 H' γ ps (JS pool ps (xS pool ps d) g (rows.take i) s).out/\BkH pool H0 H' bd (JS pool ps (xS pool ps d) g (rows.take i) s).b) ⟨none,rfl,.of (Same.refl _),sa,bk⟩ (λi σ H' _ h=>?_) ?_ ?_⟩
 . obtain⟨_,_,x1,_,_⟩:=h;exact(xJ _ _).seq (ZE (QA sa bk x1) qa)
 . rintro i x σ H' hx ⟨c4,rfl,x1,sa1,bk1⟩;have hi:i < rows.length:=by have:=(jV.mp hx).1;omega
   have dy:=X5 (QA sa bk x1) ids;rw[Jj]at dy;obtain⟨y,ey,dy⟩:=dy.get (i:=i) (d:=dW rows[i]) (by rw[jJ,jD hi];rfl);obtain rfl:x=y:=by rw[hx]at ey;exact Option.some.inj ey
   have e:rows.take (i+1)=rows.take i++[rows[i]]:=jt hi;have sp:rows=rows.take i++(rows[i]::rows.drop (i+1)):=by rw[<- List.drop_eq_getElem_cons hi,List.take_append_drop]
   have ok':okR pool ps (okD pool ps d) Kn rows:=ok;have len':s.out.length+csR pool ps (csD pool ps d) rows<900000:=len;rw[sp,ae]at ok';rw[sp,ac]at len';obtain⟨okA,ok1_,_⟩:=ok';obtain⟨ly,subA⟩:=a9 (Qc pool ps d) (Qy pool ps d) g (rows.take i) Kn s okA dm sub;have l2:=ly.gr.len;have cs:csR pool ps (csD pool ps d) (rows[i]::rows.drop (i+1))=cs1 pool ps (csD pool ps d) rows[i]+csR pool ps (csD pool ps d) (rows.drop (i+1)):=rfl;refine⟨_,rfl,γ.g,γ.dx,_,rfl,sa1.ins,rfl,_,rfl,_,rfl,_,rfl,pool,Kn++knR (rows.take i),H0,γ,ps,_,rows[i],x,bd,g,rfl,sa1,dy,bk1,ok1_,ly.dm,λn hn=>(jI.mp hn).elim (sub n) (subA n),qU,by omega,λH2 x2 sa2 bk2=>?_⟩;refine⟨_,rfl,x1.trans x2,?_,?_⟩
   . rw[e,cO];exact sa2
   . rw[e,cO];exact bk2
 . rintro σ H' ⟨c4,rfl,x1,sa1,bk1⟩;rw[xl,j9]at sa1 bk1;exact q H' x1 sa1 bk1
def BkD.get(h:BkD pool kvs b)(hn:(b n).isSome=true):valV kvs (.inr n)=some (.str (b.at n)):=by
 rw[h.val n];unfold Bo.at
 cases e:b n with
 |none=>rw[e]at hn;cases hn
 |some v=>rfl
def Qm{K:qB}{pool:qB}{kvs:List (Key×V)}{b:Bo}(h:BkD pool kvs b)(dm:Dm b K){e:Ex}(he:OkE K e):e.over (λn=>valV kvs (.inr n)=some (.str (b.at n))):=(Xj e).mpr λn hn=>h.get ((dm n).mpr (he.2.2 n hn))
def iZ(pool:qB)(b1 b2:Bo):(both pool b1 b2).Pairwise ltS:=(YY pool).filter _
def ah{b1 b2:Bo}{n:Str}(h1:(b1 n).isSome=true)(h2:(b2 n).isSome=true):b1.at n=b2.at n↔b1 n=b2 n:=by
 unfold Bo.at
 cases e1:b1 n with
 |none=>rw[e1]at h1;cases h1
 |some u =>
  cases e2:b2 n with
  |none=>rw[e2]at h2;cases h2
  |some v=>exact⟨λz=>by rw[show u=v from z],λz=>Option.some.inj z⟩
theorem l8:∀(l:qB) (s:LB),(l.foldl (pp1 k b1 b2) s).out.length<=s.out.length+l.length
 | [],s=>jG _
 |m::l,s=>by
  rw[kC];have:=l8 (b1:=b1) (b2:=b2) (k:=k) l (pp1 k b1 b2 s m)
  have h:(pp1 k b1 b2 s m).out.length<=s.out.length+1:=by
   unfold pp1;split
   . omega
   . show(ltv s.out _).length<=_;rw[X3];exact jG _
  rw[jU];omega
def l9(sa:SpQ K CP H0 H γ ps out n)(q:SqT K H a xs):SqT K (hid [γ.rl] H) a xs:=by
 obtain⟨ys,hy,_⟩:=sa.rl;rcases q with (q|⟨o,q⟩)|q
 . exact .inl (.inl (xQ (λz=>by rw[jA.mp z,hy]at q;cases q) q))
 . exact .inl (.inr ⟨o,xQ (λz=>by rw[jA.mp z,hy]at q;cases q) q⟩)
 . exact .inr q
theorem ZG(h:SpQ K CP H0 H γ ps out n)(hb:BkH pool H0 H bd b)(hx:x∈pool)(qU:pool.length<=10)(v:Str) :
 ∃H',DPut H bd (.str x) (.str v) H'/\Xc [bd] H H'/\SpQ K CP H0 H' γ ps out n/\BkH pool H0 H' bd (b.put x v):=by
 obtain⟨⟨kvs,e,bk⟩,n0⟩:=id hb;obtain⟨ng,nr⟩:=X7 hb h;have kl:=bk.len;have big:(10:Nat)<sizeLine:=by decide
 have xc:Xc [bd] H (upd H bd (.dK (xH kvs (.inr x) (.str v)))):=λb u nb eb=>by rw[xz (λz=>nb (jA.mpr z))];exact eb
 have bp:=bk.put hx v;have dex:DEx [γ.rl] H (upd H bd (.dK (xH kvs (.inr x) (.str v)))):=DEx.of xc λa ha _ u eu=>by rw[jA.mp ha,e]at eu;cases eu;exact ZD
 refine⟨_,DPut.k (k := .inr x) e 'd',xc,?_,⟨⟨_,xm,bp⟩,n0⟩⟩;have sm:Same H0 (upd H bd (.dK (xH kvs (.inr x) (.str v)))):=λb u eb=>by rw[xz (Jm eb n0)];exact h.sm b u eb
 by_cases c:bd=γ.pd
 . obtain⟨_,⟨kv2,h2,h3⟩,⟨ys,h4,h5,h6⟩,_,h7,h8⟩:=id h;rw[<- c,e]at h2
   cases h2
   refine⟨by rw[xz ng.symm];exact h.ins,⟨_,by rw[<- c];exact xm,bp.nd,λf q e'=>?_⟩,⟨ys,by rw[xz nr.symm];exact h4,X5 dex h5,cG (λb u nb eb=>dex b u (λz=>nb (jA.mp z)) eb) (λa xs ea z=>by rw[z,h4]at ea;cases ea) h6⟩,sm,h7,h8⟩;obtain⟨w',e1,e2⟩:=h3.at_ f q e';rw[bk.val f]at e1;obtain⟨z,_,rfl⟩:=jT.mp e1;obtain⟨_,_,z1,_⟩:=e2
   cases z1
 . exact h.dex dex (by rw[xz ng.symm];exact h.ins) (xz (Ne.symm c)) (xz nr.symm) sm
def cIf(K:qu)(CP:xb)(d:Nat):Sp:=λvs H Q _=>∃(pool Kn:qB) (H0:Hp) (γ:SpA) (ps:List Pt) (s:LB) (e:Ex) (a c:List Wr) (x:V) (bd:xb) (g:Option Str),vs=[.ref γ.g,x,.ref bd,gdV g]/\Jd K CP H0 H γ ps s.out/\IsD K (hid [γ.rl] H) (dW (.ifr e a c)) x/\BkH pool H0 H bd s.b/\ok1 pool ps (okD pool ps d) Kn (.ifr e a c)/\Dm s.b Kn/\(∀n∈Kn,n∈pool)/\pool.length<=10/\s.out.length+cs1 pool ps (csD pool ps d) (.ifr e a c)<900000 /\
 ∀H',Xc [γ.g,γ.rl,bd] H H'->Jd K CP H0 H' γ ps (JG pool ps (xS pool ps d) g (.ifr e a c) s).out->BkH pool H0 H' bd (JG pool ps (xS pool ps d) g (.ifr e a c) s).b->Q .non H'
theorem vq(h12:12<=j)(B:Bl mg)(qL:Cls K CP)(JH:Def P w K mg base "renamed" 12 ["e", "book"] (JT K 10))(Js:DefM P w K mg base CP "lay_let" 2 ["self", "e"] (X6 K CP))(aj:DefM P w K mg base CP "first_guard" 3 ["self", "choice", "guard"] (cM K CP))(ak:DefM P w K mg base CP "second_guard" 3 ["self", "choice", "guard"] (cN K CP))
 (X8:DefM P w K mg base CP "lay_rows" j ["self", "rows", "book", "guard"] (XX K CP d)) (F:MFn K CP "lay_if" "Spreader.lay_if" Zx ["self", "row", "book", "guard"]):DefM P w K mg base CP "lay_if" (j+1) ["self", "row", "book", "guard"] (cIf K CP d):=by
 have hj_renamed:12<=j:=h12;have hj_Spreader_lay_let:2<=j:=by omega
 have hj_Spreader_first_guard:3<=j:=by omega
 have hj_Spreader_second_guard:3<=j:=by omega
 have hj_Spreader_lay_rows:j<=j:=jG _;refine F.ok3 XU (λvs H Q E h=>?_) (λf qF A outer s H vs Q E hr h=>?_)
 . obtain⟨pool,Kn,H0,γ,ps,s,e,a,c,x,bd,g,rfl,_⟩:=h;rfl
 obtain⟨pool,Kn,H0,γ,ps,s,e,a,c,x,bd,g,rfl,sa,dx,bk,⟨eo,oa,oc⟩,dm,sub,qU,len,q⟩:=h
 refine⟨_,(@xu _ _ _ _ _ (@Q0 _ 4 _ _ _ _ _ XU.nd rfl 'b' (@xZ _ _ _ _ _ _ _ xt (Jn Js qL hr Jg (pv 0) (@xj _ _ _ _ _ (xI JH hr rfl (@xj _ _ _ _ _ (xD (xE K rfl) (pv 1) xi (λ_ _=>rfl)) (@xj _ _ _ _ _ (pv 2) xk rfl) rfl) (hjk:=hj_renamed)) xk rfl) (hjk:=hj_Spreader_lay_let)) rfl rfl) rfl (by first|exact .inl rfl|exact .inr rfl))
  (@xu _ _ _ _ _ (xM (i:=5) XU.nd rfl 'b' (JY bE rfl B.dict PyProof.Rows.boot_dict (@xj _ _ _ _ _ (pv 2) xk rfl)))
  (@xu _ _ _ _ _ (J1 (Jn X8 qL hr Jg (pv 0) (@xj _ _ _ _ _ (xD (xE K rfl) (pv 1) xi (λ_ _=>rfl)) (@xj _ _ _ _ _ (pv 5) (@xj _ _ _ _ _ (Jn aj qL hr Jg (pv 0) (@xj _ _ _ _ _ (pv 4) (@xj _ _ _ _ _ (pv 3) xk rfl) rfl) (hjk:=hj_Spreader_first_guard)) xk rfl) rfl) rfl) (hjk:=hj_Spreader_lay_rows)))
  (@xu _ _ _ _ _ (xM (i:=6) XU.nd rfl 'b' (JY bE rfl B.dict PyProof.Rows.boot_dict (@xj _ _ _ _ _ (pv 2) xk rfl)))
  (@xu _ _ _ _ _ (J1 (Jn X8 qL hr Jg (pv 0) (@xj _ _ _ _ _ (xD (xE K rfl) (pv 1) xi (λ_ _=>rfl)) (@xj _ _ _ _ _ (pv 6) (@xj _ _ _ _ _ (Jn ak qL hr Jg (pv 0) (@xj _ _ _ _ _ (pv 4) (@xj _ _ _ _ _ (pv 3) xk rfl) rfl) (hjk:=hj_Spreader_second_guard)) xk rfl) rfl) rfl) (hjk:=hj_Spreader_lay_rows)))
  (@xw _ _ _ (Yr (JK (ui K rfl rfl rfl B.sorted PyProof.Rows.boot_sorted rfl B.set PyProof.Rows.boot_set (pv 5) (pv 6))) (Ju (i:=7) XU.nd rfl 'b') (@xw _ _ _ (xO (xK Y8 (xL (xG hr) (pv 5) (pv 7) (λ_ _=>rfl)) (xL (xG hr) (pv 6) (pv 7) (λ_ _=>rfl)) (xN _)) (@xu _ _ _ _ _ (@Q0 _ 8 _ _ _ _ _ XU.nd rfl 'b' (@Xg _ _ _ _ _ _ _ _ _ _ _ xt (pv 4) (@xZ _ _ _ _ _ _ _ xt (xL (xG hr) (pv 5) (pv 7) (λ_ _=>rfl)) rfl rfl) (@xZ _ _ _ _ _ _ _ xt (xL (xG hr) (pv 6) (pv 7) (λ_ _=>rfl)) rfl rfl) rfl rfl rfl rfl) rfl (by first|exact .inl rfl|exact .inr rfl))
  (@xw _ _ _ (Je (xG hr) (pv 2) (pv 7) (Jn Js qL hr Jg (pv 0) (@xj _ _ _ _ _ (pv 8) xk rfl) (hjk:=hj_Spreader_lay_let)) rfl))) xX))))))))),?_⟩
 have z2:(2:Nat)<=sizeLine:=by decide
 have len':s.out.length+(3+pool.length+csD pool ps d a+csD pool ps d c)<900000:=len;obtain⟨t,zz,rfl,qt,_,_,rfl,rfl,xe,_,rfl,de,xa,_,rfl,da,xc,_,rfl,dc,rfl⟩:=dx;have qK:SqT K H t [.str "if",xe,xa,xc]:=(xJ _ _).tupq qt;obtain⟨⟨kvs,hb,bkd⟩,b0⟩:=id bk;obtain⟨nbg,nbr⟩:=X7 bk sa;refine⟨_,rfl,γ.g,γ.dx,_,rfl,sa.ins,rfl,_,rfl,.inr (.inl ⟨t,_,1,xe,rfl,rfl,qK,J9,_,rfl,e,xe,bd,kvs,s.b.at,rfl,eo.1,Qm bkd dm eo,eo.2.1,de.same (xJ _ _),hb,λpe H1 s1 d1=>?_⟩)⟩;refine⟨H0,γ,ps,s.out,e.ren s.b.at,.ref pe,rfl,sa.same s1,by omega,d1,λH2 x2 sa2=>⟨z2,λpc npc=>?_⟩⟩;have x02:Xc [γ.g,γ.rl] H H2:=(Xc.of s1).trans x2;have u3:=xy npc (.tup [.str "name",.str (nx s.out)]);have ec:upd H2 pc (.tup [.str "name",.str (nx s.out)]) pc=some (.tup [.str "name",.str (nx s.out)]):=xm;have x03:=x02.trans (.of u3);have sa3:=sa2.same u3;dsimp only[xF,List.set,L2.J2,Ja,jR];generalize upd H2 pc (.tup [.str "name",.str (nx s.out)])=H3 at u3 ec x03 sa3 ⊢;have dex3:=QM sa x03;have bk3:=bk.xc x03 (λz=>by rcases jB.mp z with z|z;exact nbg z;exact nbr (jA.mp z));obtain⟨⟨kvs3,hb3,bkd3⟩,_⟩:=id bk3
 -- the first branch
 refine⟨_,rfl,bd,kvs3,rfl,hb3,λfd nfd=>?_⟩;have u4:=xy nfd (.dK kvs3);have efd:upd H3 fd (.dK kvs3) fd=some (.dK kvs3):=xm;have x04:=x03.trans (.of u4);have sa4:=sa3.same u4;dsimp only[xF,List.set];generalize upd H3 fd (.dK kvs3)=H4 at u4 efd x04 sa4 ⊢;have dex4:=QM sa x04;have bk4:=bk3.same u4;have bf4:BkH pool H0 H4 fd s.b:=⟨⟨kvs3,efd,bkd3⟩,sa3.sm.free nfd⟩;have nfb:fd≠bd:=λz=>by rw[z,hb3]at nfd;cases nfd
 have qt4:SqT K H4 t [.str "if",xe,xa,xc]:=(xJ _ _).tupq (Jp dex4 qt);have gi:=cy g (nx s.out) (ltv s.out (e.ren s.b.at));have ll:=X3 s.out (e.ren s.b.at);have gl:=gi.len;refine⟨_,rfl,γ.g,γ.dx,_,rfl,sa4.ins,rfl,_,rfl,.inr (.inl ⟨t,_,2,xa,rfl,rfl,qt4,JA,_,rfl,_,rfl,γ.g,γ.dx,_,rfl,sa4.ins,rfl,_,rfl,_,rfl,H0,γ,ps,_,nx s.out,pc,g,rfl,sa4,by omega,.of (u4 _ _ ec),λH5 x5 sa5=>?_⟩)⟩;have dex5:=QM sa4 x5;have bf5:=bf4.xc x5 (λz=>by have h:=X7 bf4 sa4;rcases jB.mp z with z|z;exact h.1 z;exact h.2 (jA.mp z));have bk5:=bk4.xc x5 (λz=>by rcases jB.mp z with z|z;exact nbg z;exact nbr (jA.mp z));have ifF:=cA (Qc pool ps d) g (e:=e.ren s.b.at) oa oc dm sub (under g (.un (.nam (nx s.out))));obtain⟨i1,ei1⟩:∃i1,i1=if1 g (nx s.out) (ltv s.out (e.ren s.b.at)):=⟨_,rfl⟩;rw[<- ei1]at ifF sa5 gl;obtain⟨t1,et1⟩:∃t1,t1=xS pool ps d a (some i1.2) ⟨i1.1,s.b⟩:=⟨_,rfl⟩;rw[<- et1]at ifF;obtain⟨t2,et2⟩:∃t2,t2=xS pool ps d c (some (nx t1.out)) ⟨ltv t1.out (under g (.un (.nam (nx s.out)))),s.b⟩:=⟨_,rfl⟩;rw[<- et2]at ifF
 have ep:JG pool ps (xS pool ps d) g (.ifr e a c) s=Q2 pool (nx s.out) t1.b t2.b t2.out:=by
  show Q2 pool _ _ _ _=_;rw[et2,et1,ei1]
 rw[ep]at q;have lt1:=ifF.l1.1.gr.len;have lt2:=ifF.l2.1.gr.len;have ll1:=X3 t1.out (under g (.un (.nam (nx s.out))));dsimp only at lt1 lt2;refine⟨pool,Kn,H0,γ,ps,⟨i1.1,s.b⟩,a,xa,fd,some i1.2,by rw[ei1];rfl,sa5,Jr dex5 (Jr dex4 da),bf5,oa,dm,sub,qU,by show i1.1.length+_<_;omega,λH6 x6 sa6 bf6=>?_⟩;rw[<- et1]at sa6 bf6;have bk6:BkH pool H0 H6 bd s.b:=bk5.xc x6 (λz=>by rcases jB.mp z with z|z;exact nbg z;rcases jB.mp z with z|z;exact nbr z;exact nfb (jA.mp z).symm);have dex6:=QA sa5 bf5 x6
 have ec6:SqT K H6 pc [.str "name",.str (nx s.out)]:=by
  have h4:hid [γ.rl] H4 pc=some (.tup [.str "name",.str (nx s.out)]):=xQ (λz=>by obtain⟨ys,hy,_⟩:=sa4.rl;have:=u4 _ _ ec;rw[jA.mp z,hy]at this;cases this) (u4 _ _ ec);exact(xJ _ _).tupq (Jp dex6 (Jp dex5 (.of h4)))
 obtain⟨⟨kvs6,hb6,bkd6⟩,_⟩:=id bk6;dsimp only[xF,List.set]
 -- the second branch
 refine⟨_,rfl,bd,kvs6,rfl,hb6,λsd nsd=>?_⟩;have u7:=xy nsd (.dK kvs6);have esd:upd H6 sd (.dK kvs6) sd=some (.dK kvs6):=xm;have sa7:=sa6.same u7;have bf7:=bf6.same u7;have bk7:=bk6.same u7;have ec7:=u7.tupq ec6;have dc7:=(Jr dex6 (Jr dex5 (Jr dex4 dc))).same (J3 u7);have qt7:=(Jp dex6 (Jp dex5 (Jp dex4 qt)));have qt7:SqT K (upd H6 sd (.dK kvs6)) t [.str "if",xe,xa,xc]:=u7.tupq ((xJ _ _).tupq qt7);have bs7:BkH pool H0 (upd H6 sd (.dK kvs6)) sd s.b:=⟨⟨kvs6,esd,bkd6⟩,sa6.sm.free nsd⟩;have nsf:sd≠fd:=λz=>by obtain⟨⟨k,h,_⟩,_⟩:=bf6;rw[z,h]at nsd;cases nsd
 have nsb:sd≠bd:=λz=>by rw[z,hb6]at nsd;cases nsd
 have x06:Xc [γ.g,γ.rl,bd] H H6:=λb u n h=>by
  refine x6 _ _ (λz=>?_) (x5 _ _ (λz=>?_) (x04 _ _ (λz=>?_) h))
  . rcases jB.mp z with z | z
    . exact n (by rw[z];simp)
    . rcases jB.mp z with z | z
      . exact n (by rw[z];simp)
      . have h3:=x03 b u (λy=>n (by rcases jB.mp y with y|y;(rw[y];simp);(rw[jA.mp y];simp))) h;rw[jA.mp z,nfd]at h3;cases h3
  . rcases jB.mp z with z | z
    . exact n (by rw[z];simp)
    . exact n (by rw[jA.mp z];simp)
  . rcases jB.mp z with z | z
    . exact n (by rw[z];simp)
    . exact n (by rw[jA.mp z];simp)
 have x07:=x06.trans (.of u7);dsimp only[xF,List.set];generalize upd H6 sd (.dK kvs6)=H7 at u7 esd sa7 bf7 bk7 ec7 dc7 qt7 bs7 x07 ⊢;refine⟨_,rfl,γ.g,γ.dx,_,rfl,sa7.ins,rfl,_,rfl,.inr (.inl ⟨t,_,3,xc,rfl,rfl,qt7,Xl,_,rfl,_,rfl,γ.g,γ.dx,_,rfl,sa7.ins,rfl,_,rfl,_,rfl,H0,γ,ps,_,nx s.out,pc,g,rfl,sa7,by omega,ec7,λH8 x8 sa8=>?_⟩)⟩;have dex8:=QM sa7 x8;have n2x:∀{y:xb},y≠γ.g->y≠γ.rl->y∉[γ.g,γ.rl]:=λh1 h2 z=>by rcases jB.mp z with z|z;exact h1 z;exact h2 (jA.mp z)
 have n3:∀{y w:xb},y≠γ.g->y≠γ.rl->y≠w->y∉[γ.g,γ.rl,w]:=λh1 h2 h3 z=>by rcases jB.mp z with z|z;exact h1 z;rcases jB.mp z with z|z;exact h2 z;exact h3 (jA.mp z)
 have af:=X7 bf7 sa7;have as_:=X7 bs7 sa7;have bf8:=bf7.xc x8 (n2x af.1 af.2);have bs8:=bs7.xc x8 (n2x as_.1 as_.2);have bk8:=bk7.xc x8 (n2x nbg nbr);refine⟨pool,Kn,H0,γ,ps,⟨ltv t1.out (under g (.un (.nam (nx s.out)))),s.b⟩,c,xc,sd,some (nx t1.out),rfl,sa8,Jr dex8 dc7,bs8,oc,dm,sub,qU,by show(ltv _ _).length+_<_;omega,λH9 x9 sa9 bs9=>?_⟩;rw[<- et2]at sa9 bs9;have bf9:=bf8.xc x9 (n3 af.1 af.2 nsf.symm);have bk9:=bk8.xc x9 (n3 nbg nbr nsb.symm);have dex9:=QA sa8 bs8 x9;have ec9:SqT K H9 pc [.str "name",.str (nx s.out)]:=(xJ _ _).tupq (Jp dex9 (Jp dex8 (l9 sa7 ec7)))
 have x09:Xc [γ.g,γ.rl,bd] H H9:=λb u n h=>by
  have h7:=x07 b u n h;have h8:=x8 b u (λz=>n (by rcases jB.mp z with z|z;(rw[z];simp);(rw[jA.mp z];simp))) h7;refine x9 b u (λz=>?_) h8;rcases jB.mp z with z|z
  . exact n (by rw[z];simp)
  . rcases jB.mp z with z | z
    . exact n (by rw[z];simp)
    . have h6:=x06 b u n h;rw[jA.mp z,nsd]at h6;cases h6
 obtain⟨⟨kvf,hf,bkf⟩,_⟩:=id bf9;obtain⟨⟨kvt,ht,bkt⟩,_⟩:=id bs9;obtain⟨nf,enf,ndf,sbf,mf⟩:=bkf.names;obtain⟨nt,ent,ndt,sbt,mt⟩:=bkt.names;have lf:=List.Nodup.length_le_of_subset ndf sbf;have lt:=List.Nodup.length_le_of_subset ndt sbt;dsimp only[xF,List.set]
 -- the Q2
 refine⟨_,rfl,fd,kvf,nf,rfl,hf,enf,by omega,_,rfl,sd,kvt,nt,rfl,ht,ent,by omega,λks nd hk=>?_,λl ss nl mem pw=>?_⟩
 . have:=List.Nodup.length_le_of_subset nd λn hn=>sbf n (hk n hn).1;omega
 obtain rfl:ss=both pool t1.b t2.b:=cj pw (iZ ..) λn=>by
  rw[mem n,mf n,mt n,Xk];exact⟨λ⟨h1,h2⟩=>⟨sbf n ((mf n).mpr h1),h1,h2⟩,λh=>h.2⟩
 have ul:=xy nl (.lst ((both pool t1.b t2.b).map V.str));have el:upd H9 l (.lst ((both pool t1.b t2.b).map V.str)) l=some (.lst ((both pool t1.b t2.b).map V.str)):=xm;have sl:=sa9.same ul;have bkl:=bk9.same ul;have hfl:=ul _ _ hf;have htl:=ul _ _ ht;have ecl:=ul.tupq ec9;have lb:=x09.trans (.of ul);generalize upd H9 l (.lst ((both pool t1.b t2.b).map V.str))=HL at ul el sl bkl hfl htl ecl lb ⊢;have bl:=cw pool t1.b t2.b;have nlg:l≠γ.g:=Qe el sl.ins (λz=>nomatch z);have nlb:l≠bd:=by obtain⟨⟨k,h,_⟩,_⟩:=bkl;exact Qe el h (λz=>nomatch z)
 have nlr:l≠γ.rl:=λz=>by obtain⟨ys,hy,_⟩:=sa9.rl;rw[z,hy]at nl;cases nl
 have nfr:fd≠γ.g/\fd≠γ.rl:=af;refine⟨l,rfl,⟨_,.of el⟩,Xf (K:=K) (xs:=(both pool t1.b t2.b).map V.str) (λi σ H'=>∃(c7 c8:Option V),σ=[some (.ref γ.g),some (.ref t),some (.ref bd),some (gdV g),some (.ref pc),some (.ref fd),some (.ref sd),c7,c8]/\Xc [γ.g,γ.rl,bd] HL H'/\Jd K CP H0 H' γ ps (((both pool t1.b t2.b).take i).foldl (pp1 (nx s.out) t1.b t2.b) ⟨t2.out,s.b⟩).out/\BkH pool H0 H' bd (((both pool t1.b t2.b).take i).foldl (pp1 (nx s.out) t1.b t2.b) ⟨t2.out,s.b⟩).b) ⟨none,none,rfl,.of (Same.refl _),sl,bkl⟩ (λi σ H' _ h=>?_) ?_ ?_⟩
 . obtain⟨_,_,_,x1,_⟩:=h;exact .of (x1 _ _ (n3 nlg nlr nlb) el)
 . rintro i x σ H' hx ⟨c7,c8,rfl,x1,sa1,bk1⟩;rw[jJ]at hx;obtain⟨n,en,rfl⟩:=jT.mp hx;have hi:=(jV.mp en).1;have hnm:=jq en;obtain⟨np,s1,s2⟩:=Xk.mp hnm;have e:(both pool t1.b t2.b).take (i + 1)=(both pool t1.b t2.b).take i ++ [n]:=by rw[List.take_succ,en];rfl
   rw[e,List.foldl_append];have pl:=l8 (b1:=t1.b) (b2:=t2.b) (k:=nx s.out) ((both pool t1.b t2.b).take i) ⟨t2.out,s.b⟩;rw[jo]at pl;dsimp only at pl;generalize((both pool t1.b t2.b).take i).foldl (pp1 (nx s.out) t1.b t2.b) ⟨t2.out,s.b⟩=T at sa1 bk1 pl ⊢
   have dgf:∀{HH:Hp},Same H' HH->DGet HH fd (.str n) (some (.str (t1.b.at n))):=λsh=>by
    have:=DGet.k (k := .inr n) (sh _ _ (x1 _ _ (n3 af.1 af.2 nfb) hfl))
    rwa [bkf.get s1]at this
   have dgs:∀{HH:Hp},Same H' HH->DGet HH sd (.str n) (some (.str (t2.b.at n))):=λsh=>by
    have:=DGet.k (k := .inr n) (sh _ _ (x1 _ _ (n3 as_.1 as_.2 nsb) htl))
    rwa [bkt.get s2]at this
   have ec1:SqT K H' pc [.str "name",.str (nx s.out)]:=(xJ _ _).tupq (Jp (QA sl bkl x1) (l9 sl ecl));dsimp only[xF,List.set];refine⟨_,rfl,_,rfl,fd,_,rfl,dgf (Same.refl _),_,rfl,_,rfl,sd,_,rfl,dgs (Same.refl _),_,_,rfl,rfl,_,rfl,?_⟩;have epp:List.foldl (pp1 (nx s.out) t1.b t2.b) T [n]=pp1 (nx s.out) t1.b t2.b T n:=rfl;rw[epp];unfold pp1
   by_cases cq:t1.b.at n=t2.b.at n
   . rw[kf cq,ke ((ah s1 s2).mp cq)];exact⟨_,_,rfl,x1,sa1,bk1⟩
   . rw[kg cq,k9 (λz=>cq ((ah s1 s2).mpr z))];refine⟨_,rfl,_,rfl,_,rfl,fd,_,rfl,dgf (Same.refl _),z2,λp1 n1=>?_⟩;have u1:=xy n1 (.tup [.str "name",.str (t1.b.at n)]);refine⟨_,rfl,_,rfl,sd,_,rfl,dgs u1,z2,λp2 n2=>⟨by show 4<=sizeLine;decide,λp3 n3'=>?_⟩⟩;have u2:=xy n2 (.tup [.str "name",.str (t2.b.at n)]);have u3:=xy n3' (.tup [.str "pick",.ref pc,.ref p1,.ref p2]);have u:=u1.trans (u2.trans u3);have dp:IsD K _ (dE (.pick (.nam (nx s.out)) (.nam (t1.b.at n)) (.nam (t2.b.at n)))) (.ref p3):=⟨p3,_,rfl,.of (xm (H:=_) (o := .tup [.str "pick",.ref pc,.ref p1,.ref p2])),_,_,rfl,rfl,_,_,rfl,⟨pc,_,rfl,u.tupq ec1,_,_,rfl,rfl,_,_,rfl,rfl,rfl⟩,_,_,rfl,⟨p1,_,rfl,.of ((u2.trans u3) _ _ xm),_,_,rfl,rfl,_,_,rfl,rfl,rfl⟩,_,_,rfl,⟨p2,_,rfl,.of (u3 _ _ xm),_,_,rfl,rfl,_,_,rfl,rfl,rfl⟩,rfl⟩;dsimp only[xF,List.set];refine⟨_,rfl,γ.g,γ.dx,_,rfl,(sa1.same u).ins,rfl,_,rfl,H0,γ,ps,T.out,_,.ref p3,rfl,sa1.same u,by omega,dp,λH5 x5 sa5=>?_⟩;have bk5:=(bk1.same u).xc x5 (n2x nbg nbr);obtain⟨H6,pt,x6,sa6,bk6⟩:=ZG sa5 bk5 np qU (nx T.out);refine⟨_,rfl,_,rfl,bd,H6,rfl,pt,_,_,rfl,x1.trans ?_,sa6,bk6⟩;exact λb v nb eb=>x6 _ _ (λz=>nb (by rw[jA.mp z];simp)) (x5 _ _ (λz=>nb (by rcases jB.mp z with z|z;(rw[z];simp);(rw[jA.mp z];simp))) (u _ _ eb))
 . rintro σ H' ⟨c7,c8,rfl,x1,sa1,bk1⟩;rw[jC,j9,v7 ifF dm sub]at sa1 bk1;exact q H' (lb.trans x1) sa1 bk1
def cCl(K:qu)(CP:xb)(d:Nat):Sp:=λvs H Q _=>∃(pool Kn:qB) (H0:Hp) (γ:SpA) (ps:List Pt) (s:LB) (y p:Str) (es:List Ex) (q:Pt) (x:V) (bd:xb) (g:Option Str),vs=[.ref γ.g,x,.ref bd,gdV g]/\Jd K CP H0 H γ ps s.out/\IsD K (hid [γ.rl] H) (dW (.call y p es)) x/\BkH pool H0 H bd s.b/\fnd ps p=some q/\ok1 pool ps (okD pool ps d) Kn (.call y p es)/\Dm s.b Kn/\(∀n∈Kn,n∈pool)/\pool.length<=10/\s.out.length+(1+es.length+csD pool ps d q.rs)<900000 /\
 ∀H',Xc [γ.g,γ.rl] H H'->Jd K CP H0 H' γ ps (ltv (xS pool ps d q.rs g (args s.b (q.pa.zip es) s.out)).out (q.e.ren (xS pool ps d q.rs g (args s.b (q.pa.zip es) s.out)).b.at))->Q (.str (nx (xS pool ps d q.rs g (args s.b (q.pa.zip es) s.out)).out)) H'
theorem vt(h12:12<=j)(B:Bl mg)(qL:Cls K CP)(w1:NoAttr K CP "parts")(JH:Def P w K mg base "renamed" 12 ["e", "book"] (JT K 10))(Js:DefM P w K mg base CP "lay_let" 2 ["self", "e"] (X6 K CP))
 (X8:DefM P w K mg base CP "lay_rows" j ["self", "rows", "book", "guard"] (XX K CP d)) (F:MFn K CP "lay_call" "Spreader.lay_call" Zy ["self", "row", "book", "guard"]):DefM P w K mg base CP "lay_call" (j+1) ["self", "row", "book", "guard"] (cCl K CP d):=by
 have hj_renamed:12<=j:=h12;have hj_Spreader_lay_let:2<=j:=by omega
 have hj_Spreader_lay_rows:j<=j:=jG _;refine F.ok3 ZC (λvs H Q E h=>?_) (λf qF A outer s H vs Q E hr h=>?_)
 . obtain⟨pool,Kn,H0,γ,ps,s,y,p,es,q,x,bd,g,rfl,_⟩:=h;rfl
 obtain⟨pool,Kn,H0,γ,ps,s,y,p,es,q,x,bd,g,rfl,sa,dx,bk,fq,⟨yp,q',fq',pl,e100,oke,sq,okb,oe⟩,dm,sub,qU,len,k⟩:=h;obtain rfl:q=q':=by rw[fq]at fq';exact Option.some.inj fq'
 refine⟨_,(@xu _ _ _ _ _ (xM (i:=4) ZC.nd rfl 'b' (xL (xG hr) (XA (pv 0) rfl) (xD (xE K rfl) (pv 1) xi (λ_ _=>rfl)) (λ_ _=>rfl)))
  (@xu _ _ _ _ _ (@Q0 _ 5 _ _ _ _ _ ZC.nd rfl 'b' Zh rfl (by first|exact .inl rfl|exact .inr rfl))
  (@xu _ _ _ _ _ (Yr (uE K rfl rfl B.zip PyProof.Rows.boot_zip (@xj _ _ _ _ _ (xD (xE K rfl) (pv 4) xi (λ_ _=>rfl)) (@xj _ _ _ _ _ (xD (xE K rfl) (pv 1) xi (λ_ _=>rfl)) xk rfl) rfl)) (nV rfl (eG (Ju (i:=6) ZC.nd rfl 'b') (eG (Ju (i:=7) ZC.nd rfl 'b') nU))) (@xw _ _ _ (Je (xG hr) (pv 5) (pv 6) (Jn Js qL hr Jg (pv 0) (@xj _ _ _ _ _ (xI JH hr rfl (@xj _ _ _ _ _ (pv 7) (@xj _ _ _ _ _ (pv 2) xk rfl) rfl) (hjk:=hj_renamed)) xk rfl) (hjk:=hj_Spreader_lay_let)) rfl)))
  (@xu _ _ _ _ _ (J1 (Jn X8 qL hr Jg (pv 0) (@xj _ _ _ _ _ (xD (xE K rfl) (pv 4) xi (λ_ _=>rfl)) (@xj _ _ _ _ _ (pv 5) (@xj _ _ _ _ _ (pv 3) xk rfl) rfl) rfl) (hjk:=hj_Spreader_lay_rows)))
  (@xw _ _ _ (xP (Jn Js qL hr Jg (pv 0) (@xj _ _ _ _ _ (xI JH hr rfl (@xj _ _ _ _ _ (xD (xE K rfl) (pv 4) xi (λ_ _=>rfl)) (@xj _ _ _ _ _ (pv 5) xk rfl) rfl) (hjk:=hj_renamed)) xk rfl) (hjk:=hj_Spreader_lay_let)))))))),?_⟩
 have z2:(2:Nat)<=sizeLine:=by decide
 obtain⟨t,zz,rfl,qt,_,_,rfl,rfl,_,_,rfl,rfl,_,_,rfl,rfl,xe,_,rfl,de,rfl⟩:=dx;obtain⟨le,ys,rfl,qle,dys⟩:=de;have qK:SqT K H t [.str "call",.str y,.str p,.ref le]:=(xJ _ _).tupq qt;obtain⟨kvp,hpd,ptd⟩:=sa.pd;obtain⟨v,ev,dv⟩:=ptd.at_ p q fq;obtain⟨tp,zz,rfl,qp,_,_,rfl,rfl,xa,_,rfl,da,xr,_,rfl,dr,xq,_,rfl,dq,rfl⟩:=dv;obtain⟨la,xs,rfl,qla,dxs⟩:=da;obtain rfl:=Qv dxs;have yl:=dys.length;rw[jC]at yl
 have dg:DGet H γ.pd (.str p) (some (.ref tp)):=by
  have:=DGet.k (k := .inr p) hpd
  rwa [ev]at this
 refine⟨_,rfl,γ.g,CP,γ.dx,_,_,rfl,sa.ins,qL,w1,rfl,_,rfl,.inr (.inl ⟨t,_,2,.str p,rfl,rfl,qK,JA,γ.pd,_,rfl,dg,λib nib=>?_⟩)⟩;have u1:=xy nib (.dK []);have ei:upd H ib (.dK []) ib=some (.dK []):=xm;dsimp only[xF,List.set,L2.J2,Ja,jR];generalize upd H ib (.dK [])=H1 at u1 ei ⊢;have sa1:=sa.same u1;have bk1:=bk.same u1;have bi1:BkH pool H0 H1 ib bo0:=⟨⟨[],ei,ZF pool⟩,sa.sm.free nib⟩;have nbi:bd≠ib:=λz=>by obtain⟨⟨kv,h,_⟩,_⟩:=bk;rw[z,nib]at h;cases h
 obtain⟨nbg,nbr⟩:=X7 bk sa;have n3:∀{y w:xb},y≠γ.g->y≠γ.rl->y≠w->y∉[γ.g,γ.rl,w]:=λh1 h2 h3 z=>by rcases jB.mp z with z|z;exact h1 z;rcases jB.mp z with z|z;exact h2 z;exact h3 (jA.mp z)
 have hs1:=J3 (A:=[γ.rl]) u1;have qla1:=hs1.seq qla;have qle1:=hs1.seq qle;have zl:(q.pa.zip es).length=es.length:=by rw[List.length_zip];omega
 refine⟨_,rfl,.inr (.inl ⟨tp,_,1,.ref la,rfl,rfl,u1.tupq ((xJ _ _).tupq qp),J9,_,rfl,.inr (.inl ⟨t,_,3,.ref le,rfl,rfl,u1.tupq qK,Xl,la,le,rfl,⟨_,_,(xJ _ _).seq qla1,(xJ _ _).seq qle1⟩,uF (K:=K) (xs:=q.pa.map V.str) (ys:=ys) (λi σ H'=>∃(c6 c7:Option V),σ=[some (.ref γ.g),some (.ref t),some (.ref bd),some (gdV g),some (.ref tp),some (.ref ib),c6,c7]/\Xc [γ.g,γ.rl,ib] H1 H'/\Jd K CP H0 H' γ ps (((q.pa.zip es).take i).foldl (ag1 s.b) ⟨s.out,bo0⟩).out/\BkH pool H0 H' ib (((q.pa.zip es).take i).foldl (ag1 s.b) ⟨s.out,bo0⟩).b) (by rw[jC];omega) ⟨none,none,rfl,.of (Same.refl _),sa1,bi1⟩ (λi σ H' _ h=>?_) ?_ ?_⟩)⟩)⟩
 . obtain⟨_,_,_,x1,_⟩:=h;have dex:=QA sa1 bi1 x1;exact⟨(xJ _ _).seq (ZE dex qla1),(xJ _ _).seq (ZE dex qle1)⟩
 . rintro i x y' pp σ H' hx hy ⟨c6,c7,rfl,x1,sai,bii⟩ npp;rw[jJ]at hx;obtain⟨n,en,rfl⟩:=jT.mp hx;have hi:i < es.length:=by have:=(jV.mp hy).1;omega
   obtain⟨e,ee⟩:∃e,es[i]?=some e:=⟨_,jD hi⟩;have em:=jq ee;have nm:=jq en
   have tk:(q.pa.zip es).take (i+1)=(q.pa.zip es).take i++[(n,e)]:=by
    rw[List.take_succ,(List.getElem?_zip_eq_some (z:=(n,e))).mpr ⟨en,ee⟩];rfl
   have dex:=QA sa1 bi1 x1
   have dy:IsD K (hid [γ.rl] H') (dE e) y':=by
    obtain⟨y2,e2,d2⟩:=IsDs.get (X5 dex (dys.same hs1)) (show(es.map dE)[i]?=some (dE e) by rw[jJ,ee];rfl);rw[hy]at e2;rw[Option.some.inj e2];exact d2
   have bki:=bk1.xc x1 (n3 nbg nbr nbi);have ll:=(XW (b:=s.b) ((q.pa.zip es).take i) ⟨s.out,bo0⟩ [] dm0).1.len;rw[jo]at ll;dsimp only at ll;rw[tk,List.foldl_append];show eI _ _ _ _ _ _ _;generalize((q.pa.zip es).take i).foldl (ag1 s.b) ⟨s.out,bo0⟩=T at sai bii ll ⊢;have u2:=xy npp (.tup [.str n,y']);have sa2:=sai.same u2;have bi2:=bii.same u2;have bk2:=bki.same u2;have dy2:=dy.same ((xJ _ _).trans u2);have ept:upd H' pp (.tup [.str n,y']) pp=some (.tup [.str n,y']):=xm;generalize upd H' pp (.tup [.str n,y'])=H2 at u2 sa2 bi2 bk2 dy2 ept ⊢;refine⟨pp,_,rfl,.of ept,rfl,_,_,rfl,_,_,rfl,rfl,?_⟩;obtain⟨⟨kvs,hb,bkd⟩,_⟩:=id bk2;have eo:=oke e em;refine⟨_,rfl,γ.g,γ.dx,_,rfl,sa2.ins,rfl,_,rfl,_,rfl,e,y',bd,kvs,s.b.at,rfl,eo.1,Qm bkd dm eo,eo.2.1,dy2,hb,λpe H3 s3 d3=>?_⟩;refine⟨H0,γ,ps,T.out,e.ren s.b.at,.ref pe,rfl,sa2.same s3,by omega,d3,λH4 x4 sa4=>?_⟩;have ai:=X7 bi2 sa2;have bi4:=(bi2.same s3).xc x4 (λz=>by rcases jB.mp z with z|z;exact ai.1 z;exact ai.2 (jA.mp z));obtain⟨H5,pt,x5,sa5,bi5⟩:=ZG sa4 bi4 (sq n nm) qU (nx T.out);refine⟨_,rfl,_,rfl,ib,H5,rfl,pt,_,_,rfl,x1.trans ?_,sa5,bi5⟩;exact λb v nb eb=>x5 _ _ (λz=>nb (by rw[jA.mp z];simp)) (x4 _ _ (λz=>nb (by rcases jB.mp z with z|z;(rw[z];simp);(rw[jA.mp z];simp))) (s3 _ _ (u2 _ _ eb)))
 . rintro σ H' ⟨c6,c7,rfl,x1,sai,bii⟩;rw[jC,show q.pa.length=(q.pa.zip es).length by omega,j9]at sai bii;obtain⟨ag,dma⟩:=XW (b:=s.b) (q.pa.zip es) ⟨s.out,bo0⟩ [] dm0;rw[j0,a7 pl]at dma;have ll:=ag.len;dsimp only at ll;have ea:args s.b (q.pa.zip es) s.out=(q.pa.zip es).foldl (ag1 s.b) ⟨s.out,bo0⟩:=rfl;rw[<- ea]at sai bii dma ll;generalize args s.b (q.pa.zip es) s.out=T at sai bii dma ll k;have dex:=QA sa1 bi1 x1;have dr1:=Jr dex (dr.same hs1);have dq1:=Jr dex (dq.same hs1);have qp1:=Jp dex (hs1.tupq qp);have lyd:=Qc pool ps d q.pa q.rs g T okb dma sq;dsimp only[xF,List.set];refine⟨_,rfl,γ.g,γ.dx,_,rfl,sai.ins,rfl,_,rfl,.inr (.inl ⟨tp,_,2,xr,rfl,rfl,(xJ _ _).tupq qp1,JA,_,rfl,_,rfl,pool,q.pa,H0,γ,ps,T,q.rs,xr,ib,g,rfl,sai,dr1,bii,okb,dma,sq,qU,by omega,λH2 x2 sa2 bi2=>?_⟩)⟩;have dex2:=QA sai bii x2;obtain⟨⟨kvs,hb,bkd⟩,_⟩:=id bi2;have lu:=lyd.1.gr.len;generalize xS pool ps d q.rs g T=U at sa2 bi2 bkd lyd lu k;refine⟨_,rfl,γ.g,γ.dx,_,rfl,sa2.ins,rfl,_,rfl,.inr (.inl ⟨tp,_,3,xq,rfl,rfl,(xJ _ _).tupq (Jp dex2 qp1),Xl,_,rfl,q.e,xq,ib,kvs,U.b.at,rfl,oe.1,Qm bkd lyd.1.dm oe,oe.2.1,(Jr dex2 dq1).same (xJ _ _),hb,λpe H3 s3 d3=>?_⟩)⟩;refine⟨H0,γ,ps,U.out,_,.ref pe,rfl,sa2.same s3,by omega,d3,λH4 x4 sa4=>k H4 (λb v nb eb=>?_) sa4⟩;have nib':b≠ib:=λz=>by rw[z,nib]at eb;cases eb
   have n3':b∉[γ.g,γ.rl,ib]:=λz=>by rcases jB.mp z with z|z;(exact nb (by rw[z];simp));rcases jB.mp z with z|z;(exact nb (by rw[z];simp));exact nib' (jA.mp z)
   exact x4 _ _ nb (s3 _ _ (x2 _ _ n3' (x1 _ _ n3' (u1 _ _ eb))))
def QN{c:Prop}[Decidable c]{a b:Prop}(h:c)(k:a):if decide c=true then a else b:=by rw[kf h];exact Jc k
theorem vv(h12:12<=j)(B:Bl mg)(qL:Cls K CP)(JH:Def P w K mg base "renamed" 12 ["e", "book"] (JT K 10))(Js:DefM P w K mg base CP "lay_let" 2 ["self", "e"] (X6 K CP))(am:DefM P w K mg base CP "lay_draw" 2 ["self", "outcomes"] (cK K CP))(ao:DefM P w K mg base CP "lay_seen" 3 ["self", "e", "guard"] (cL K CP))
 (vw:DefM P w K mg base CP "lay_if" (j+1) ["self", "row", "book", "guard"] (cIf K CP d)) (vx:DefM P w K mg base CP "lay_call" (j+1) ["self", "row", "book", "guard"] (cCl K CP d)) (X8:DefM P w K mg base CP "lay_rows" j ["self", "rows", "book", "guard"] (XX K CP d)) (F:MFn K CP "lay_row" "Spreader.lay_row" Zz ["self", "row", "book", "guard"]):DefM P w K mg base CP "lay_row" (j+2) ["self", "row", "book", "guard"] (iY K CP d):=by
 have hj_renamed:12<=j+1:=by omega
 have hj_Spreader_lay_let:2<=j+1:=by omega
 have hj_Spreader_lay_draw:2<=j+1:=by omega
 have hj_Spreader_lay_seen:3<=j+1:=by omega
 have hj_Spreader_lay_rows:j<=j+1:=by omega
 have hj_Spreader_lay_if:j+1<=j+1:=jG _;have hj_Spreader_lay_call:j+1<=j+1:=jG _;refine F.ok3 iH (λvs H Q E h=>?_) (λf qF A outer s H vs Q E hr h=>?_)
 . obtain⟨pool,Kn,H0,γ,ps,s,r,x,bd,g,rfl,_⟩:=h;rfl
 obtain⟨pool,Kn,H0,γ,ps,s,r,x,bd,g,rfl,sa,dx,bk,ok,dm,sub,qU,len,q⟩:=h;refine⟨_,(@xw _ _ _ (xO (xK Jb (xD (xE K rfl) (pv 1) xi (λ_ _=>rfl)) xt (xN _)) (@xw _ _ _ (Je (xG hr) (pv 2) (xD (xE K rfl) (pv 1) xi (λ_ _=>rfl)) (Jn am qL hr Jg (pv 0) (xC (xD (xE K rfl) (pv 1) xi (λ_ _=>rfl)) xk) (hjk:=hj_Spreader_lay_draw)) rfl)) (@xw _ _ _ (xO (xK Jb (xD (xE K rfl) (pv 1) xi (λ_ _=>rfl)) xt (xN _)) (@xw _ _ _ (Je (xG hr) (pv 2) (xD (xE K rfl) (pv 1) xi (λ_ _=>rfl)) (Jn Js qL hr Jg (pv 0) (xC (xI JH hr rfl (xC (xD (xE K rfl) (pv 1) xi (λ_ _=>rfl)) (xC (pv 2) xk)) (hjk:=hj_renamed)) xk) (hjk:=hj_Spreader_lay_let)) rfl)) (@xw _ _ _ (xO (xK Jb (xD (xE K rfl) (pv 1) xi (λ_ _=>rfl)) xt (xN _)) (@xw _ _ _ (J1 (Jn ao qL hr Jg (pv 0) (xC (xI JH hr rfl (xC (xD (xE K rfl) (pv 1) xi (λ_ _=>rfl)) (xC (pv 2) xk)) (hjk:=hj_renamed)) (xC (pv 3) xk)) (hjk:=hj_Spreader_lay_seen)))) (@xw _ _ _ (xO (xK Jb (xD (xE K rfl) (pv 1) xi (λ_ _=>rfl)) xt (xN _)) (@xw _ _ _ (J1 (Jn vw qL hr Jg (pv 0) (xC (pv 1) (xC (pv 2) (xC (pv 3) xk))) (hjk:=hj_Spreader_lay_if)))) (@xw _ _ _ (xO (xK Jb (xD (xE K rfl) (pv 1) xi (λ_ _=>rfl)) xt (xN _)) (@xw _ _ _ (Yr (Q5 rfl B.range (xC (xD (xE K rfl) (pv 1) xi (λ_ _=>rfl)) xk)) (Ju (i:=4) iH.nd rfl 'b') (@xw _ _ _ (J1 (Jn X8 qL hr Jg (pv 0) (xC (xD (xE K rfl) (pv 1) xi (λ_ _=>rfl)) (xC (pv 2) (xC (pv 3) xk))) (hjk:=hj_Spreader_lay_rows)))))) (@xw _ _ _ (Je (xG hr) (pv 2) (xD (xE K rfl) (pv 1) xi (λ_ _=>rfl)) (Jn vx qL hr Jg (pv 0) (xC (pv 1) (xC (pv 2) (xC (pv 3) xk))) (hjk:=hj_Spreader_lay_call)) rfl)))))))))))),?_⟩;obtain⟨nbg,nbr⟩:=X7 bk sa;have n2:bd∉[γ.g,γ.rl]:=λz=>by rcases jB.mp z with z|z;exact nbg z;exact nbr (jA.mp z)
 have wide:∀{H1 H2:Hp},Xc [γ.g,γ.rl] H H1->Xc [bd] H1 H2->Xc [γ.g,γ.rl,bd] H H2:=λx1 x2 b v nb eb=>x2 _ _ (λz=>nb (by rw[jA.mp z];simp)) (x1 _ _ (λz=>nb (by rcases jB.mp z with z|z;(rw[z];simp);(rw[jA.mp z];simp))) eb);obtain⟨⟨kvs,hb,bkd⟩,_⟩:=id bk
 cases r with
 |draw y os =>
  obtain⟨yp,o100,_⟩:=ok;obtain⟨t,zz,rfl,qt,_,_,rfl,rfl,_,_,rfl,rfl,xo,_,rfl,dO,rfl⟩:=dx;have qK:SqT K H t [.str "draw",.str y,xo]:=(xJ _ _).tupq qt;have len':s.out.length+1<900000:=len;refine⟨_,rfl,.inr (.inl ⟨t,_,0,.str "draw",rfl,rfl,qK,J0,_,_,rfl,rfl,_,rfl,QN rfl ?_⟩)⟩;refine⟨_,rfl,γ.g,γ.dx,_,rfl,sa.ins,rfl,_,rfl,.inr (.inl ⟨t,_,2,xo,rfl,rfl,qK,JA,H0,γ,ps,s.out,os,xo,rfl,sa,by omega,o100,dO,λH1 x1 sa1=>?_⟩)⟩;have bk1:=bk.xc x1 n2;have qt1:SqT K H1 t [.str "draw",.str y,xo]:=(xJ _ _).tupq (Jp (QM sa x1) qt);obtain⟨H2,pt,x2,sa2,bk2⟩:=ZG sa1 bk1 yp qU (nx s.out);exact⟨_,rfl,_,rfl,.inr (.inl ⟨t,_,1,.str y,rfl,rfl,qt1,J9,bd,H2,rfl,pt,q H2 (wide x1 x2) sa2 bk2⟩)⟩
 |lett y e =>
  obtain⟨yp,eo⟩:=ok;obtain⟨t,zz,rfl,qt,_,_,rfl,rfl,_,_,rfl,rfl,xe,_,rfl,de,rfl⟩:=dx;have qK:SqT K H t [.str "let",.str y,xe]:=(xJ _ _).tupq qt;have len':s.out.length+1<900000:=len;refine⟨_,rfl,.inr (.inl ⟨t,_,0,.str "let",rfl,rfl,qK,J0,_,_,rfl,rfl,_,rfl,xU (λc=>absurd c (by show("let" : Str) ≠ "draw";decide)) (λ_=>?_)⟩)⟩;refine⟨_,rfl,.inr (.inl ⟨t,_,0,.str "let",rfl,rfl,qK,J0,_,_,rfl,rfl,_,rfl,QN rfl ?_⟩)⟩;refine⟨_,rfl,γ.g,γ.dx,_,rfl,sa.ins,rfl,_,rfl,.inr (.inl ⟨t,_,2,xe,rfl,rfl,qK,JA,_,rfl,e,xe,bd,kvs,s.b.at,rfl,eo.1,Qm bkd dm eo,eo.2.1,de.same (xJ _ _),hb,λpe H1 s1 d1=>?_⟩)⟩;refine⟨H0,γ,ps,s.out,e.ren s.b.at,.ref pe,rfl,sa.same s1,by omega,d1,λH2 x2 sa2=>?_⟩;have x02:=(Xc.of s1).trans x2;have bk2:=bk.xc x02 n2;have qt2:SqT K H2 t [.str "let",.str y,xe]:=(xJ _ _).tupq (Jp (QM sa x02) qt);obtain⟨H3,pt,x3,sa3,bk3⟩:=ZG sa2 bk2 yp qU (nx s.out);exact⟨_,rfl,_,rfl,.inr (.inl ⟨t,_,1,.str y,rfl,rfl,qt2,J9,bd,H3,rfl,pt,q H3 (wide x02 x3) sa3 bk3⟩)⟩
 |seen e =>
  have eo:OkE Kn e:=ok;obtain⟨t,zz,rfl,qt,_,_,rfl,rfl,xe,_,rfl,de,rfl⟩:=dx;have qK:SqT K H t [.str "seen",xe]:=(xJ _ _).tupq qt;have len':s.out.length+2<900000:=len;refine⟨_,rfl,.inr (.inl ⟨t,_,0,.str "seen",rfl,rfl,qK,J0,_,_,rfl,rfl,_,rfl,xU (λc=>absurd c (by show("seen" : Str) ≠ "draw";decide)) (λ_=>?_)⟩)⟩;refine⟨_,rfl,.inr (.inl ⟨t,_,0,.str "seen",rfl,rfl,qK,J0,_,_,rfl,rfl,_,rfl,xU (λc=>absurd c (by show("seen" : Str) ≠ "let";decide)) (λ_=>?_)⟩)⟩;refine⟨_,rfl,.inr (.inl ⟨t,_,0,.str "seen",rfl,rfl,qK,J0,_,_,rfl,rfl,_,rfl,QN rfl ?_⟩)⟩;refine⟨_,rfl,γ.g,γ.dx,_,rfl,sa.ins,rfl,_,rfl,.inr (.inl ⟨t,_,1,xe,rfl,rfl,qK,J9,_,rfl,e,xe,bd,kvs,s.b.at,rfl,eo.1,Qm bkd dm eo,eo.2.1,de.same (xJ _ _),hb,λpe H1 s1 d1=>?_⟩)⟩;refine⟨_,rfl,H0,γ,ps,s.out,e.ren s.b.at,.ref pe,g,rfl,sa.same s1,by omega,d1,λH2 x2 sa2=>?_⟩;have x02:=(Xc.of s1).trans x2;have bk2:=bk.xc x02 n2;refine q H2 (wide x02 (.of (Same.refl _))) ?_ ?_
  . cases g with
    |none=>exact sa2
    |some gd=>exact sa2
  . cases g with
    |none=>exact bk2
    |some gd=>exact bk2
 |ifr e a c =>
  obtain⟨t,zz,ex,qt,_,_,rfl,rfl,_⟩:=id dx;obtain rfl:=ex;have qK:SqT K H t _:=(xJ _ _).tupq qt;refine⟨_,rfl,.inr (.inl ⟨t,_,0,.str "if",rfl,rfl,qK,J0,_,_,rfl,rfl,_,rfl,xU (λc=>absurd c (by show("if" : Str) ≠ "draw";decide)) (λ_=>?_)⟩)⟩;refine⟨_,rfl,.inr (.inl ⟨t,_,0,.str "if",rfl,rfl,qK,J0,_,_,rfl,rfl,_,rfl,xU (λc=>absurd c (by show("if" : Str) ≠ "let";decide)) (λ_=>?_)⟩)⟩;refine⟨_,rfl,.inr (.inl ⟨t,_,0,.str "if",rfl,rfl,qK,J0,_,_,rfl,rfl,_,rfl,xU (λc=>absurd c (by show("if" : Str) ≠ "seen";decide)) (λ_=>?_)⟩)⟩;refine⟨_,rfl,.inr (.inl ⟨t,_,0,.str "if",rfl,rfl,qK,J0,_,_,rfl,rfl,_,rfl,QN rfl ?_⟩)⟩;exact⟨_,rfl,γ.g,γ.dx,_,rfl,sa.ins,rfl,_,rfl,_,rfl,_,rfl,pool,Kn,H0,γ,ps,s,e,a,c,.ref t,bd,g,rfl,sa,dx,bk,ok,dm,sub,qU,len,q⟩
 |rnd k a =>
  obtain⟨k3,oa⟩:=ok;obtain⟨t,zz,rfl,qt,_,_,rfl,rfl,_,_,rfl,rfl,xa,_,rfl,da,rfl⟩:=dx;have qK:SqT K H t [.str "rounds",.int (k:Nat),xa]:=(xJ _ _).tupq qt;have len':s.out.length+k*csD pool ps d a<900000:=len;refine⟨_,rfl,.inr (.inl ⟨t,_,0,.str "rounds",rfl,rfl,qK,J0,_,_,rfl,rfl,_,rfl,xU (λc=>absurd c (by show("rounds" : Str) ≠ "draw";decide)) (λ_=>?_)⟩)⟩;refine⟨_,rfl,.inr (.inl ⟨t,_,0,.str "rounds",rfl,rfl,qK,J0,_,_,rfl,rfl,_,rfl,xU (λc=>absurd c (by show("rounds" : Str) ≠ "let";decide)) (λ_=>?_)⟩)⟩;refine⟨_,rfl,.inr (.inl ⟨t,_,0,.str "rounds",rfl,rfl,qK,J0,_,_,rfl,rfl,_,rfl,xU (λc=>absurd c (by show("rounds" : Str) ≠ "seen";decide)) (λ_=>?_)⟩)⟩;refine⟨_,rfl,.inr (.inl ⟨t,_,0,.str "rounds",rfl,rfl,qK,J0,_,_,rfl,rfl,_,rfl,xU (λc=>absurd c (by show("rounds" : Str) ≠ "if";decide)) (λ_=>?_)⟩)⟩;refine⟨_,rfl,.inr (.inl ⟨t,_,0,.str "rounds",rfl,rfl,qK,J0,_,_,rfl,rfl,_,rfl,QN rfl ?_⟩)⟩;refine⟨_,rfl,.inr (.inl ⟨t,_,1,.int (k:Nat),rfl,rfl,qK,J9,_,rfl,by omega,by omega,?_⟩)⟩;rw[ja];refine QS (λi σ H'=>∃(c4:Option V),σ=[some (.ref γ.g),some (.ref t),some (.ref bd),some (gdV g),c4]/\Xc [γ.g,γ.rl,bd] H H'/\Jd K CP H0 H' γ ps (Nat.rec (motive:=λ_=>LB) s (λ_ t=>xS pool ps d a g t) i).out/\BkH pool H0 H' bd (Nat.rec (motive:=λ_=>LB) s (λ_ t=>xS pool ps d a g t) i).b) ⟨none,rfl,.of (Same.refl _),sa,bk⟩ (λi σ H' hi h=>?_) (λσ H' h=>?_)
  . obtain⟨c4,rfl,x1,sa1,bk1⟩:=h;obtain⟨ly,lk⟩:=a8 (Qc pool ps d) (Qy pool ps d) g s oa dm sub i;have lg:=ly.gr.len;have dex:=QA sa bk x1;obtain⟨T,eT⟩:∃T,T=(Nat.rec (motive:=λ_=>LB) s (λ_ t=>xS pool ps d a g t) i):=⟨_,rfl⟩;rw[<- eT]at ly lg sa1 bk1;have mi:(i+1)*csD pool ps d a<=k*csD pool ps d a:=Nat.mul_le_mul_right _ hi;rw[Nat.succ_mul]at mi;have sub':∀n∈Kn++(if 0<i then knR a else []),n∈pool:=λn hn=>(jI.mp hn).elim (sub n) (lk n);dsimp only[xF,List.set];exact⟨_,rfl,γ.g,γ.dx,_,rfl,sa1.ins,rfl,_,rfl,.inr (.inl ⟨t,_,2,xa,rfl,rfl,(xJ _ _).tupq (Jp dex qt),JA,_,rfl,_,rfl,pool,_,H0,γ,ps,T,a,xa,bd,g,rfl,sa1,Jr dex da,bk1,Qy pool ps d _ _ _ (λn hn=>ji _ hn) oa,ly.dm,sub',qU,by omega,λH2 x2 sa2 bk2=>⟨_,rfl,x1.trans x2,by rw[eT]at sa2;exact sa2,by rw[eT]at bk2;exact bk2⟩⟩)⟩
  . obtain⟨c4,rfl,x1,sa1,bk1⟩:=h;exact q H' x1 sa1 bk1
 |call y p es =>
  obtain⟨yp,qq,fq,_⟩:=id ok;obtain⟨t,zz,ex,qt,_,_,rfl,rfl,_,_,rfl,rfl,_⟩:=id dx;obtain rfl:=ex;have qK:SqT K H t _:=(xJ _ _).tupq qt;refine⟨_,rfl,.inr (.inl ⟨t,_,0,.str "call",rfl,rfl,qK,J0,_,_,rfl,rfl,_,rfl,xU (λc=>absurd c (by show("call" : Str) ≠ "draw";decide)) (λ_=>?_)⟩)⟩;refine⟨_,rfl,.inr (.inl ⟨t,_,0,.str "call",rfl,rfl,qK,J0,_,_,rfl,rfl,_,rfl,xU (λc=>absurd c (by show("call" : Str) ≠ "let";decide)) (λ_=>?_)⟩)⟩;refine⟨_,rfl,.inr (.inl ⟨t,_,0,.str "call",rfl,rfl,qK,J0,_,_,rfl,rfl,_,rfl,xU (λc=>absurd c (by show("call" : Str) ≠ "seen";decide)) (λ_=>?_)⟩)⟩;refine⟨_,rfl,.inr (.inl ⟨t,_,0,.str "call",rfl,rfl,qK,J0,_,_,rfl,rfl,_,rfl,xU (λc=>absurd c (by show("call" : Str) ≠ "if";decide)) (λ_=>?_)⟩)⟩;refine⟨_,rfl,.inr (.inl ⟨t,_,0,.str "call",rfl,rfl,qK,J0,_,_,rfl,rfl,_,rfl,xU (λc=>absurd c (by show("call" : Str) ≠ "rounds";decide)) (λ_=>?_)⟩)⟩;have ec:cs1 pool ps (csD pool ps d) (.call y p es)=1+es.length+csD pool ps d qq.rs:=by simp only[cs1,fq]
  have el:JG pool ps (xS pool ps d) g (.call y p es) s=⟨ltv (xS pool ps d qq.rs g (args s.b (qq.pa.zip es) s.out)).out (qq.e.ren (xS pool ps d qq.rs g (args s.b (qq.pa.zip es) s.out)).b.at),s.b.put y (nx (xS pool ps d qq.rs g (args s.b (qq.pa.zip es) s.out)).out)⟩:=by simp only[JG,fq]
  rw[ec]at len;rw[el]at q;refine⟨_,rfl,γ.g,γ.dx,_,rfl,sa.ins,rfl,_,rfl,_,rfl,_,rfl,pool,Kn,H0,γ,ps,s,y,p,es,qq,.ref t,bd,g,rfl,sa,dx,bk,fq,ok,dm,sub,qU,len,λH2 x2 sa2=>?_⟩;have bk2:=bk.xc x2 n2;have qt2:=(xJ _ _).tupq (Jp (QM sa x2) qt);obtain⟨H3,pt,x3,sa3,bk3⟩:=ZG sa2 bk2 yp qU (nx (xS pool ps d qq.rs g (args s.b (qq.pa.zip es) s.out)).out);exact⟨_,rfl,_,rfl,.inr (.inl ⟨t,_,1,.str y,rfl,rfl,qt2,J9,bd,H3,rfl,pt,q H3 (wide x2 x3) sa3 bk3⟩)⟩
theorem ld(B:Bl mg)(qL:Cls K CP)(w1:NoAttr K CP "parts")(JH:Def P w K mg base "renamed" 12 ["e", "book"] (JT K 10))(Js:DefM P w K mg base CP "lay_let" 2 ["self", "e"] (X6 K CP))(am:DefM P w K mg base CP "lay_draw" 2 ["self", "outcomes"] (cK K CP))(ao:DefM P w K mg base CP "lay_seen" 3 ["self", "e", "guard"] (cL K CP))(aj:DefM P w K mg base CP "first_guard" 3 ["self", "choice", "guard"] (cM K CP))(ak:DefM P w K mg base CP "second_guard" 3 ["self", "choice", "guard"] (cN K CP))
 (F1:MFn K CP "lay_rows" "Spreader.lay_rows" ZA ["self", "rows", "book", "guard"]) (F2:MFn K CP "lay_row" "Spreader.lay_row" Zz ["self", "row", "book", "guard"]) (F3:MFn K CP "lay_if" "Spreader.lay_if" Zx ["self", "row", "book", "guard"]) (F4:MFn K CP "lay_call" "Spreader.lay_call" Zy ["self", "row", "book", "guard"]) :
 ∀d,DefM P w K mg base CP "lay_rows" (12+3*d) ["self", "rows", "book", "guard"] (XX K CP d)
 |0=>F1.ok3 bZ (λvs H Q E h=>by obtain⟨_,_,_,_,_,_,_,_,_,_,_,_,_,_,h,_⟩:=h;exact h.elim) (λf qF A outer s H vs Q E hr h=>by obtain⟨_,_,_,_,_,_,_,_,_,_,_,_,_,_,h,_⟩:=h;exact h.elim)
 |d+1=>by
  have h:=ld B qL w1 JH Js am ao aj ak F1 F2 F3 F4 d;have i:=vq (ju 12 (3*d)) B qL JH Js aj ak h F3;have c:=vt (ju 12 (3*d)) B qL w1 JH Js h F4;exact vo B qL (vv (ju 12 (3*d)) B qL JH Js am ao i c h F2) F1
def ptk:List Pt->List V->List (Key×V)
 |p::ps,x::xs=>(.inr p.nm,x)::ptk ps xs
 |_,_=>[]
theorem cP:∀{ps:List Pt}{xs:List V},xs.length=ps.length->(ptk ps xs).length=ps.length
 | [],[],_=>rfl
 |p::ps,x::xs,h=>by show(ptk ps xs).length+1=ps.length+1;rw[cP (by simpa using h)]
theorem lh:∀(ps:List Pt) (xs:List V) (i:Nat),ps[i]?=some p->xs[i]?=some x->(ptk ps xs)[i]?=some (.inr p.nm,x)
 | [],_,_,h1,_=>by simp at h1
 |_::_,[],_,_,h2=>by simp at h2
 |a::ps,y::xs,0,h1,h2=>by cases h1;cases h2;rfl
 |a::ps,y::xs,i+1,h1,h2=>by
  rw[List.getElem?_cons_succ]at h1 h2;exact lh ps xs i h1 h2
theorem cQ:∀{ps:List Pt}{xs:List V},xs.length=ps.length->(ptk ps xs).map (·.1)=(ps.map (·.nm)).map .inr
 | [],[],_=>rfl
 |p::ps,x::xs,h=>by
  show Sum.inr p.nm::(ptk ps xs).map (·.1)=.inr p.nm::(ps.map (·.nm)).map .inr;rw[cQ (by simpa using h)]
theorem lj:∀{ps:List Pt}{xs:List V},IsDs K H (ps.map dPt) xs->fnd ps f=some q->∃v,valV (ptk ps xs) (.inr f)=some v/\IsD K H (dPt q) v
 |p::ps,xs,h,e=>by
  obtain⟨x,ys,rfl,d1,d2⟩:=h;unfold fnd at e;rw[jy]at e
  by_cases c:p.nm=f
  . rw[kf c]at e
    cases e
    refine⟨x,?_,d1⟩;show valV ((.inr q.nm,x)::ptk ps ys) (.inr f)=some x;unfold valV;rw[jy,kf (by rw[c])];rfl
  . rw[kg c]at e;obtain⟨v,e1,e2⟩:=lj (f:=f) (q:=q) d2 e;refine⟨v,?_,e2⟩;show valV ((.inr p.nm,x)::ptk ps ys) (.inr f)=some v;unfold valV at e1 ⊢;rw[jy,kg (λz=>c (Sum.inr.inj z))];exact e1
 | [],_,_,e=>by cases e
theorem lq:∀(m acc:List (Key×V)),(acc.map (·.1)++m.map (·.1)).Nodup->Qi acc m=acc++m
 | [],acc,_=>by show acc=acc++[];rw[jR]
 |a::m,acc,h=>by
  have hp:xH acc a.1 a.2=acc++[a]:=by
   unfold xH
   rw[k9 (λz=>by
    obtain⟨p,hp,e⟩:=List.any_eq_true.mp z;have e:p.1=a.1:=by simpa using e
    exact(j3.mp h).2.2 _ (jn.mpr ⟨p,hp,rfl⟩) _ (by rw[jg];exact jH) e)]
  show Qi (xH acc a.1 a.2) m=_;rw[hp,lq m (acc++[a]) (by rw[jd,jw];exact h),jw];rfl
def vy{to:TE}{nm:Str}{ix:qC}{wi:TI}{te:TE}{r:List V->Hp->VK->Prop}{u:TS}{D:Ends}(h:wi σ H (JQ ix te σ λx H1=>r [x] H1 λy H2=>b9 K' to (λ_ H Q=>Q y H) nm { D with nx:=u D } σ H2)):Qf (b9 K' to (tCB r (J8 (JL ix wi Q9 te) Ja)) nm) u D σ H:=h
theorem lr:∀{fs:List (Key×V)}{ys:List V},Paired (λp v=>QX H v p) fs ys->Paired (QX H) ys fs
 |_,_,.nil => .nil
 |_,_,.cons h t => .cons h (lr t)
def ls(K:qu)(CP:xb):Sp:=λvs H Q _=>∃(g dx pa:xb) (ps:List Pt),vs=[.ref g,.ref pa]/\H g=some (.ins CP dx [])/\IsD K H (.lst (ps.map dPt)) (.ref pa)/\(ps.map (·.nm)).Nodup/\ps.length<=100 /\
 ∀(pd rl:xb) (H':Hp),(∀b u,b≠g->H b=some u->H' b=some u)->Jd K CP (hid [g] H) H' ⟨g,dx,pd,rl⟩ ps []->Q .non H'
def vz(B:Bl mg)(qL:Cls K CP)(n1:NoAttr K CP "parts")(n2:NoAttr K CP "rows")(n3:NoAttr K CP "given")(F:Fun K "__init__" "Spreader.__init__" YM f fd):FnOk P w K mg base (CXD P w) 1 f fd ["self", "parts"] (ls K CP):=by
 refine F.ok3 uT (λvs H Q E h=>?_) (λqF A outer s H vs Q E hr h=>?_)
 . obtain⟨g,dx,pa,ps,rfl,_⟩:=h;rfl
 obtain⟨g,dx,pa,ps,rfl,hg,dp,nd,few,q⟩:=h
 refine⟨_,(@xu _ _ _ _ _ (ba (pv 0) (JY (uo rfl) rfl B.dict PyProof.Rows.boot_dict (xC (Qa (CompOk.of (x := "part") (M:=[]) (ix:=[]) rfl rfl (by decide +kernel) (by decide +kernel) rfl trivial 'g' trivial) rfl (by decide +kernel) (JK (pv 1)) (λ_ _ _ _ _=>JP) (λ_ _ _ _ _=>(JO (xC (xD (xE K rfl) (pv 0) xi (λ_ _=>rfl)) (xC (pv 0) xk))))) xk)) rfl)
  (@xu _ _ _ _ _ (ba (pv 0) (XB xk) rfl)
  (@xw _ _ _ (ba (pv 0) xi rfl)))),?_⟩
 obtain⟨pa',xs,ex,qa,ids⟩:=dp
 cases ex
 have xl:=ids.length;rw[jC]at xl;have big:(1000:Nat)<sizeLine:=by decide
 have z2:(2:Nat)<=sizeLine:=by decide
 refine vy ?_;refine⟨_,rfl,pa,rfl,⟨_,qa⟩,?_⟩;refine QY (α:=Key×V) (λH p v=>QX H v p) (λs h=>by obtain⟨c,e,hc⟩:=h;exact⟨c,e,s _ _ hc⟩) ps.length (λi=>xs.getD i .non) (ptk ps xs) (cP xl) 'd' (λH' sm=>⟨xs,sm.seq qa,by omega⟩) (λi H' hi sm=>?_) (λi a Da H' R hi ha sm nD oD hR=>?_) λp1 H1 ys s1 f1 e1 pr1=>?_
 . have hx:xs[i]? = some (xs.getD i .non):=by rw[jN,jD 'd'];rfl
   exact⟨⟨xs,_,sm.seq qa,hx⟩,λx qH hy=>⟨by have:=hy.2 xs (sm.seq qa);rw[hx]at this;exact(Option.some.inj this).symm,hy.1⟩⟩
 . have hx:xs[i]? = some (xs.getD i .non):=by rw[jN,jD 'd'];rfl
   rw[lh ps xs i (jD hi) hx]at ha
   cases ha
   obtain⟨y,ey,dy⟩:=ids.get (i:=i) (d:=dPt ps[i]) (by rw[jJ,jD hi];rfl);rw[hx]at ey;obtain rfl:=Option.some.inj ey;obtain⟨tp,zz,et,qp,_,_,rfl,rfl,_⟩:=dy;rw[et]at hR ⊢;refine⟨_,rfl,.inr (.inl ⟨tp,_,0,.str ps[i].nm,rfl,rfl,sm.tupq qp,J0,_,rfl,z2,λpn fn=>?_⟩)⟩;obtain⟨oDa,eDa⟩:=oD;have npD:pn≠Da:=λz=>by rw[z,eDa]at fn;cases fn
   refine hR _ _ (xy fn _) ⟨pn,rfl,(by rw[hU npD,xm];rfl)⟩
 . refine⟨p1,ys,_,rfl,e1,lr pr1,by rw[cP xl];omega,λpd npd=>?_⟩;rw[lq _ [] (by rw[List.map_nil,j0,cQ xl,List.Nodup,List.pairwise_map];exact nd.imp λh z=>h (Sum.inr.inj z)),j0];have u2:=xy npd (.dK (ptk ps xs));have s2:=s1.trans u2;have e2:upd H1 pd (.dK (ptk ps xs)) pd=some (.dK (ptk ps xs)):=xm;generalize upd H1 pd (.dK (ptk ps xs))=H2 at u2 s2 e2 ⊢;have hg2:=s2 _ _ hg;have gpd:g≠pd:=λz=>by have h:=s1 _ _ hg;rw[z,npd]at h;cases h
   refine⟨_,rfl,g,CP,dx,_,rfl,hg2,qL,n1,(by show 0<1000;decide),?_⟩;refine⟨jS _,λrl nrl=>?_⟩;have grl:rl≠g:=λz=>by rw[z,xm]at nrl;cases nrl
   rw[xz grl]at nrl;have prl:rl≠pd:=λz=>by rw[z,e2]at nrl;cases nrl
   refine⟨_,rfl,g,CP,dx,_,rfl,(by rw[xz grl.symm];exact xm),qL,n2,(by show 1<1000;decide),?_⟩;refine⟨_,rfl,g,CP,dx,_,rfl,xm,qL,n3,(by show 2<1000;decide),?_⟩
   have oth:∀b u,b≠g->b≠rl->H2 b=some u->upd (upd (upd (upd H2 g (.ins CP dx (Jh "parts" (.ref pd) []))) rl (.lst [])) g (.ins CP dx (Jh "rows" (.ref rl) (Jh "parts" (.ref pd) [])))) g (.ins CP dx (Jh "given" (.int 0) (Jh "rows" (.ref rl) (Jh "parts" (.ref pd) [])))) b=some u:=λb u h1 h2 e=>by
    rw[xz h1,xz h1,xz h2,xz h1];exact e
   have hrl:H rl=none:=s2.free nrl;refine q pd rl _ (λb u nb eb=>oth b u nb (λz=>by rw[z,hrl]at eb;cases eb) (s2 _ _ eb)) ⟨xm,⟨ptk ps xs,oth _ _ gpd.symm prl.symm e2,by rw[cQ xl,List.Nodup,List.pairwise_map];exact nd.imp λh z=>h (Sum.inr.inj z),λf' q' e'=>?_⟩,⟨[],(by rw[xz grl,xz grl,xm]),rfl,.nil⟩,λb u eb=>?_,?_,?_⟩
   . obtain⟨v,e3,d3⟩:=lj ids e';refine⟨v,e3,?_⟩;have hh:Same H (hid [rl] H):=λb u eb=>xQ (λz=>by rw[jA.mp z,hrl]at eb;cases eb) eb;exact Jr (λb u nb eb nD=>oth b u (λz=>by rw[z,hg]at eb;cases eb;exact nD ab) (λz=>nb (jA.mpr z)) (s2 _ _ eb)) (d3.same hh)
   . have hb:b≠g:=λz=>by rw[z]at eb;unfold hid at eb;rw[ke (jA.mpr rfl)]at eb;cases eb
     have eb:=xJ _ _ _ _ eb;exact oth b u hb (λz=>by rw[z,hrl]at eb;cases eb) (s2 _ _ eb)
   . show hid [g] H rl=none;unfold hid;rw[k9 (λz=>grl (jA.mp z))];exact hrl
   . show hid [g] H g=none;unfold hid;rw[ke (jA.mpr rfl)]
def vA(h:wi σ H (JQ ix te σ λx H1=>tr σ H1 λxs H2=>R (x::xs) H2)):J8 (JL ix wi Q9 te) tr σ H R:=h
theorem ZH:∀{ss:qB}{ys:List V},Paired (λs v=>v=.str s) ss ys->ys=ss.map V.str
 |_,_,.nil=>rfl
 |_,_,.cons h t=>by rw[h,ZH t];rfl
def vB(s:Same H H')(f:∀b,H0 b=none->H1 b=none):∀{l:List Wr}{m:List V},Paired (RowN H0 H rl) l m->Paired (RowN H1 H' rl) l m:=by
 intro l m p
 induction p with
 |nil=>exact .nil
 | @cons r y _ _ a _ ih =>
  refine .cons ?_ ih
  cases r with
  |draw x os =>
   obtain⟨t,ol,v,xs,e0,e1,e2,e3,e4⟩:=a;exact⟨t,ol,v,xs,e0,s _ _ e1,s _ _ e2,f _ e3,e4⟩
  |_=>trivial
structure SprD (K:qu) (H H':Hp) (p:xb) (out:List Wr) (as:qB):Prop where
 ex:∃(e rl al:xb) (ys:List V),H' p=some (.tup [.ref e,.ref rl,.ref al])/\H' e=some (.lst [])/\H' rl=some (.lst ys)/\H' al=some (.lst (as.map V.str))/\IsDs K (hid [rl] H') (dWs out) ys/\Paired (RowN H H' rl) out ys/\H p=none/\H e=none/\H rl=none/\H al=none/\e≠rl/\al≠rl/\e≠al
def dPr(ps:List Pt)(rs:List Wr)(as:qB):D := .tup [.lst (ps.map dPt),.lst (dWs rs),.lst (as.map D.str)]
def lB(K:qu)(d:Nat):Sp:=λvs H Q _=>∃(pool:qB) (ps:List Pt) (rs:List Wr) (as:qB) (x:V),vs=[x]/\IsD K H (dPr ps rs as) x/\(ps.map (·.nm)).Nodup/\ps.length<=100/\okD pool ps d [] rs/\pool.length<=10/\csD pool ps d rs<900000/\(∀n∈as,n∈knR rs)/\as.length<=100 /\
 ∀p H',Same H H'->SprD K H H' p (xS pool ps d rs none ⟨[],bo0⟩).out (as.map (xS pool ps d rs none ⟨[],bo0⟩).b.at)->Q (.ref p) H'
theorem vC(B:Bl mg)(qL:Cls K CP)(w2:NoAttr K CP "rows")(cR:NewC P w K mg base "Spreader" CP 1 ["self", "parts"] (ls K CP))(X8:DefM P w K mg base CP "lay_rows" (12+3*d) ["self", "rows", "book", "guard"] (XX K CP d))(F:Fn K mg "spread" Ys ["program"]):Def2 P w K mg base "spread" (12+3*d+1) ["program"] (lB K d):=by
 have hj_Spreader:1+1<=12+3*d:=by omega
 have hj_Spreader_lay_rows:12+3*d<=12+3*d:=jG _;refine F.ok3 bW (λvs H Q E h=>?_) (λf qF A outer s H vs Q E hr h=>?_)
 . obtain⟨pool,ps,rs,as,x,rfl,_⟩:=h;rfl
 obtain⟨pool,ps,rs,as,x,rfl,dx,nd,pf,ok,qU,len,sub,af,q⟩:=h
 refine⟨_,(@xu _ _ _ _ _ (xM (i:=1) bW.nd rfl 'b' (uN cR hr rfl Jg (xC (xD (xE K rfl) (pv 0) xi (λ_ _=>rfl)) xk) (hjk:=hj_Spreader)))
  (@xu _ _ _ _ _ (xM (i:=2) bW.nd rfl 'b' Zh)
  (@xu _ _ _ _ _ (J1 (Jn X8 qL hr Jg (pv 1) (xC (xD (xE K rfl) (pv 0) xi (λ_ _=>rfl)) (xC (pv 2) (xC ZS xk))) (hjk:=hj_Spreader_lay_rows)))
  (@xw _ _ _ (xP (JO (xC (XB xk) (xC (XA (pv 1) rfl) (xC (Qa (CompOk.of (x := "name") (M:=["book"]) (ix:=[2]) rfl rfl (by decide +kernel) (by decide +kernel) rfl ⟨rfl,trivial⟩ 'g' ⟨⟨rfl,rfl,rfl,rfl⟩,trivial⟩) rfl (by decide +kernel) (JK (xD (xE K rfl) (pv 0) xi (λ_ _=>rfl))) (λ_ _ _ _ _=>JP) (λ_ _ _ _ _=>(xL (xG hr) (pv 1) (pv 0) (λ_ _=>rfl)))) xk))))))))),?_⟩
 obtain⟨t,zz,rfl,qt,xp,_,rfl,dp,xr,_,rfl,dr,xa,_,rfl,da,rfl⟩:=dx;obtain⟨pa,xs,rfl,_,_⟩:=id dp;obtain⟨la,ys,rfl,qla,dys⟩:=da;obtain rfl:=Qv dys;have big:(1000:Nat)<sizeLine:=by decide
 refine⟨_,rfl,.inr (.inl ⟨t,_,0,.ref pa,rfl,rfl,qt,J0,λg dx ng ndx ne=>?_⟩)⟩;have u1:Same H (upd (upd H dx (.own g)) g (.ins CP dx [])):=λb u e=>by rw[xz (Jm e ng),xz (Jm e ndx)];exact e
 have eg:upd (upd H dx (.own g)) g (.ins CP dx []) g=some (.ins CP dx []):=xm;generalize upd (upd H dx (.own g)) g (.ins CP dx [])=Hn at u1 eg ⊢
 have h0:∀b,hid [g] Hn b=none->H b=none:=λb e=>by
  by_cases c:b=g
  . rw[c];exact ng
  . unfold hid at e;rw[k9 (λz=>c (jA.mp z))]at e;exact u1.free e
 refine⟨g,dx,pa,ps,rfl,eg,dp.same u1,nd,pf,λpd rl H2 oth sa=>⟨rfl,?_⟩⟩;have hrl:H rl=none:=h0 _ sa.n0;have s2:Same H H2:=λb u e=>oth b u (Jm e ng) (u1 _ _ e);refine λbd nbd=>?_;have u3:=xy nbd (.dK []);have eb:upd H2 bd (.dK []) bd=some (.dK []):=xm;dsimp only[xF,List.set,L2.J2,Ja,jR];generalize upd H2 bd (.dK [])=H3 at u3 eb ⊢;have sa3:=sa.same u3;have bk3:BkH pool (hid [g] Hn) H3 bd bo0:=⟨⟨[],eb,ZF pool⟩,sa.sm.free nbd⟩;have s3:=s2.trans u3;have hr3:Same H (hid [rl] H3):=λb u e=>xQ (λz=>by rw[jA.mp z,hrl]at e;cases e) (s3 _ _ e);refine⟨_,rfl,g,dx,_,rfl,sa3.ins,rfl,_,rfl,.inr (.inl ⟨t,_,1,xr,rfl,rfl,s3.tupq qt,J9,_,rfl,pool,[],hid [g] Hn,⟨g,dx,pd,rl⟩,ps,⟨[],bo0⟩,rs,xr,bd,none,rfl,sa3,dr.same hr3,bk3,ok,dm0,(λn hn=>(nomatch hn)),qU,by show 0+_<_;omega,λH4 x4 sa4 bk4=>?_⟩)⟩;have ly:=(Qc pool ps d [] rs none ⟨[],bo0⟩ ok dm0 (λn hn=>(nomatch hn))).1.dm;generalize xS pool ps d rs none ⟨[],bo0⟩=U at sa4 bk4 ly q
 have s4:Same H H4:=λb u e=>x4 _ _ (λz=>by
  rcases jB.mp z with z|z
  . exact Jm e ng z
  . rcases jB.mp z with z | z
    . exact Jm e hrl z
    . exact Jm e (s2.free nbd) (jA.mp z)) (s3 _ _ e)
 obtain⟨ys,hy,dy,rn⟩:=sa4.rl;obtain⟨⟨kvs,hb,bkd⟩,_⟩:=bk4;refine⟨jS _,λe ne'=>?_⟩;have u5:=xy ne' (.lst []);have ee:upd H4 e (.lst []) e=some (.lst []):=xm;generalize upd H4 e (.lst [])=H5 at u5 ee ⊢;refine⟨_,rfl,g,CP,dx,_,_,rfl,u5 _ _ sa4.ins,qL,w2,rfl,?_⟩;refine vA ?_;have qla5:=(s4.trans u5).seq qla;refine⟨_,rfl,.inr (.inl ⟨t,_,2,.ref la,rfl,rfl,(s4.trans u5).tupq qt,JA,la,rfl,⟨_,qla5⟩,?_⟩)⟩;refine QY (α:=Str) (λ_ s v=>v=.str s) (λ_ h=>h) as.length (λi => .str (as.getD i "")) (as.map U.b.at) (jC _) 'd' (λH' sm=>⟨_,sm.seq qla5,by rw[jC];exact jG _⟩) (λi H' hi sm=>?_) (λi a Da H' R hi ha sm nD oD hR=>?_) λal H6 zs s6 n6 e6 pr6=>?_
 . have hx:(as.map V.str)[i]? = some (.str (as.getD i "")):=by rw[jJ,jN,jD hi];rfl
   exact⟨⟨_,_,sm.seq qla5,hx⟩,λx qH hy=>⟨by have:=hy.2 _ (sm.seq qla5);rw[hx]at this;exact(Option.some.inj this).symm,hy.1⟩⟩
 . rw[jJ,jD hi]at ha
   cases ha
   have hn:as.getD i "" = as[i]:=by rw[jN,jD hi];rfl
   have dg:=DGet.k (k := .inr as[i]) ((u5.trans sm) _ _ hb);rw[bkd.get ((ly _).mpr (jM _ (sub _ (jp hi))))]at dg;rw[<- hn]at dg;refine⟨_,rfl,_,rfl,bd,_,rfl,dg,hR _ _ (Same.refl _) ?_⟩;rw[hn]
 . refine⟨by show 3<=sizeLine;decide,λp np=>?_⟩;have u7:=s6.trans (xy np (.tup [.ref e,.ref rl,.ref al]));have s7:=s4.trans (u5.trans u7);rw[ZH pr6]at e6;have hy5:=u5 _ _ hy;refine q p _ s7 ⟨e,rl,al,ys,xm,u7 _ _ ee,u7 _ _ hy5,xy np _ _ _ e6,dy.same (J3 (u5.trans u7)),vB (u5.trans u7) h0 rn,(s4.trans (u5.trans s6)).free np,s4.free ne',hrl,(s4.trans u5).free n6,λz=>?_,λz=>?_,λz=>?_⟩
   . rw[z,hy]at ne';cases ne'
   . rw[z,hy5]at n6;cases n6
   . rw[<- z,ee]at n6;cases n6
structure OutA (K:qu) (H:Hp) (lo:xb) (out:List Wr):Prop where
 at_:∃ys,H lo=some (.lst ys)/\IsDs K (hid [lo] H) (dWs out) ys
def OutD(K:qu)(Da:xb)(H:Hp)(lo:xb)(out:List Wr):Prop:=∃ys,H lo=some (.lst ys)/\IsDs K (hid [lo,Da] H) (dWs out) ys
def XY(K:qu):Sp:=λvs H Q _=>∃(lo:xb) (out:List Wr) (e:Ex) (x:V),vs=[.ref lo,x]/\OutA K H lo out/\out.length<1000000/\IsD K H (dE e) x /\
 ∀H',Xc [lo] H H'->OutA K H' lo (ltv out e)->(∀Da zs,H Da=some (.lst zs)->Da≠lo->OutD K Da H lo out->OutD K Da H' lo (ltv out e))->Q (.str (nx out)) H'
def Wr.tag:Wr->Str
 |.draw _ _ => "draw" |.lett _ _ => "let" |.seen _ => "seen" |.ifr _ _ _ => "if" |.rnd _ _ => "rounds" |.call _ _ _ => "call"
def lC(r:Wr):∃l,dW r=.tup (.str r.tag::l):=by cases r<;>exact⟨_,rfl⟩
def vD(r:Wr):(!decide (r.tag = "seen"))=r.giv:=by
 cases r with
 |draw x os=>show(!decide (("draw" : Str) = "seen"))=true;decide
 |lett x e=>show(!decide (("let" : Str) = "seen"))=true;decide
 |seen e=>show(!decide (("seen" : Str) = "seen"))=false;decide
 |ifr e a b=>show(!decide (("if" : Str) = "seen"))=true;decide
 |rnd k a=>show(!decide (("rounds" : Str) = "seen"))=true;decide
 |call x f es=>show(!decide (("call" : Str) = "seen"))=true;decide
theorem lD:∀out:List Wr,((out.map λr=>if r.giv then some () else none).filterMap id).length=gvn out
 | []=>rfl
 |r::out=>by
  have:=lD out;unfold gvn at this ⊢;rw[jg,List.filter_cons]
  cases e:r.giv with
  |true=>rw[ke rfl,ke rfl];show _+1=_+1;rw[<- this]
  |false=>rw[k9 'f',k9 'f'];exact this
def vE{ix:qC}{wi:TI}{tt:TT}{te:TE}{r1 r2:List V->Hp->VK->Prop}{op:V->V->Hp->VK->Prop}{v:V}{g:TG}{u:TS}{D:Ends}(h:wi σ H (XJ ix tt te σ λx H1=>r2 [x] H1 λy H2=>r1 [y] H2 λz H3=>op v z H3 λx H4=>g x σ H4 (u D))):Qf (Qr (tOp op (tC v) (tCB r1 (J8 (tCB r2 (J8 (JL ix wi tt te) Ja)) Ja))) g) u D σ H:=h
def vF(h:n<1000000):((n:Nat):Int).natAbs.log2<1920:=by
 rw[Int.natAbs_natCast]
 by_cases z:n=0
 . rw[z];decide
 . exact jX ((Nat.log2_lt z).mpr (show n<2 ^ 20 by omega)) 'f'
def OutA.add(hy:H lo=some (.lst ys))(d:IsDs K (hid [lo] H) (dWs out) ys)(dr:IsD K (hid [lo] H) (dW r) y):OutA K (upd H lo (.lst (ys++[y]))) lo (out++[r]):=by
 refine⟨_,xm,?_⟩;rw[Qz (jA.mpr rfl),QL];exact d.append ⟨y,[],rfl,dr,rfl⟩
def vG(h:n<1000000):("v" : Str).length+(((toString ((n:Nat):Int):String):Str)).length<=sizeLine:=by
 have:=iV (n:Nat) 'd' 'd';have big:(1000:Nat)<sizeLine:=by decide
 have e:("v" : Str).length=1:=rfl;omega
def vH:Same (hid [Da] (hid [lo] H)) (hid [lo,Da] H):=λb u e=>by
 have n1:b∉[Da]:=λz=>by unfold hid at e;rw[ke z]at e;cases e
 have n2:b∉[lo]:=λz=>by unfold hid at e;rw[k9 n1,ke z]at e;cases e
 unfold hid at e ⊢;rw[k9 n1,k9 n2]at e;rw[k9 (λz=>by rcases jB.mp z with z|z;exact n2 (jA.mpr z);exact n1 z)];exact e
def vI(B:Bl mg)(F:Fn K mg "_law_value" YK ["_law_out", "_law_e"]):Def P w K mg base "_law_value" 1 ["_law_out", "_law_e"] (XY K):=by
 refine F.ok iB (λvs H Q E h=>?_) (λf qF A outer s H vs Q E hr h=>?_)
 . obtain⟨lo,out,e,x,rfl,_⟩:=h;rfl
 obtain⟨lo,out,e,x,rfl,oa,len,dx,q⟩:=h
 refine⟨_,(@xu _ _ _ _ _ (xM (i:=2) iB.nd rfl 'b' (xx (J7.or (QT.or (bg.or (bA K rfl)))) xt (JY ox rfl B.str PyProof.Rows.boot_str (xC (J5 (JF K rfl) rfl B.len PySem.boot_len (xC (Qa (CompOk.of (x := "_law_row") (M:=[]) (ix:=[]) rfl rfl (by decide +kernel) (by decide +kernel) rfl trivial 'g' trivial) rfl (by decide +kernel) (JK (pv 0)) (λ_ _ _ _ _=>(Yb (xK Y8 (xD (xE K rfl) (pv 0) xi (λ_ _=>rfl)) xt (xN _)))) (λ_ _ _ _ _=>(pv 0))) xk)) xk))))
  (@xu _ _ _ _ _ (J1 (JD PySem.F.plainAttrs_list PySem.F.slot_list_append PySem.F.type_list_append Jy (pv 0) (xC (JO (xC xt (xC (pv 2) (xC (pv 1) xk)))) xk)))
  (@xw _ _ _ (xP (pv 2))))),?_⟩
 obtain⟨ys,hy,dy⟩:=oa;have gl:=cI out;have big:(2000000:Nat)<sizeLine:=by decide
 have yl:=dy.length;rw[Jj,jC]at yl;have qy:∀{H':Hp},Same H H'->SqL K H' lo ys:=λs => .of (s _ _ hy);refine vE ?_;refine⟨_,rfl,lo,rfl,⟨_,.of hy⟩,?_⟩;refine Yp (α:=Unit) (λ_ _ _=>True) (λ_ _=>trivial) out.length (λi=>ys.getD i .non) (out.map λr=>if r.giv then some () else none) (jC _) 'd' (λH' sm=>⟨_,qy sm,by omega⟩) (λi H' hi sm=>?_) (λi o H' R hi ho sm hR=>?_) (λi a Da H' R hi ha sm nD oD hR=>⟨_,rfl,hR _ _ (Same.refl _) trivial⟩) λp H1 zs s1 n1 e1 pr1=>?_
 . have hx:ys[i]? = some (ys.getD i .non):=by rw[jN,jD 'd'];rfl
   exact⟨⟨_,_,qy sm,hx⟩,λx qH h=>⟨by have:=h.2 _ (qy sm);rw[hx]at this;exact(Option.some.inj this).symm,h.1⟩⟩
 . have hx:ys[i]? = some (ys.getD i .non):=by rw[jN,jD 'd'];rfl
   rw[Jj]at dy;obtain⟨y,ey,d1⟩:=dy.get (i:=i) (d:=dW out[i]) (by rw[jJ,jD hi];rfl);rw[hx]at ey;obtain rfl:=Option.some.inj ey;obtain⟨l,el⟩:=lC out[i];rw[el]at d1;obtain⟨tp,zz,et,qp,_,_,rfl,rfl,_⟩:=d1;rw[jJ,jD hi]at ho;obtain rfl:(if out[i].giv then some () else none)=o:=Option.some.inj ho;rw[et];refine⟨_,rfl,.inr (.inl ⟨tp,_,0,.str out[i].tag,rfl,rfl,(((xJ _ _).trans sm).tupq qp),J0,_,_,rfl,rfl,_,rfl,?_⟩)⟩;have:=hR H' (Same.refl _);rw[vD]
   cases e:out[i].giv with
   |true=>rw[e]at this;exact this
   |false=>rw[e]at this;exact this
 . have zl:zs.length=gvn out:=by rw[<- pr1.length,lD]
   refine⟨_,_,rfl,JZ (.of e1),_,rfl,by rw[zl];exact vF 'd',.inr (.inl ⟨_,_,rfl,rfl,by rw[zl];exact vG 'd',?_⟩)⟩;rw[zl];dsimp only[xF,List.set];refine⟨_,rfl,.inl ⟨rfl,_,qy s1⟩,_,rfl,_,rfl,by show 3<=sizeLine;decide,λpt qM=>?_⟩;have u2:=xy qM (.tup [.str "let",.str (nx out),x]);have u:=s1.trans u2;have nr:pt∉[lo]:=λz=>by rw[jA.mp z,s1 _ _ hy]at qM;cases qM
   have dxh:=Xm hy (JR e) dx;have d2:IsD K (hid [lo] (upd H1 pt (.tup [.str "let",.str (nx out),x]))) (dW (.lett (nx out) e)) (.ref pt):=⟨pt,_,rfl,.of (xQ nr xm),_,_,rfl,rfl,_,_,rfl,rfl,_,_,rfl,dxh.same (J3 u),rfl⟩
   exact⟨lo,ys,.ref pt,rfl,rfl,u _ _ hy,by omega,_,rfl,q _ ((Xc.of u).trans (Jl (jA.mpr rfl))) (OutA.add (u _ _ hy) (dy.same (J3 u)) d2) λDa zs' hD ne ⟨ys',hy',dy'⟩=>by
    obtain rfl:ys=ys':=by rw[hy]at hy';cases hy';rfl
    refine⟨_,xm,?_⟩;have npD:pt∉[lo,Da]:=λz=>by rcases jB.mp z with z|z;exact nr (jA.mpr z);(rw[jA.mp z,s1 _ _ hD]at qM;cases qM)
    have dx2:IsD K (hid [lo,Da] H) (dE e) x:=(Xm (xQ (λz=>ne (jA.mp z)) hD) (JR e) dxh).same vH;rw[Qz 'j',show dWs (ltv out e)=_ from QL _ _];exact(dy'.same (J3 u)).append ⟨.ref pt,[],rfl,⟨pt,_,rfl,.of (xQ npD xm),_,_,rfl,rfl,_,_,rfl,rfl,_,_,rfl,dx2.same (J3 u),rfl⟩,rfl⟩⟩
def vJ(h:wi σ H (JQ ix te σ λx H1=>r [x] H1 Q)):tCB r (J8 (JL ix wi Q9 te) Ja) σ H Q:=h
theorem vK(d:Nat)(B:Bl mg)(F:Fn K mg "_law_renamed" Zr ["_law_e", "_law_book"])(JB:Def P w K mg base "_law_renamed" (d+2) ["_law_e", "_law_book"] (JT K d)):Def P w K mg base "_law_renamed" (d+3) ["_law_e", "_law_book"] (JT K (d+1)):=by
 have hj_l_renamed:d+2<=d+2:=jG _;have hjk:d+2<=d+2:=jG _;refine F.ok iA (λvs H Q E h=>?_) (λf qF A outer s H vs Q E hr h=>?_)
 . obtain⟨e,x,pb,kvs,r,rfl,_⟩:=h;rfl
 obtain⟨e,x,pb,kvs,r,rfl,ho,hv,hh,dx,hB,q⟩:=h
 refine⟨_,(@xu _ _ _ _ _ (xO (xK (Ji.or (Jb.or (XE.or (XI K rfl hr.units)))) (xD (xE K rfl) (pv 0) xi (λ_ _=>rfl)) xt (xN _)) (@xw _ _ _ (xP (pv 0))) xX)
  (@xu _ _ _ _ _ (xO (xK (Ji.or (Jb.or (XE.or (XI K rfl hr.units)))) (xD (xE K rfl) (pv 0) xi (λ_ _=>rfl)) xt (xN _)) (@xw _ _ _ (xP (JO (xC xt (xC (xL (xG hr) (pv 1) (xD (xE K rfl) (pv 0) xi (λ_ _=>rfl)) (λ_ _=>rfl)) xk))))) xX)
  (@xw _ _ _ (xP (xx (J7.or (QT.or (bg.or (bA K rfl)))) (JO (xC (xD (xE K rfl) (pv 0) xi (λ_ _=>rfl)) xk)) (JY (bB K rfl) rfl B.tuple PyProof.Rows.boot_tuple (xC (Qa (CompOk.of (x := "_law_one_here") (M:=["_law_book"]) (ix:=[1]) rfl rfl (by decide +kernel) (by decide +kernel) rfl ⟨rfl,trivial⟩ 'g' ⟨⟨rfl,rfl,rfl,rfl⟩,trivial⟩) rfl (by decide +kernel) (aW (XC ((XG K rfl).or (XH K rfl)) (pv 0) (QV xi) Y2)) (λ_ _ _ _ _=>JP) (λ_ _ _ _ _=>(xI JB hr rfl (xC (pv 0) (xC (pv 1) xk)) (hjk:=hjk)))) xk))))))),?_⟩
 rcases Ex.node2 _ e ho hv with ⟨n,rfl⟩|⟨n,rfl⟩|⟨sg,cs,rfl,hl,hc⟩
 . obtain⟨t,xs,rfl,qt,_,_,rfl,rfl,_,_,rfl,rfl,rfl⟩:=id dx;walk_at "rd";exact q t H (Same.refl _) dx
 . obtain⟨t,xs,rfl,qt,_,_,rfl,rfl,_,_,rfl,rfl,rfl⟩:=dx;walk_at "rd";have e:some (V.str (r n))=valV kvs (.inr n):=Eq.symm hv;refine⟨pb,_,rfl,.inl ⟨kvs,.inr n,.inl hB,rfl,e⟩,?_⟩;refine⟨by show 2<=sizeLine;decide,λp hp=>q p _ (xy hp _) ?_⟩;exact⟨p,_,rfl,.of xm,_,_,rfl,rfl,_,_,rfl,rfl,rfl⟩
 . have md:=(YW hl (λ_=>0)).1;rw[md]at dx;obtain⟨t,xs,rfl,qt,y,ys,rfl,ey,dys⟩:=dx;obtain rfl:y = .str sg.str:=ey;have at0:atI (.str sg.str :: ys) 0=some (.str sg.str):=Jx (j:=0) rfl;have yl:=dys.length;rw[jC]at yl;have lm:cs.length<=3:=by rw[hl];exact(cf sg).2
   refine⟨_,rfl,.inr (.inl ⟨t,_,_,_,rfl,rfl,qt,at0,.inr (.inl ⟨_,_,rfl,rfl,_,rfl,xU (λc=>absurd c (iI sg)) λ_=>nxt ?_⟩)⟩)⟩;refine⟨_,rfl,.inr (.inl ⟨t,_,_,_,rfl,rfl,qt,at0,.inr (.inl ⟨_,_,rfl,rfl,_,rfl,xU (λc=>absurd c (iJ sg)) λ_=>nxt ?_⟩)⟩)⟩;refine⟨_,rfl,.inr (.inl ⟨t,_,_,_,rfl,rfl,qt,at0,(by show 1<=sizeLine;decide),λp0 hp0=>?_⟩)⟩;dsimp only;refine vJ ?_;have s0:Same H (upd H p0 (.tup [.str sg.str])):=xy hp0 _;have t0:(upd H p0 (.tup [.str sg.str])) p0=some (.tup [.str sg.str]):=xm;obtain⟨H0,eH0⟩:∃H0,H0=upd H p0 (.tup [.str sg.str]):=⟨_,rfl⟩;rw[<- eH0]at s0 t0;rw[<- eH0]
   have one:¬(HT.sIx (V.str sg.str::ys).length 0 (some 1)=0/\HT.sIx (V.str sg.str::ys).length (V.str sg.str::ys).length none=(V.str sg.str::ys).length):=λh=>by
    have:=h.1;simp[HT.sIx]at this
   refine⟨_,rfl,_,rfl,.inr ⟨t,_,rfl,s0.tupq qt,one,λp1 hp1=>⟨p1,rfl,⟨_,.of xm⟩,?_⟩⟩⟩;have ecut:Jw (V.str sg.str::ys) (some 1) none=ys:=bz _ 1;rw[ecut];have s1:Same H0 (upd H0 p1 (.tup ys)):=xy hp1 _
   refine gn (K:=K) (xs:=ys) ((cs.map (Ex.ren r)).map dE) (.of xm) (by simp[yl]) (by rw[yl];exact Nat.le_of_lt (Y3 'd')) (Ye λd hd=>by
    obtain⟨c,_,rfl⟩:=jn.mp hd;exact JR c) (λi x z H' R hx hd sm hR=>?_) (λp2 H2 zs sm2 e2 dz=>?_)
   . have hi:i < cs.length:=by have:=(jV.mp hx).1;omega
     obtain⟨y,ey,dy⟩:=dys.get (i:=i) (d:=dE cs[i]) (by rw[jJ,jD hi];rfl);obtain rfl:x=y:=by rw[hx]at ey;exact Option.some.inj ey
     rw[jJ,jJ,jD hi]at hd;obtain rfl:z=dE (cs[i].ren r):=(Option.some.inj hd).symm;obtain⟨c1,c2,c3⟩:=hc _ (jp hi);have sH:=(s0.trans s1).trans sm;exact⟨_,rfl,_,rfl,cs[i],x,pb,kvs,r,rfl,c1,c2,by omega,dy.same sH,sH _ _ hB,λp qH sm'' d''=>hR _ _ sm'' d''⟩
   . have zl:=dz.length;rw[jC,jC]at zl;refine⟨p2,_,rfl,.inl ⟨.of e2,λp4 hp4=>?_⟩⟩;have s4:=xy hp4 (.tup zs);refine .inr (.inr (.inr ⟨p0,p4,_,_,rfl,rfl,.of (((s1.trans sm2).trans s4) _ _ t0),.of xm,(λz=>nomatch z),Nat.le_of_lt (Y3 (by show 1 + zs.length<=1000;omega)),λz=>?_,λ_ p5 hp5=>?_⟩))
     . have:=(cf sg).1;rw[z,List.length_nil]at zl;omega
     have s5:=xy hp5 (.tup ([.str sg.str]++zs));refine q p5 _ ((((s0.trans s1).trans sm2).trans s4).trans s5) ?_;rw[iK hl,(YW (s:=sg) (cs:=cs.map (Ex.ren r)) (by rw[jC];exact hl) (λ_=>0)).1];exact⟨p5,_,rfl,.of xm,_,_,rfl,rfl,dz.same (s4.trans s5)⟩
theorem lE(B:Bl mg)(F:Fn K mg "_law_renamed" Zr ["_law_e", "_law_book"]):∀d,Def P w K mg base "_law_renamed" (d+2) ["_law_e", "_law_book"] (JT K d)
 |0=>by
  refine F.ok iA (λvs H Q E h=>?_) (λf qF A outer s H vs Q E hr h=>?_)
  . obtain⟨e,x,pb,kvs,r,rfl,_⟩:=h;rfl
  . obtain⟨e,x,pb,kvs,r,rfl,_,_,hh,_⟩:=h;exact absurd hh (kH _)
 |d+1=>vK d B F (lE B F d)
def gdL:Option Str->V
 |none => .str ""
 |some g => .str g
def ap(K:qu):Sp:=λvs H Q _=>∃(g:Option Str) (e:Ex) (p:xb),vs=[gdL g,.ref p]/\(∀s,g=some s->s ≠ "")/\IsD K H (dE e) (.ref p)/\∀p' H',Same H H'->IsD K H' (dE (under g e)) (.ref p')->Q (.ref p') H'
def vL(B:Bl mg)(F:Fn K mg "_law_under" YL ["_law_guard", "_law_e"]):Def P w K mg base "_law_under" 1 ["_law_guard", "_law_e"] (ap K):=by
 refine F.ok uS (λvs H Q E h=>?_) (λf qF A outer s H vs Q E hr h=>?_)
 . obtain⟨g,e,p,rfl,_⟩:=h;rfl
 obtain⟨g,e,p,rfl,ng,dp,q⟩:=h
 refine⟨_,(@xu _ _ _ _ _ (xO (xK Jb (pv 0) xt (xN _)) (@xw _ _ _ (xP (pv 1))) xX)
  (@xw _ _ _ (xP (@Jq _ _ _ _ _ _ _ _ _ xt (@xZ _ _ _ _ _ _ _ xt (pv 0) rfl rfl) (pv 1) rfl rfl rfl)))),?_⟩
 cases g with
 |none=>exact⟨_,rfl,_,_,rfl,rfl,_,rfl,QN rfl ⟨_,rfl,q p H (Same.refl _) dp⟩⟩
 |some g =>
  refine⟨_,rfl,_,_,rfl,rfl,_,rfl,xU (λc=>absurd c (ng g rfl)) (λ_=>nxt ?_)⟩;refine⟨_,rfl,by show 2<=sizeLine;decide,λp1 n1=>⟨_,rfl,by show 3<=sizeLine;decide,λp2 n2=>?_⟩⟩;have u1:=xy n1 (.tup [.str "name",.str g]);have u2:=xy n2 (.tup [.str "and",.ref p1,.ref p]);exact q p2 _ (u1.trans u2) ⟨p2,_,rfl,.of xm,_,_,rfl,rfl,_,_,rfl,⟨p1,_,rfl,.of (u2 _ _ xm),_,_,rfl,rfl,_,_,rfl,rfl,rfl⟩,_,_,rfl,dp.same (u1.trans u2),rfl⟩
def lF(n:Nat)(xs:Nat->V)(hz:n<=sizeLine)(I:Nat->xb->List V->Hp->Prop)
 (J2:∀Da,H Da=none->I 0 Da [] (upd H Da (.lst []))) (qP:∀i Da ys H',I i Da ys H'->ys.length=i)
 (hstop:∀Da ys H',I n Da ys H'->J.stop n H') (hgo:∀i Da ys H',i<n->I i Da ys H'->J.go i H'/\∀x qH,J.yld i H' x qH->x=xs i/\qH=H')
 (step:∀(i:Nat) (Da:xb) (ys:List V) (H':Hp) (R:VK),i<n->I i Da ys H'->(∀y qH,qH Da=some (.lst ys)->I (i+1) Da (ys++[y]) (upd qH Da (.lst (ys++[y])))->R y qH)->te (some (xs i)::cap ix σ) H' R)
 (qJ:∀Da ys H',I n Da ys H'->Q (.ref Da) H'):JQ ix te σ Q J H:=by
 intro Da hD;refine⟨λi m H'=>m=n - i/\i<=n/\∃ys,I i Da ys H',⟨n,by simp,jS _,[],J2 Da hD⟩,?_⟩;rintro i m H' ⟨rfl,hi,ys,hI⟩
 by_cases qS:i<n
 . obtain⟨g,y⟩:=hgo i Da ys H' qS hI;refine .inr ⟨g,λx qH hy=>?_⟩;obtain⟨rfl,rfl⟩:=y x qH hy;show te (some (xs i)::cap ix σ) qH _;refine step i Da ys qH _ qS hI λy H3 e3 h3=>?_;have:=qP i Da ys _ hI;exact⟨ys,e3,by omega,n - (i+1),by omega,rfl,qS,_,h3⟩
 . have e:i=n:=by omega
   subst e;exact .inl ⟨hstop Da ys H' hI,qJ Da ys H' hI⟩
def XZ(K:qu)(d:Nat):Sp:=λvs H Q _=>∃(pool Kn:qB) (lo:xb) (ps:List Pt) (s:LB) (rows:List Wr) (x:V) (bd pa:xb) (kvs:List (Key×V)) (g:Option Str),vs=[.ref lo,x,.ref bd,gdL g,.ref pa]/\OutA K H lo s.out/\IsD K (hid [lo] H) (.lst (dWs rows)) x/\H bd=some (.dK kvs)/\BkD pool kvs s.b/\IsD K (hid [lo] H) (.lst (ps.map dPt)) (.ref pa)/\(∀s,g=some s->s ≠ "")/\okD pool ps d Kn rows/\Dm s.b Kn/\(∀n∈Kn,n∈pool)/\pool.length<=10/\ps.length<=100/\s.out.length+csD pool ps d rows<900000 /\
 ∀(nb:xb) (kvs':List (Key×V)) (H':Hp),Xc [lo] H H'->H nb=none->OutA K H' lo (xS pool ps d rows g s).out->H' nb=some (.dK kvs')->BkD pool kvs' (xS pool ps d rows g s).b->Q (.ref nb) H'
def lG(K:qu)(d:Nat):Sp:=λvs H Q _=>∃(pool Kn:qB) (lo:xb) (ps:List Pt) (s:LB) (e:Ex) (a c:List Wr) (x:V) (bd pa:xb) (kvs:List (Key×V)) (g:Option Str),vs=[.ref lo,x,.ref bd,gdL g,.ref pa]/\OutA K H lo s.out/\IsD K (hid [lo] H) (dW (.ifr e a c)) x/\H bd=some (.dK kvs)/\BkD pool kvs s.b/\IsD K (hid [lo] H) (.lst (ps.map dPt)) (.ref pa)/\(∀s,g=some s->s ≠ "")/\ok1 pool ps (okD pool ps d) Kn (.ifr e a c)/\Dm s.b Kn/\(∀n∈Kn,n∈pool)/\pool.length<=10/\ps.length<=100/\s.out.length+cs1 pool ps (csD pool ps d) (.ifr e a c)<900000 /\
 ∀(nb:xb) (kvs':List (Key×V)) (H':Hp),Xc [lo] H H'->H nb=none->OutA K H' lo (JG pool ps (xS pool ps d) g (.ifr e a c) s).out->H' nb=some (.dK kvs')->BkD pool kvs' (JG pool ps (xS pool ps d) g (.ifr e a c) s).b->Q (.ref nb) H'
def QB(x:Xc [lo] H H'):Same (hid [lo] H) (hid [lo] H'):=λb u e=>by
 have n:b∉[lo]:=λz=>by unfold hid at e;rw[ke z]at e;cases e
 unfold hid at e ⊢;rw[k9 n]at e ⊢;exact x b u n e
theorem OutA.same(h:OutA K H lo out)(s:Same H H'):OutA K H' lo out:=by
 obtain⟨ys,hy,dy⟩:=h;exact⟨ys,s _ _ hy,dy.same (J3 s)⟩
def cS(n:Nat):vn n ≠ "" := λz=>by
 have e:(vn n).length=("v" : Str).length+((toString (n:Int):String):Str).length:=Array.size_append ..;rw[z]at e;have e0:("" : Str).length=0:=rfl;have e1:("v" : Str).length=1:=rfl;omega
def vM(g:Option Str)(n:Nat)(o:List Wr):(if1 g (vn n) o).2 ≠ "" := by
 cases g with
 |none=>exact cS n
 |some gd=>exact cS _
def vN{row bd pa:V}{k:Str}{g:Option Str}{out:List Wr}{T:TS}{D:Ends}(ng:∀s,g=some s->s ≠ "")(oa:OutA K H lo out)(len:out.length<900000)
 (h:∀H',Xc [lo] H H'->OutA K H' lo (if1 g k out).1->T D [some (.ref lo),some row,some bd,some (gdL g),some pa,some (.str k),some (.str (if1 g k out).2),none,none,none,none,none] H') :
 Qf (QR (Xy (tOp (λx y H Q=>∃i j,x=V.str i/\y=V.str j/\Q (V.bl !decide (i=j)) H) (Qo 3) (tC (V.str "")))) (Qr (Zb (XY K) [] E0 (J8 (Qo 0) (J8 (Zb (ap K) [] E0 (J8 (Qo 3) (J8 (Za (J8 (tC (V.str "name")) (J8 (Qo 5) Ja))) Ja))) Ja))) (xF 6)) aU) T D [some (.ref lo),some row,some bd,some (gdL g),some pa,some (.str k),some (.str k),none,none,none,none,none] H:=by
 cases g with
 |none =>
  refine⟨_,rfl,_,_,rfl,rfl,_,rfl,?_⟩;rw[kf rfl];exact h H (.of (Same.refl _)) oa
 |some gd =>
  refine⟨_,rfl,_,_,rfl,rfl,_,rfl,?_⟩;rw[kg (ng gd rfl)];refine⟨_,rfl,_,rfl,_,rfl,by show 2<=sizeLine;decide,λp1 n1=>?_⟩;have u1:=xy n1 (.tup [.str "name",.str k]);refine⟨some gd,.nam k,p1,rfl,ng,⟨p1,_,rfl,.of xm,_,_,rfl,rfl,_,_,rfl,rfl,rfl⟩,λp2 H2 s2 d2=>?_⟩;exact⟨lo,out,_,.ref p2,rfl,(oa.same u1).same s2,by omega,d2,λH3 x3 oa3 _=>h H3 ((Xc.of (u1.trans s2)).trans x3) oa3⟩
def OutA.dex(h:OutA K H lo out)(d:DEx [lo] H H')(e:H' lo=H lo):OutA K H' lo out:=by
 obtain⟨ys,hy,dy⟩:=h;exact⟨ys,by rw[e];exact hy,X5 d dy⟩
def OutA.ne(h:OutA K H lo out)(e:H a=some u)(n:∀xs,u ≠ .lst xs):a≠lo:=λz=>by
 obtain⟨ys,hy,_⟩:=h;rw[z,hy]at e
 cases e
 exact n _ rfl
def OutA.dct(h:OutA K H lo out)(e:H a=some (.dK kvs)):OutA K (upd H a u) lo out :=
 h.dex (DEx.of (A:=[a]) (Jl (jA.mpr rfl)) λb hb _ v ev=>by rw[jA.mp hb,e]at ev;cases ev;exact ZD) (xz (h.ne e λ_ z=>by cases z).symm)
def OutA.free(h:OutA K H' lo out)(x:Xc [lo] H H')(n:H' b=none):H b=none:=by
 cases e:H b with
 |none=>rfl
 |some u =>
  by_cases c:b=lo
  . obtain⟨ys,hy,_⟩:=h;rw[c,hy]at n;cases n
  . rw[x b u (λz=>c (jA.mp z)) e]at n;cases n
theorem lH:∀(l:qB) (s:LB),(l.foldl (pk1 k b1 b2) s).out.length<=s.out.length+l.length
 | [],_=>jG _
 |n::l,s=>by
  have:=lH (b1:=b1) (b2:=b2) (k:=k) l (pk1 k b1 b2 s n)
  have e:(pk1 k b1 b2 s n).out.length<=s.out.length+1:=by
   unfold pk1;split
   . exact j7 _
   . exact Nat.le_of_eq (X3 _ _)
  rw[kC,jU];omega
def vO{r:List V->Hp->VK->Prop}{ix:qC}{wi:TI}{tt:TT}{te:TE}{g:TG}{tb u:TS}{D:Ends}{ti:TE->TI}(h:wi σ H (XJ ix tt te σ λx H1=>r [x] H1 λv H2=>Z6 (ti λ_ H Q=>Q v H) g tb { D with nx:=u D } σ H2))(e:∀(t:TE) (R:It->Hp->Prop),ti t σ H R=t σ H λv H2=>ti (λ_ H Q=>Q v H) σ H2 R):Qf (Z6 (ti (tCB r (J8 (JL ix wi tt te) Ja))) g tb) u D σ H:=by
 unfold Qf Z6;rw[e];exact h
def vP(b:Bo)(x u v:Str):(b.put x u).put x v=b.put x v:=funext λn=>by
 unfold Bo.put;split<;>rfl
theorem vQ(h12:12<=j)(B:Bl mg)(JB:Def P w K mg base "_law_renamed" 12 ["_law_e", "_law_book"] (JT K 10))(Jt:Def P w K mg base "_law_value" 1 ["_law_out", "_law_e"] (XY K))(Xn:Def P w K mg base "_law_under" 1 ["_law_guard", "_law_e"] (ap K))(QC:Def P w K mg base "_law_laid" j ["_law_out", "_law_rows_here", "_law_before", "_law_guard", "_law_parts"] (XZ K d))
 (F:Fn K mg "_law_choice" Zs ["_law_out", "_law_row", "_law_book", "_law_guard", "_law_parts"]):Def P w K mg base "_law_choice" (j+1) ["_law_out", "_law_row", "_law_book", "_law_guard", "_law_parts"] (lG K d):=by
 have hj_l_renamed:12<=j:=h12;have qG:1<=j:=by omega
 have hj_l_under:1<=j:=by omega
 have hj_l_laid:j<=j:=jG _;refine F.ok Qx (λvs H Q E h=>?_) (λf qF A outer s H vs Q E hr h=>?_)
 . obtain⟨pool,Kn,lo,ps,s,e,a,c,x,bd,pa,kvs,g,rfl,_⟩:=h;rfl
 obtain⟨pool,Kn,lo,ps,s,e,a,c,x,bd,pa,kvs,g,rfl,oa,dx,hb,bkd,dp,ng,⟨eo,oka,okc⟩,dm,sub,qU,p100,len,q⟩:=h
 refine⟨_,(@xu _ _ _ _ _ (xM (i:=5) Qx.nd rfl 'b' (xI Jt hr rfl (@xj _ _ _ _ _ (pv 0) (@xj _ _ _ _ _ (xI JB hr rfl (@xj _ _ _ _ _ (xD (xE K rfl) (pv 1) xi (λ_ _=>rfl)) (@xj _ _ _ _ _ (pv 2) xk rfl) rfl) (hjk:=hj_l_renamed)) xk rfl) rfl) (hjk:=qG)))
  (@xu _ _ _ _ _ (xM (i:=6) Qx.nd rfl 'b' (pv 5))
  (@xu _ _ _ _ _ (xO (xK Y8 (pv 3) xt (xN _)) (@xw _ _ _ (xM (i:=6) Qx.nd rfl 'b' (xI Jt hr rfl (@xj _ _ _ _ _ (pv 0) (@xj _ _ _ _ _ (xI Xn hr rfl (@xj _ _ _ _ _ (pv 3) (@xj _ _ _ _ _ (@xZ _ _ _ _ _ _ _ xt (pv 5) rfl rfl) xk rfl) rfl) (hjk:=hj_l_under)) xk rfl) rfl) (hjk:=qG)))) xX)
  (@xu _ _ _ _ _ (xM (i:=7) Qx.nd rfl 'b' (xI QC hr rfl (@xj _ _ _ _ _ (pv 0) (@xj _ _ _ _ _ (xD (xE K rfl) (pv 1) xi (λ_ _=>rfl)) (@xj _ _ _ _ _ (pv 2) (@xj _ _ _ _ _ (pv 6) (@xj _ _ _ _ _ (pv 4) xk rfl) rfl) rfl) rfl) rfl) (hjk:=hj_l_laid)))
  (@xu _ _ _ _ _ (xM (i:=6) Qx.nd rfl 'b' (xI Jt hr rfl (@xj _ _ _ _ _ (pv 0) (@xj _ _ _ _ _ (xI Xn hr rfl (@xj _ _ _ _ _ (pv 3) (@xj _ _ _ _ _ (@xZ _ _ _ _ _ _ _ xt (@xZ _ _ _ _ _ _ _ xt (pv 5) rfl rfl) rfl rfl) xk rfl) rfl) (hjk:=hj_l_under)) xk rfl) rfl) (hjk:=qG)))
  (@xu _ _ _ _ _ (xM (i:=8) Qx.nd rfl 'b' (xI QC hr rfl (@xj _ _ _ _ _ (pv 0) (@xj _ _ _ _ _ (xD (xE K rfl) (pv 1) xi (λ_ _=>rfl)) (@xj _ _ _ _ _ (pv 2) (@xj _ _ _ _ _ (pv 6) (@xj _ _ _ _ _ (pv 4) xk rfl) rfl) rfl) rfl) rfl) (hjk:=hj_l_laid)))
  (@xu _ _ _ _ _ (@Q0 _ 9 _ _ _ _ _ Qx.nd rfl 'b' Zh rfl (by first|exact .inl rfl|exact .inr rfl))
  (@xu _ _ _ _ _ (Q6 PassesOwn.never rfl (JK (J5 (sy K rfl) rfl B.sorted PyProof.Rows.boot_sorted (@xj _ _ _ _ _ (Qa (CompOk.of (x := "_law_name") (M:=["_law_other"]) (ix:=[8]) rfl rfl (by decide +kernel) (by decide +kernel) rfl ⟨rfl,trivial⟩ 'g' ⟨⟨rfl,rfl,rfl,rfl⟩,trivial⟩) rfl (by decide +kernel) (ub (pv 7)) (λ_ _ _ _ _=>(Yb (xK (sn (xG hr)) (pv 0) (pv 1) 'g'))) (λ_ _ _ _ _=>(pv 0))) xk rfl))) (Ju (i:=10) Qx.nd rfl 'b') (@xu _ _ _ _ _ (Je (xG hr) (pv 9) (pv 10) (xL (xG hr) (pv 7) (pv 10) (λ_ _=>rfl)) rfl)
  (@xw _ _ _ (xO (xK Y8 (xL (xG hr) (pv 7) (pv 10) (λ_ _=>rfl)) (xL (xG hr) (pv 8) (pv 10) (λ_ _=>rfl)) (xN _)) (@xu _ _ _ _ _ (@Q0 _ 11 _ _ _ _ _ Qx.nd rfl 'b' (@Xg _ _ _ _ _ _ _ _ _ _ _ xt (@xZ _ _ _ _ _ _ _ xt (pv 5) rfl rfl) (@xZ _ _ _ _ _ _ _ xt (xL (xG hr) (pv 7) (pv 10) (λ_ _=>rfl)) rfl rfl) (@xZ _ _ _ _ _ _ _ xt (xL (xG hr) (pv 8) (pv 10) (λ_ _=>rfl)) rfl rfl) rfl rfl rfl rfl) rfl (by first|exact .inl rfl|exact .inr rfl))
  (@xw _ _ _ (Je (xG hr) (pv 9) (pv 10) (xI Jt hr rfl (@xj _ _ _ _ _ (pv 0) (@xj _ _ _ _ _ (pv 11) xk rfl) rfl) (hjk:=qG)) rfl))) xX))))
  (@xw _ _ _ (xP (pv 9))))))))))),?_⟩
 have len':s.out.length+(3+pool.length+csD pool ps d a+csD pool ps d c)<900000:=len;obtain⟨t,zz,rfl,qt,_,_,rfl,rfl,xe,_,rfl,de,xa,_,rfl,da,xc,_,rfl,dc,rfl⟩:=dx;have qK:SqT K H t [.str "if",xe,xa,xc]:=(xJ _ _).tupq qt;refine⟨_,rfl,_,rfl,.inr (.inl ⟨t,_,1,xe,rfl,rfl,qK,J9,_,rfl,e,xe,bd,kvs,s.b.at,rfl,eo.1,Qm bkd dm eo,eo.2.1,de.same (xJ _ _),hb,λpe H1 s1 d1=>?_⟩)⟩;refine⟨lo,s.out,e.ren s.b.at,.ref pe,rfl,oa.same s1,by omega,d1,λH2 x2 oa2 _=>?_⟩;have x02:=(Xc.of (A:=[lo]) s1).trans x2;refine⟨_,rfl,?_⟩;dsimp only[xF,List.set,L2.J2,Ja,jR];have ll:=X3 s.out (e.ren s.b.at);refine vN ng oa2 'd' λH3 x3 oa3=>?_;have x03:=x02.trans x3;have z2:(2:Nat)<=sizeLine:=by decide
 have nbl:bd∉[lo]:=λz=>by obtain⟨ys,hy,_⟩:=oa;rw[jA.mp z,hy]at hb;cases hb
 have gi:=(cy g (nx s.out) (ltv s.out (e.ren s.b.at))).len;have ni:=vM g (gvn s.out) (ltv s.out (e.ren s.b.at));have ifF:=cA (Qc pool ps d) g (e:=e.ren s.b.at) oka okc dm sub (under g (.un (.nam (nx s.out))));obtain⟨i1,ei1⟩:∃i1,i1=if1 g (nx s.out) (ltv s.out (e.ren s.b.at)):=⟨_,rfl⟩;rw[<- ei1]at ifF gi oa3 ni ⊢;obtain⟨t1,et1⟩:∃t1,t1=xS pool ps d a (some i1.2) ⟨i1.1,s.b⟩:=⟨_,rfl⟩;rw[<- et1]at ifF;obtain⟨t2,et2⟩:∃t2,t2=xS pool ps d c (some (nx t1.out)) ⟨ltv t1.out (under g (.un (.nam (nx s.out)))),s.b⟩:=⟨_,rfl⟩;rw[<- et2]at ifF
 have ep:JG pool ps (xS pool ps d) g (.ifr e a c) s=Q2 pool (nx s.out) t1.b t2.b t2.out:=by
  show Q2 pool _ _ _ _=_;rw[et2,et1,ei1]
 rw[ep]at q;have lt1:=ifF.l1.1.gr.len;have lt2:=ifF.l2.1.gr.len;have ll1:=X3 t1.out (under g (.un (.nam (nx s.out))));dsimp only at lt1 lt2;have h3:=QB x03;refine⟨_,rfl,_,rfl,.inr (.inl ⟨t,_,2,xa,rfl,rfl,(xJ _ _).tupq (h3.tupq qt),JA,_,rfl,_,rfl,_,rfl,pool,Kn,lo,ps,⟨i1.1,s.b⟩,a,xa,bd,pa,kvs,some i1.2,rfl,oa3,da.same h3,x03 _ _ nbl hb,bkd,dp.same h3,λs' z=>by cases z;exact ni,oka,dm,sub,qU,p100,by show i1.1.length+_<_;omega,λn1 kv1 H4 x4 f1 oa4 hn1 bk1=>?_⟩)⟩;rw[<- et1]at oa4 bk1;have x04:=x03.trans x4;dsimp only[xF,List.set,Ja,jR];refine⟨_,rfl,_,rfl,_,rfl,z2,λp1 np1=>⟨z2,λp2 np2=>?_⟩⟩;have u1:=xy np1 (.tup [.str "name",.str (nx s.out)]);have u2:=xy np2 (.tup [.str "not",.ref p1]);refine⟨g,.un (.nam (nx s.out)),p2,rfl,ng,⟨p2,_,rfl,.of xm,_,_,rfl,rfl,_,_,rfl,⟨p1,_,rfl,.of (u2 _ _ xm),_,_,rfl,rfl,_,_,rfl,rfl,rfl⟩,rfl⟩,λp3 H5 s5 d5=>?_⟩;have u5:=(u1.trans u2).trans s5;refine⟨lo,t1.out,_,.ref p3,rfl,oa4.same u5,by omega,d5,λH6 x6 oa6 _=>?_⟩;have x46:=(Xc.of (A:=[lo]) u5).trans x6;have x06:=x04.trans x46;have h6:=QB x06;have nl1:n1∉[lo]:=λz=>by obtain⟨ys,hy,_⟩:=oa4;rw[jA.mp z,hy]at hn1;cases hn1
 dsimp only[xF,List.set];refine⟨_,rfl,_,rfl,.inr (.inl ⟨t,_,3,xc,rfl,rfl,(xJ _ _).tupq (h6.tupq qt),Xl,_,rfl,_,rfl,_,rfl,pool,Kn,lo,ps,⟨ltv t1.out (under g (.un (.nam (nx s.out)))),s.b⟩,c,xc,bd,pa,kvs,some (nx t1.out),rfl,oa6,dc.same h6,x06 _ _ nbl hb,bkd,dp.same h6,λs' z=>by cases z;exact cS _,okc,dm,sub,qU,p100,by show(ltv _ _).length+_<_;omega,λn2 kv2 H7 x7 f2 oa7 hn2 bk2=>?_⟩)⟩;rw[<- et2]at oa7 bk2;have x07:=x06.trans x7;have hn17:=x7 _ _ nl1 (x46 _ _ nl1 hn1)
 have f1':H n1=none:=by
  cases e:H n1 with
  |none=>rfl
  |some u =>
   have:=x03 _ _ nl1 e;rw[this]at f1;cases f1
 dsimp only[xF,List.set];refine λfo nfo=>?_;have uf:=xy nfo (.dK []);have ef:upd H7 fo (.dK []) fo=some (.dK []):=xm;have oaf:=oa7.same uf;have h1f:=uf _ _ hn17;have h2f:=uf _ _ hn2;have lI:=x07.trans (.of uf);have ffo:=oa7.free x07 nfo;have n1f:n1≠fo:=λz=>by rw[z,nfo]at hn17;cases hn17
 have n2f:n2≠fo:=λz=>by rw[z,nfo]at hn2;cases hn2
 have n12:n1≠n2:=λz=>by rw[<- z,x46 _ _ nl1 hn1]at f2;cases f2
 generalize upd H7 fo (.dK [])=H8 at uf ef oaf h1f h2f lI ⊢;obtain⟨nf,enf,ndf,sbf,mf⟩:=bk1.names;obtain⟨nt,ent,ndt,sbt,mt⟩:=bk2.names;have lf:=List.Nodup.length_le_of_subset ndf sbf;dsimp only[xF,List.set];refine vO (ti:=eN _) ?_ (λ_ _=>rfl);refine⟨_,rfl,n1,kv1,rfl,h1f,λo=>?_⟩;have xg:Xc [n1] H8 (upd H8 n1 (.frz o (.dK kv1))):=Jl (jA.mpr rfl);have eg:upd H8 n1 (.frz o (.dK kv1)) n1=some (.frz o (.dK kv1)):=xm;have oag:=oaf.dct (u := .frz o (.dK kv1)) h1f;generalize upd H8 n1 (.frz o (.dK kv1))=H9 at xg eg oag ⊢
 have ex:(kv1.map λkv=>kV kv.1)=nf.map V.str:=by
  have e:(kv1.map (·.1)).map kV=kv1.map λkv=>kV kv.1:=List.map_map ..;rw[<- e,enf,List.map_map];rfl
 have el:kv1.length=nf.length:=by have:=kN List.length ex;rwa [jC,jC]at this
 have go:=ut (o:=o) eg;rw[ex,el]at go;have h2g:=xg _ _ (λz=>n12 (jA.mp z).symm) h2f;have efg:=xg _ _ (λz=>n1f (jA.mp z).symm) ef;have big:(100:Nat)<sizeLine:=by decide
 refine Yp (λ(_:Hp) (x:Str) v=>v=V.str x) (λ_ h=>h) _ _ (nf.map λn=>if (t2.b n).isSome=true then some n else none) (jC _) 'd' go.1 go.2 (λi o' H' R hi ei sm h=>?_) (λi x Da H' R hi ei sm nD oD hR=>?_) (λlp HC ys sC nC eC prC=>?_)
 . rw[jJ]at ei;obtain⟨n,en,rfl⟩:=jT.mp ei;have xn:(nf.map V.str).getD i .non = .str n:=by rw[jN,jJ,en];rfl
   rw[xn];refine⟨_,rfl,_,rfl,n2,_,rfl,DGet.k (k := .inr n) (sm _ _ h2g),_,rfl,?_⟩;have:=h H' (Same.refl _);rw[bk2.val n,Option.isSome_map]
   by_cases c:(t2.b n).isSome=true
   . rw[ke c]at this;rw[c];exact this
   . rw[k9 c]at this;rw[eq_false_of_ne_true c];exact this
 . rw[jJ]at ei;obtain⟨n,en,e'⟩:=jT.mp ei;have xn:(nf.map V.str).getD i .non = .str n:=by rw[jN,jJ,en];rfl
   rw[xn];split at e'
   . cases e'
     exact⟨_,rfl,hR _ _ (Same.refl _) rfl⟩
   . cases e'
 have eys:ys=((nf.map λn=>if (t2.b n).isSome=true then some n else none).filterMap id).map V.str:=by
  clear eC;generalize(nf.map λn=>if (t2.b n).isSome=true then some n else none).filterMap id=fs at prC ⊢
  induction prC with
  |nil=>rfl
  |cons h _ ih=>rw[h,ih];rfl
 have efl:(nf.map λn=>if (t2.b n).isSome=true then some n else none).filterMap id=nf.filter λn=>(t2.b n).isSome:=by
  rw[List.filterMap_map];exact List.filterMap_eq_filter (p:=λn=>(t2.b n).isSome) ▸ rfl
 rw[efl]at eys;rw[eys]at eC;have fl:=List.length_filter_le (λn=>(t2.b n).isSome) nf;refine⟨lp,_,rfl,.of eC,by omega,λl ss nl pm so=>?_⟩
 obtain rfl:ss=both pool t1.b t2.b:=cj (uW so (pm.nodup_iff.mpr (ndf.filter _))) (iZ ..) λn=>by
  rw[pm.mem_iff,j6,mf n,Xk];exact⟨λ⟨h1,h2⟩=>⟨sbf n ((mf n).mpr h1),h1,h2⟩,λh=>h.2⟩
 have ul:=xy nl (.lst ((both pool t1.b t2.b).map V.str));have ell:upd HC l (.lst ((both pool t1.b t2.b).map V.str)) l=some (.lst ((both pool t1.b t2.b).map V.str)):=xm;have s9:=sC.trans ul;generalize upd HC l (.lst ((both pool t1.b t2.b).map V.str))=HL at ul ell s9 ⊢;have oal:=oag.same s9;have e1l:=s9 _ _ eg;have e2l:=s9 _ _ h2g;have efl':=s9 _ _ efg;have bl:=cw pool t1.b t2.b;have nll:l≠lo:=λz=>by obtain⟨ys,hy,_⟩:=oag;rw[z,sC _ _ hy]at nl;cases nl
 have nlf:l≠fo:=λz=>by rw[z,sC _ _ efg]at nl;cases nl
 have n1l:n1≠lo:=oag.ne eg λ_ z=>by cases z
 have n2l:n2≠lo:=oag.ne h2g λ_ z=>by cases z
 have fol:fo≠lo:=oag.ne efg λ_ z=>by cases z
 have nin:∀{b:xb},b≠lo->b≠fo->b∉[lo,fo]:=λh1 h2 z=>by rcases jB.mp z with z|z;exact h1 z;exact h2 (jA.mp z)
 refine⟨l,rfl,⟨_,.of ell⟩,Xf (K:=K) (xs:=(both pool t1.b t2.b).map V.str) (λi σ H'=>∃(c7 c8:Option V) (kv:List (Key×V)),σ=[some (.ref lo),some (.ref t),some (.ref bd),some (gdL g),some (.ref pa),some (.str (nx s.out)),some (.str (nx t1.out)),some (.ref n1),some (.ref n2),some (.ref fo),c7,c8]/\Xc [lo,fo] HL H'/\OutA K H' lo (((both pool t1.b t2.b).take i).foldl (pk1 (nx s.out) t1.b t2.b) ⟨t2.out,bo0⟩).out/\H' fo=some (.dK kv)/\BkD pool kv (((both pool t1.b t2.b).take i).foldl (pk1 (nx s.out) t1.b t2.b) ⟨t2.out,bo0⟩).b) ⟨none,none,[],rfl,.of (Same.refl _),oal,efl',ZF _⟩ (λi σ H' _ h=>?_) ?_ ?_⟩
 . obtain⟨_,_,_,_,x1,_⟩:=h;exact .of (x1 _ _ (nin nll nlf) ell)
 . rintro i x σ H' hx ⟨c7,c8,kv,rfl,x1,oa1,ek,bkk⟩;rw[jJ]at hx;obtain⟨n,en,rfl⟩:=jT.mp hx;have hi:=(jV.mp en).1;obtain⟨np,s1,s2⟩:=Xk.mp (jq en);have e:(both pool t1.b t2.b).take (i + 1)=(both pool t1.b t2.b).take i ++ [n]:=by rw[List.take_succ,en];rfl
   rw[e,List.foldl_append];have pl:=lH (b1:=t1.b) (b2:=t2.b) (k:=nx s.out) ((both pool t1.b t2.b).take i) ⟨t2.out,bo0⟩;rw[jo]at pl;dsimp only at pl;generalize((both pool t1.b t2.b).take i).foldl (pk1 (nx s.out) t1.b t2.b) ⟨t2.out,bo0⟩=T at oa1 bkk pl ⊢;have kl:=bkk.len
   have dgf:∀{HH:Hp},Xc [lo,fo] HL HH->DGet HH n1 (.str n) (some (.str (t1.b.at n))):=λsh=>by
    have:DGet _ n1 (kV (.inr n)) _ := .inl ⟨kv1,.inr n,.inr ⟨o,sh _ _ (nin n1l n1f) e1l⟩,rfl,rfl⟩
    rwa [bk1.get s1]at this
   have dgs:∀{HH:Hp},Xc [lo,fo] HL HH->DGet HH n2 (.str n) (some (.str (t2.b.at n))):=λsh=>by
    have:=DGet.k (k := .inr n) (sh _ _ (nin n2l n2f) e2l)
    rwa [bk2.get s2]at this
   dsimp only[xF,List.set];refine⟨_,rfl,_,rfl,n1,_,rfl,dgf x1,_,rfl,_,rfl,fo,_,rfl,DPut.k (k := .inr n) ek 'd',?_⟩;have x2:Xc [lo,fo] HL (upd H' fo (.dK (xH kv (.inr n) (.str (t1.b.at n))))):=x1.trans (Jl 'j');have oa2:=oa1.dct (u := .dK (xH kv (.inr n) (.str (t1.b.at n)))) ek;have ek2:upd H' fo (.dK (xH kv (.inr n) (.str (t1.b.at n)))) fo=some (.dK (xH kv (.inr n) (.str (t1.b.at n)))):=xm;generalize upd H' fo (.dK (xH kv (.inr n) (.str (t1.b.at n))))=H2 at x2 oa2 ek2 ⊢;have bk':=bkk.put np (t1.b.at n);have kl2:=bk'.len;dsimp only[xF,List.set];refine⟨_,rfl,_,rfl,n1,_,rfl,dgf x2,_,rfl,_,rfl,n2,_,rfl,dgs x2,_,_,rfl,rfl,_,rfl,?_⟩;have epp:List.foldl (pk1 (nx s.out) t1.b t2.b) T [n]=pk1 (nx s.out) t1.b t2.b T n:=rfl;rw[epp];unfold pk1
   by_cases cq:t1.b.at n=t2.b.at n
   . rw[kf cq,ke ((ah s1 s2).mp cq)];exact⟨_,_,_,rfl,x2,oa2,ek2,bk'⟩
   . rw[kg cq,k9 (λz=>cq ((ah s1 s2).mpr z))];refine⟨_,rfl,z2,λp0 n0=>?_⟩;have u0:=xy n0 (.tup [.str "name",.str (nx s.out)]);refine⟨_,rfl,_,rfl,n1,_,rfl,dgf (x2.trans (.of u0)),z2,λp1 n1'=>?_⟩;have u1:=xy n1' (.tup [.str "name",.str (t1.b.at n)]);refine⟨_,rfl,_,rfl,n2,_,rfl,dgs (x2.trans (.of (u0.trans u1))),z2,λp2 n2'=>⟨by show 4<=sizeLine;decide,λp3 n3'=>?_⟩⟩;have u2:=xy n2' (.tup [.str "name",.str (t2.b.at n)]);have u3:=xy n3' (.tup [.str "pick",.ref p0,.ref p1,.ref p2]);have u:=u0.trans (u1.trans (u2.trans u3));have dp:IsD K _ (dE (.pick (.nam (nx s.out)) (.nam (t1.b.at n)) (.nam (t2.b.at n)))) (.ref p3):=⟨p3,_,rfl,.of (xm (H:=_) (o := .tup [.str "pick",.ref p0,.ref p1,.ref p2])),_,_,rfl,rfl,_,_,rfl,⟨p0,_,rfl,.of ((u1.trans (u2.trans u3)) _ _ xm),_,_,rfl,rfl,_,_,rfl,rfl,rfl⟩,_,_,rfl,⟨p1,_,rfl,.of ((u2.trans u3) _ _ xm),_,_,rfl,rfl,_,_,rfl,rfl,rfl⟩,_,_,rfl,⟨p2,_,rfl,.of (u3 _ _ xm),_,_,rfl,rfl,_,_,rfl,rfl,rfl⟩,rfl⟩;dsimp only[xF,List.set];refine⟨_,rfl,_,rfl,lo,T.out,_,.ref p3,rfl,oa2.same u,by omega,dp,λH5 x5 oa5 _=>?_⟩;have ek5:=x5 _ _ (λz=>fol (jA.mp z)) (u _ _ ek2);have bk5:=bk'.put np (nx T.out);rw[vP]at bk5;refine⟨_,rfl,_,rfl,fo,_,rfl,DPut.k (k := .inr n) ek5 'd',_,_,_,rfl,?_,oa5.dct ek5,xm,bk5⟩;exact((x2.trans (.of u)).trans (x5.wide 'j')).trans (Jl 'j')
 . rintro σ H' ⟨c7,c8,kv,rfl,x1,oa1,ek,bkk⟩;rw[jC,j9]at oa1 bkk;refine⟨_,rfl,q fo kv H' ?_ ffo oa1 ek bkk⟩;intro b u nb eb;have bn1:b≠n1:=λz=>by rw[z,f1']at eb;cases eb
   have bnf:b≠fo:=λz=>by rw[z,ffo]at eb;cases eb
   exact x1 _ _ (nin (λz=>nb (by rw[z];simp)) bnf) (s9 _ _ (xg _ _ (λz=>bn1 (jA.mp z)) (lI _ _ nb eb)))
def lJ(K:qu)(d:Nat):Sp:=λvs H Q _=>∃(pool Kn:qB) (lo:xb) (ps:List Pt) (s:LB) (y p:Str) (es:List Ex) (q:Pt) (x:V) (bd pa:xb) (kvs:List (Key×V)) (g:Option Str),vs=[.ref lo,x,.ref bd,gdL g,.ref pa]/\OutA K H lo s.out/\IsD K (hid [lo] H) (dW (.call y p es)) x/\H bd=some (.dK kvs)/\BkD pool kvs s.b/\IsD K (hid [lo] H) (.lst (ps.map dPt)) (.ref pa)/\(∀s,g=some s->s ≠ "")/\fnd ps p=some q/\ok1 pool ps (okD pool ps d) Kn (.call y p es)/\Dm s.b Kn/\(∀n∈Kn,n∈pool)/\pool.length<=10/\ps.length<=100/\s.out.length+(1+es.length+csD pool ps d q.rs)<900000 /\
 ∀H',Xc [lo] H H'->OutA K H' lo (ltv (xS pool ps d q.rs g (args s.b (q.pa.zip es) s.out)).out (q.e.ren (xS pool ps d q.rs g (args s.b (q.pa.zip es) s.out)).b.at))->Q (.str (nx (xS pool ps d q.rs g (args s.b (q.pa.zip es) s.out)).out)) H'
def vR{ix:qC}{wi:TI}{tt:TT}{te:TE}{op:V->V->Hp->VK->Prop}{v:V}{g:TG}{u:TS}{D:Ends}(h:wi σ H (XJ ix tt te σ λx H1=>op x v H1 λy H2=>g y σ H2 (u D))):Qf (Qr (tOp op (JL ix wi tt te) (tC v)) g) u D σ H:=h
theorem lK:∀{ps:List Pt}{ys:List V},IsDs K H (ps.map dPt) ys->fnd ps p=some q->∃v qO,((ps.zip ys).map λz=>if z.1.nm=p then some z.2 else none).filterMap id=v::qO/\IsD K H (dPt q) v
 | [],_,_,e=>nomatch e
 |a::ps,_,⟨x,r,rfl,dx,dr⟩,e=>by
  by_cases c:a.nm=p
  . have e':fnd (a :: ps) p=some a:=by unfold fnd;rw[jy,kf c]
    rw[e']at e
    cases e
    exact⟨x,_,by rw[List.zip_cons_cons,jg,ke c];rfl,dx⟩
  . have e':fnd (a :: ps) p=fnd ps p:=by unfold fnd;rw[jy,kg c]
    rw[e']at e;obtain⟨v,qO,h1,h2⟩:=lK dr e;exact⟨v,qO,by rw[List.zip_cons_cons,jg,k9 c];exact h1,h2⟩
theorem OutD.out{out:List Wr}(h:OutD K Da H lo out):OutA K H lo out:=by
 obtain⟨ys,hy,dy⟩:=h;refine⟨ys,hy,dy.same λb u e=>?_⟩;unfold hid at e ⊢;split at e
 . cases e
 . rename_i n;rw[k9 (λz=>n (by rw[jA.mp z];simp))];exact e
def aq(n:H Da=none)(x:Xc [lo,Da] H H'):Same (hid [lo] H) (hid [lo] H'):=λb u e=>by
 unfold hid at e ⊢;split at e
 . cases e
 . rename_i nb;rw[k9 nb];refine x b u (λz=>?_) e;rcases jB.mp z with z | z
   . exact nb (jA.mpr z)
   . rw[jA.mp z,n]at e;cases e
def OutA.apart(h:OutA K H lo out)(n:H Da=none)(s:Same H H'):OutD K Da H' lo out:=by
 obtain⟨ys,hy,dy⟩:=h;refine⟨ys,s _ _ hy,dy.same λb u e=>?_⟩;unfold hid at e ⊢;split at e
 . cases e
 . rename_i nb;rw[k9 (λz=>by rcases jB.mp z with z|z;exact nb (jA.mpr z);(rw[jA.mp z,n]at e;cases e))];exact s b u e
theorem OutD.same{out:List Wr}(h:OutD K Da H lo out)(s:Same H H'):OutD K Da H' lo out:=by
 obtain⟨ys,hy,dy⟩:=h;exact⟨ys,s _ _ hy,dy.same (J3 s)⟩
theorem OutD.upd{out:List Wr}{u:HO}(h:OutD K Da H lo out)(n:Da≠lo):OutD K Da (upd H Da u) lo out:=by
 obtain⟨ys,hy,dy⟩:=h;exact⟨ys,by rw[xz n.symm];exact hy,by rw[Qz 'j'];exact dy⟩
def agT(b:Bo)(ps:List (Str×Ex))(out:List Wr)(i:Nat):LB:=(ps.take i).foldl (ag1 b) ⟨out,bo0⟩
def lL(h:ps[i]?=some (n,e)):agT b ps out (i+1)=⟨ltv (agT b ps out i).out (e.ren b.at),(agT b ps out i).b.put n (nx (agT b ps out i).out)⟩:=by
 unfold agT;rw[List.take_succ,h,Option.toList_some,List.foldl_append];rfl
def vS(h12:12<=j)(B:Bl mg)(JB:Def P w K mg base "_law_renamed" 12 ["_law_e", "_law_book"] (JT K 10))(Jt:Def P w K mg base "_law_value" 1 ["_law_out", "_law_e"] (XY K))(QC:Def P w K mg base "_law_laid" j ["_law_out", "_law_rows_here", "_law_before", "_law_guard", "_law_parts"] (XZ K d))
 (F:Fn K mg "_law_called" Zt ["_law_out", "_law_row", "_law_book", "_law_guard", "_law_parts"]):Def P w K mg base "_law_called" (j+1) ["_law_out", "_law_row", "_law_book", "_law_guard", "_law_parts"] (lJ K d):=by
 have hj_l_renamed:12<=j:=h12;have qG:1<=j:=by omega
 have hj_l_laid:j<=j:=jG _;refine F.ok XT (λvs H Q E h=>?_) (λf qF A outer s H vs Q E hr h=>?_)
 . obtain⟨pool,Kn,lo,ps,s,y,p,es,q,x,bd,pa,kvs,g,rfl,_⟩:=h;rfl
 obtain⟨pool,Kn,lo,ps,s,y,p,es,q,x,bd,pa,kvs,g,rfl,oa,dx,hb,bkd,dp,ng,fq,⟨yp,q',fq',pl,e100,oke,sq,okb,oe⟩,dm,sub,qU,p100,len,k⟩:=h;obtain rfl:q=q':=by rw[fq]at fq';exact Option.some.inj fq'
 refine⟨_,(@xu _ _ _ _ _ (xM (i:=5) XT.nd rfl 'b' (xD (xE K rfl) (Qa (CompOk.of (x := "_law_part_here") (M:=["_law_row"]) (ix:=[1]) rfl rfl (by decide +kernel) (by decide +kernel) rfl ⟨rfl,trivial⟩ 'g' ⟨⟨rfl,rfl,rfl,rfl⟩,trivial⟩) rfl (by decide +kernel) (JK (pv 4)) (λ_ _ _ _ _=>(Yb (xK Jb (xD (xE K rfl) (pv 0) xi (λ_ _=>rfl)) (xD (xE K rfl) (pv 1) xi (λ_ _=>rfl)) (xN _)))) (λ_ _ _ _ _=>(pv 0))) xi (λ_ _=>rfl)))
  (@xu _ _ _ _ _ (xM (i:=6) XT.nd rfl 'b' Zh)
  (@xu _ _ _ _ _ (XF (j:=7) XT.nd rfl rfl (CompOk.of (x := "_law_e") (M:=["_law_out", "_law_book"]) (ix:=[0,2]) rfl rfl (by decide +kernel) (by decide +kernel) rfl ⟨rfl,⟨rfl,trivial⟩⟩ 'g' ⟨⟨rfl,rfl,rfl,rfl⟩,⟨⟨rfl,rfl,rfl,rfl⟩,trivial⟩⟩) rfl (by decide +kernel) (JK (xD (xE K rfl) (pv 1) xi (λ_ _=>rfl))) (λ_ _ _ _ _=>JP) (λ_ _ _ _ _=>(xI Jt hr rfl (xC (pv 1) (xC (xI JB hr rfl (xC (pv 0) (xC (pv 2) xk)) (hjk:=hj_l_renamed)) xk)) (hjk:=qG))))
  (@xu _ _ _ _ _ (Q6 PassesOwn.never rfl (Q5 rfl B.range (xC (J5 (JF K rfl) rfl B.len PySem.boot_len (xC (pv 7) xk)) xk)) (Ju (i:=8) XT.nd rfl 'b') (@xw _ _ _ (Je (xG hr) (pv 6) (xD (xE K rfl) (xD (xE K rfl) (pv 5) xi (λ_ _=>rfl)) (pv 8) (λ_ _=>rfl)) (xD (xE K rfl) (pv 7) (pv 8) (λ_ _=>rfl)) rfl)))
  (@xu _ _ _ _ _ (xM (i:=6) XT.nd rfl 'b' (xI QC hr rfl (xC (pv 0) (xC (xD (xE K rfl) (pv 5) xi (λ_ _=>rfl)) (xC (pv 6) (xC (pv 3) (xC (pv 4) xk))))) (hjk:=hj_l_laid)))
  (@xw _ _ _ (xP (xI Jt hr rfl (xC (pv 0) (xC (xI JB hr rfl (xC (xD (xE K rfl) (pv 5) xi (λ_ _=>rfl)) (xC (pv 6) xk)) (hjk:=hj_l_renamed)) xk)) (hjk:=qG))))))))),?_⟩
 have z2:(1000:Nat)<sizeLine:=by decide
 obtain⟨t,zz,rfl,qt,_,_,rfl,rfl,_,_,rfl,rfl,_,_,rfl,rfl,xe,_,rfl,de,rfl⟩:=dx;obtain⟨le,ys,rfl,qle,dys⟩:=de;obtain⟨_,xs,e0,qps,dps⟩:=dp
 cases e0
 have qK:∀{H':Hp},Same H H'->SqT K H' t [.str "call",.str y,.str p,.ref le]:=λs=>((xJ _ _).trans s).tupq qt;have pxl:=dps.length;rw[jC]at pxl;obtain⟨v,qO,ev,dv⟩:=lK dps fq;have go:=bT (K:=K) ((xJ [lo] H).seq qps);have zl:(ps.zip xs).length=xs.length:=by rw[List.length_zip];omega
 refine vR ⟨_,rfl,pa,rfl,⟨_,(xJ _ _).seq qps⟩,Yp (λ(_:Hp) (x:V) v=>v=x) (λ_ h=>h) _ _ ((ps.zip xs).map λz=>if z.1.nm=p then some z.2 else none) (by rw[jC];exact zl) 'd' go.1 go.2 (λi o H' R hi ei sm h=>?_) (λi x Da H' R hi ei sm nD oD hR=>?_) (λlp H1 zs s1 n1 e1 pr1=>?_)⟩
 . rw[jJ]at ei;obtain⟨z,ez,rfl⟩:=jT.mp ei;obtain⟨ea,eb⟩:=List.getElem?_zip_eq_some.mp ez;obtain⟨x2,e2,d2⟩:=dps.get (i:=i) (d:=dPt z.1) (by rw[jJ,ea];rfl);rw[eb]at e2;obtain rfl:=(Option.some.inj e2).symm;have exi:xs.getD i .non=z.2:=by rw[jN,eb];rfl
   obtain⟨tp,zz,et,qp,_,_,rfl,rfl,_⟩:=d2;rw[exi,et];refine⟨_,rfl,.inr (.inl ⟨tp,_,0,.str z.1.nm,rfl,rfl,(((xJ _ _).trans sm).tupq qp),J0,_,rfl,.inr (.inl ⟨t,_,2,.str p,rfl,rfl,qK sm,JA,_,_,rfl,rfl,_,rfl,?_⟩)⟩)⟩;have:=h H' (Same.refl _)
   by_cases c:z.1.nm=p
   . rw[ke c]at this;rw[kf c];exact this
   . rw[k9 c]at this;rw[kg c];exact this
 . rw[jJ]at ei;obtain⟨z,ez,e'⟩:=jT.mp ei;obtain⟨ea,eb⟩:=List.getElem?_zip_eq_some.mp ez;have exi:xs.getD i .non=z.2:=by rw[jN,eb];rfl
   rw[exi];split at e'
   . cases e'
     exact⟨_,rfl,hR _ _ (Same.refl _) rfl⟩
   . cases e'
 obtain⟨zt,rfl⟩:∃zt,zs=v::zt:=by
  rw[ev]at pr1
  cases pr1 with
  |cons h _=>exact⟨_,by rw[h]⟩
 refine .inl ⟨lp,_,0,v,rfl,rfl,.of e1,J0,?_⟩;dsimp only[xF,List.set,L2.J2,Ja,jR];refine λib nib=>?_;have u1:=xy nib (.dK []);have ei:upd H1 ib (.dK []) ib=some (.dK []):=xm;have s2:=s1.trans u1;generalize upd H1 ib (.dK [])=H2 at u1 ei s2 ⊢;dsimp only[xF,List.set];have oa2:=oa.same s2;have h2:=J3 (A:=[lo]) s2;have yl:=dys.length;rw[jC]at yl;have zle:(q.pa.zip es).length=es.length:=by rw[List.length_zip];omega
 have agl:∀i,(agT s.b (q.pa.zip es) s.out i).out.length<=s.out.length+es.length:=λi=>by
  have:=(XW (b:=s.b) ((q.pa.zip es).take i) ⟨s.out,bo0⟩ [] dm0).1.len;rw[jo]at this;dsimp only at this;unfold agT;omega
 have gt:∀i,i<es.length->∃n e,q.pa[i]?=some n/\es[i]?=some e/\(q.pa.zip es)[i]?=some (n,e)/\n∈q.pa/\e∈es:=λi hi=>by
  have h1:q.pa[i]?=some q.pa[i]:=jD 'd';have h2:es[i]?=some es[i]:=jD hi;exact⟨_,_,h1,h2,List.getElem?_zip_eq_some.mpr ⟨h1,h2⟩,jq h1,jq h2⟩
 have nbl:bd≠lo:=oa.ne hb λ_ z=>by cases z
 have nil:ib≠lo:=oa2.ne ei λ_ z=>by cases z
 refine Zl ?_;refine⟨_,rfl,.inr (.inl ⟨t,_,3,.ref le,rfl,rfl,qK s2,Xl,le,rfl,⟨_,s2.seq ((xJ _ _).seq qle)⟩,lF es.length (λi=>ys.getD i .non) 'd' (λi Da zs H'=>H2 Da=none/\Xc [lo,Da] H2 H'/\H' Da=some (.lst zs)/\Da≠lo/\OutD K Da H' lo (agT s.b (q.pa.zip es) s.out i).out/\zs=(List.range i).map λk=>V.str (nx (agT s.b (q.pa.zip es) s.out k).out)) (λDa nD=>?_) (λi Da zs H' h=>?_) (λDa zs H' h=>?_) (λi Da zs H' hi h=>?_) (λi Da zs H' R hi h hR=>?_) (λDa zs H3 h=>?_)⟩)⟩
 . exact⟨nD,.of (xy nD _),xm,(λz=>by obtain⟨ys,hy,_⟩:=oa2;rw[z,hy]at nD;cases nD),oa2.apart nD (xy nD _),rfl⟩
 . rw[h.2.2.2.2.2,jC,kJ]
 . exact⟨_,(xJ _ _).seq ((aq h.1 h.2.1).seq (h2.seq qle)),by omega⟩
 . have q1:=(xJ _ _).seq ((aq h.1 h.2.1).seq (h2.seq qle));have hx:ys[i]? = some (ys.getD i .non):=by rw[jN,jD 'd'];rfl
   exact⟨⟨_,_,q1,hx⟩,λx qH h=>⟨by have:=h.2 _ q1;rw[hx]at this;exact(Option.some.inj this).symm,h.1⟩⟩
 . obtain⟨nD,x1,hD,ne,oD,rfl⟩:=h;obtain⟨n,e,e1',e2',e3',nm,em⟩:=gt i hi;have hx:ys[i]? = some (ys.getD i .non):=by rw[jN,jD 'd'];rfl
   obtain⟨y2,ey,dy⟩:=dys.get (i:=i) (d:=dE e) (by rw[jJ,e2'];rfl);rw[hx]at ey;obtain rfl:=Option.some.inj ey;have eo:=oke e em;have hb':H' bd=some (.dK kvs):=x1 _ _ (λz=>by rcases jB.mp z with z|z;exact nbl z;(rw[jA.mp z,]at hb;rw[s2 _ _ hb]at nD;cases nD)) (s2 _ _ hb);have ag:=agl i;refine⟨_,rfl,_,rfl,_,rfl,e,_,bd,kvs,s.b.at,rfl,eo.1,Qm bkd dm eo,eo.2.1,(dy.same (h2.trans (aq nD x1))).same (xJ _ _),hb',λpe H4 s4 d4=>?_⟩;refine⟨lo,(agT s.b (q.pa.zip es) s.out i).out,e.ren s.b.at,.ref pe,rfl,oD.out.same s4,by omega,d4,λH5 x5 oa5 oD5=>?_⟩;have hD5:=x5 _ _ (λz=>ne (jA.mp z)) (s4 _ _ hD);refine hR _ _ hD5 ⟨nD,((x1.trans (.of s4)).trans (x5.wide 'j')).trans (Jl 'j'),xm,ne,?_,?_⟩
   . rw[lL e3'];exact(oD5 Da _ (s4 _ _ hD) ne (oD.same s4)).upd ne
   . rw[List.range_succ,jd];rfl
 obtain⟨nD,x23,hD,nDl,oD,rfl⟩:=h;have oa3:=oD.out;have ei3:H3 ib=some (.dK []):=x23 _ _ (λz=>by rcases jB.mp z with z|z;exact nil z;(rw[<- jA.mp z,ei]at nD;cases nD)) ei;have h23:=aq nD x23;have h3:=h2.trans h23;have nDi:Da≠ib:=λz=>by rw[z,ei]at nD;cases nD
 have dv3:=dv.same h3;obtain⟨tp,zz,rfl,qp,_,_,rfl,rfl,xa,_,rfl,da,xr,_,rfl,dr,xq,_,rfl,dq,rfl⟩:=dv3;obtain⟨la,zz,rfl,qla,dla⟩:=da;obtain rfl:=Qv dla;dsimp only[xF,List.set];refine⟨_,rfl,_,_,rfl,JZ (.of hD),_,rfl,by rw[jC,kJ];omega,by rw[jC,kJ];omega,?_⟩;rw[jC,kJ,ja];have dexI:∀{H':Hp},Xc [ib] H3 H'->DEx [lo] H3 H':=λx=>DEx.of x λb hb _ v ev=>by rw[jA.mp hb,ei3]at ev;cases ev;exact ZD
 refine QS (n:=es.length) (λi σ H'=>∃(c8:Option V) (kv:List (Key×V)),σ=[some (.ref lo),some (.ref t),some (.ref bd),some (gdL g),some (.ref pa),some (.ref tp),some (.ref ib),some (.ref Da),c8]/\Xc [ib] H3 H'/\H' ib=some (.dK kv)/\BkD pool kv (agT s.b (q.pa.zip es) s.out i).b) ⟨none,[],rfl,.of (Same.refl _),ei3,ZF _⟩ (λi σ H' hi h=>?_) (λσ H' h=>?_)
 . obtain⟨c8,kv,rfl,x1,ek,bk⟩:=h;obtain⟨n,e,e1',e2',e3',nm,em⟩:=gt i hi;have kl:=bk.len;have hD1:=x1 _ _ (λz=>nDi (jA.mp z)) hD;have qla1:=(xJ _ _).seq (ZE (dexI x1) qla);have qp1:=(xJ _ _).tupq (Jp (dexI x1) qp)
   have atv:atI ((List.range es.length).map λk=>V.str (nx (agT s.b (q.pa.zip es) s.out k).out)) (0+(i:Nat))=some (.str (nx (agT s.b (q.pa.zip es) s.out i).out)):=by
    rw[Int.zero_add];refine Jx ?_;rw[jJ,List.getElem?_range hi];rfl
   have atn:atI (q.pa.map V.str) (0+(i:Nat))=some (.str n):=by
    rw[Int.zero_add];refine Jx ?_;rw[jJ,e1'];rfl
   dsimp only[xF,List.set];refine⟨_,rfl,_,rfl,.inl ⟨Da,_,_,_,rfl,rfl,.of hD1,atv,_,rfl,_,rfl,.inr (.inl ⟨tp,_,1,.ref la,rfl,rfl,qp1,J9,_,rfl,.inl ⟨la,_,_,_,rfl,rfl,qla1,atn,ib,_,rfl,DPut.k (k := .inr n) ek 'd',_,_,rfl,x1.trans (Jl 'j'),xm,?_⟩⟩)⟩⟩;rw[lL e3'];exact bk.put (sq n nm) _
 . obtain⟨c8,kv,rfl,x1,ek,bk⟩:=h;have ea:agT s.b (q.pa.zip es) s.out es.length=args s.b (q.pa.zip es) s.out:=by unfold agT args;rw[<- zle,j9]
   rw[ea]at bk oa3
   have oa4:OutA K H' lo (args s.b (q.pa.zip es) s.out).out:=oa3.dex (dexI x1) (by
    obtain⟨ys,hy,_⟩:=oa3;rw[hy];exact x1 _ _ (λz=>nil (jA.mp z).symm) hy)
   obtain⟨ag,dma⟩:=XW (b:=s.b) (q.pa.zip es) ⟨s.out,bo0⟩ [] dm0;rw[j0,a7 pl]at dma;have ll:=ag.len;dsimp only at ll;have ea':args s.b (q.pa.zip es) s.out=(q.pa.zip es).foldl (ag1 s.b) ⟨s.out,bo0⟩:=rfl;rw[<- ea']at dma ll;generalize args s.b (q.pa.zip es) s.out=T at oa4 bk dma ll k;have lyd:=Qc pool ps d q.pa q.rs g T okb dma sq;have dps4:IsD K (hid [lo] H') (.lst (ps.map dPt)) (.ref pa):=Jr (dexI x1) ⟨pa,xs,rfl,h3.seq qps,dps.same h3⟩;dsimp only[xF,List.set];refine⟨_,rfl,_,rfl,.inr (.inl ⟨tp,_,2,xr,rfl,rfl,(xJ _ _).tupq (Jp (dexI x1) qp),JA,_,rfl,_,rfl,_,rfl,pool,q.pa,lo,ps,T,q.rs,xr,ib,pa,kv,g,rfl,oa4,Jr (dexI x1) dr,ek,bk,dps4,ng,okb,dma,sq,qU,p100,by omega,λnb kv' H5 x5 f5 oa5 en5 bk5=>?_⟩)⟩;have h5:=QB x5;have lu:=lyd.1.gr.len;generalize xS pool ps d q.rs g T=U at oa5 bk5 lyd lu k;dsimp only[xF,List.set];refine⟨_,rfl,_,rfl,.inr (.inl ⟨tp,_,3,xq,rfl,rfl,(xJ _ _).tupq (h5.tupq (Jp (dexI x1) qp)),Xl,_,rfl,q.e,xq,nb,kv',U.b.at,rfl,oe.1,Qm bk5 lyd.1.dm oe,oe.2.1,((Jr (dexI x1) dq).same h5).same (xJ _ _),en5,λpe H6 s6 d6=>?_⟩)⟩;refine⟨lo,U.out,_,.ref pe,rfl,oa5.same s6,by omega,d6,λH7 x7 oa7 _=>k H7 (λb u nb' eb=>?_) oa7⟩;have nib':b≠ib:=λz=>by rw[z]at eb;rw[s1 _ _ eb]at nib;cases nib
   have nDb:b≠Da:=λz=>by rw[z]at eb;rw[s2 _ _ eb]at nD;cases nD
   exact x7 _ _ nb' (s6 _ _ (x5 _ _ nb' (x1 _ _ (λz=>nib' (jA.mp z)) (x23 _ _ (λz=>by rcases jB.mp z with z|z;exact nb' (jA.mpr z);exact nDb (jA.mp z)) (s2 _ _ eb)))))
theorem lM:∀{ds:List D}{xs:List V},IsDs K H (ds++[d]) xs->∃ys y,xs=ys++[y]/\IsDs K H ds ys/\IsD K H d y
 | [],_,⟨x,r,e,h,hr⟩=>by
  obtain rfl:r=[]:=hr;exact⟨[],x,e,rfl,h⟩
 |_::_,_,⟨x,r,e,h,hr⟩=>by
  obtain⟨ys,y,rfl,h1,h2⟩:=lM hr;exact⟨x::ys,y,e,⟨x,ys,rfl,h,h1⟩,h2⟩
abbrev ar:V->V->Hp->VK->Prop:=λx y H Q=>∃i j,x=V.str i/\y=V.str j/\Q (V.bl (decide (i=j))) H
def JM{τ l:Str}{r:List V}{A B:TS}{D:Ends}{k:Nat}(e:σ[k]?=some (some (.ref t)))(q:SqT K H t (.str τ::r))(n:τ≠l)(h:B D σ H):QR (Xy (tOp ar (tOp (rIx K) (Qo k) (tC (.int 0))) (tC (.str l)))) A B D σ H :=
 ⟨_,e,.inr (.inl ⟨t,_,0,.str τ,rfl,rfl,q,J0,_,_,rfl,rfl,_,rfl,xU (λc=>absurd c n) (λ_=>h)⟩)⟩
def ZI{τ:Str}{r:List V}{A B:TS}{D:Ends}{k:Nat}(e:σ[k]?=some (some (.ref t)))(q:SqT K H t (.str τ::r))(h:A D σ H):QR (Xy (tOp ar (tOp (rIx K) (Qo k) (tC (.int 0))) (tC (.str τ)))) A B D σ H :=
 ⟨_,e,.inr (.inl ⟨t,_,0,.str τ,rfl,rfl,q,J0,_,_,rfl,rfl,_,rfl,QN rfl h⟩)⟩
def cT{τ l:Str}{r:List V}{T:TT}{A B:TS}{D:Ends}{k:Nat}(e:σ[k]?=some (some (.ref t)))(q:SqT K H t (.str τ::r))(n:τ≠l)(h:B D σ H):QR (aQ (Xy (tOp ar (tOp (rIx K) (Qo k) (tC (.int 0))) (tC (.str l)))) T) A B D σ H :=
 ⟨_,e,.inr (.inl ⟨t,_,0,.str τ,rfl,rfl,q,J0,_,_,rfl,rfl,_,rfl,xU (λc=>absurd c n) (λ_=>xY h)⟩)⟩
def vT{τ:Str}{r:List V}{T:TT}{A B:TS}{D:Ends}{k:Nat}(e:σ[k]?=some (some (.ref t)))(q:SqT K H t (.str τ::r))(h:T σ H λb H1=>if b=true then A D σ H1 else B D σ H1):QR (aQ (Xy (tOp ar (tOp (rIx K) (Qo k) (tC (.int 0))) (tC (.str τ)))) T) A B D σ H :=
 ⟨_,e,.inr (.inl ⟨t,_,0,.str τ,rfl,rfl,q,J0,_,_,rfl,rfl,_,rfl,QN rfl h⟩)⟩
def lN(n:Nat):ixN (n+1) (-1)=some n:=by
 unfold ixN;rw[k9 'd',ke 'd'];exact kN some 'd'
def ZJ{α:Type}(xs:List α)(x:α):atI (xs++[x]) (-1)=some x:=by
 unfold atI;rw[jY,show xs.length + [x].length=xs.length+1 from rfl,lN];exact List.getElem?_concat_length
def LdI(K:qu)(pool:qB)(H:Hp)(lo ra bd pa:xb)(g:Option Str)(T:LB)(σ:St)(H':Hp):Prop:=∃(bk:xb) (kv:List (Key×V)) (c6 c7 c8:Option V),σ=[some (.ref lo),some (.ref ra),some (.ref bd),some (gdL g),some (.ref pa),some (.ref bk),c6,c7,c8]/\Xc [lo] H H'/\H bk=none/\OutA K H' lo T.out/\H' bk=some (.dK kv)/\BkD pool kv T.b
def cU(x:Xc [lo] H H')(n:H bk=none)(oa:OutA K H' lo out)(ek:H' bk=some (.dK kv))(b1:BkD pool kv b)(yp:y∈pool)(qU:pool.length<=10) :
 ∃H2,DPut H' bk (.str y) (.str v) H2/\Xc [lo] H H2/\OutA K H2 lo out/\H2 bk=some (.dK (xH kv (.inr y) (.str v)))/\BkD pool (xH kv (.inr y) (.str v)) (b.put y v)/\DEx [lo] H' H2:=by
 have kl:=b1.len;have big:(10:Nat)<sizeLine:=by decide
 refine⟨_,DPut.k (k := .inr y) ek 'd',λb u nb eb=>?_,oa.dct ek,xm,b1.put yp v,DEx.of (A:=[bk]) (Jl (jA.mpr rfl)) λb hb _ v ev=>by rw[jA.mp hb,ek]at ev;cases ev;exact ZD⟩;rw[xz (λz:b=bk=>by rw[z,n]at eb;cases eb)];exact x b u nb eb
def OutA.snoc(h:OutA K H lo out):∃ys,H lo=some (.lst ys)/\ys.length=out.length/\∀(y:V) (r:Wr),IsD K (hid [lo] H) (dW r) y->OutA K (upd H lo (.lst (ys++[y]))) lo (out++[r]):=by
 obtain⟨ys,hy,dy⟩:=h;have yl:=dy.length;rw[Jj,jC]at yl;exact⟨ys,hy,yl,λy r d=>OutA.add hy dy d⟩
theorem vU(h12:12<=j)(B:Bl mg)(JB:Def P w K mg base "_law_renamed" 12 ["_law_e", "_law_book"] (JT K 10))(Jt:Def P w K mg base "_law_value" 1 ["_law_out", "_law_e"] (XY K))(QC:Def P w K mg base "_law_laid" j ["_law_out", "_law_rows_here", "_law_before", "_law_guard", "_law_parts"] (XZ K d))(vV:Def P w K mg base "_law_choice" (j+1) ["_law_out", "_law_row", "_law_book", "_law_guard", "_law_parts"] (lG K d))(vW:Def P w K mg base "_law_called" (j+1) ["_law_out", "_law_row", "_law_book", "_law_guard", "_law_parts"] (lJ K d))
 (F:Fn K mg "_law_laid" Zu ["_law_out", "_law_rows_here", "_law_before", "_law_guard", "_law_parts"]):Def P w K mg base "_law_laid" (j+2) ["_law_out", "_law_rows_here", "_law_before", "_law_guard", "_law_parts"] (XZ K (d+1)):=by
 have hj_l_renamed:12<=j+1:=by omega
 have qG:1<=j+1:=by omega
 have hj_l_laid:j<=j+1:=by omega
 have hjk:j<=j+1:=by omega
 have hj_l_choice:j+1<=j+1:=jG _;have hj_l_called:j+1<=j+1:=jG _;refine F.ok X0 (λvs H Q E h=>?_) (λf qF A outer s H vs Q E hr h=>?_)
 . obtain⟨pool,Kn,lo,ps,s,rows,x,bd,pa,kvs,g,rfl,_⟩:=h;rfl
 obtain⟨pool,Kn,lo,ps,s,rows,x,bd,pa,kvs,g,rfl,oa,dx,hb,bkd,dp,ng,ok,dm,sub,qU,p100,len,q⟩:=h
 refine⟨_,(@xu _ _ _ _ _ (xM (i:=5) X0.nd rfl 'b' (JY bE rfl B.dict PyProof.Rows.boot_dict (@xj _ _ _ _ _ (pv 2) xk rfl)))
  (@xu _ _ _ _ _ (Q6 PassesOwn.never rfl (JK (pv 1)) (Ju (i:=6) X0.nd rfl 'b') (@xw _ _ _ (xO (xK Jb (xD (xE K rfl) (pv 6) xi (λ_ _=>rfl)) xt (xN _)) (@xu _ _ _ _ _ (Je (xG hr) (pv 5) (xD (xE K rfl) (pv 6) xi (λ_ _=>rfl)) (xI Jt hr rfl (@xj _ _ _ _ _ (pv 0) (@xj _ _ _ _ _ (@xZ _ _ _ _ _ _ _ xt xi rfl rfl) xk rfl) rfl) (hjk:=qG)) rfl)
  (@xw _ _ _ (nY (@Jq _ _ _ _ _ _ _ _ _ xt (xD (xE K rfl) (xD (xE K rfl) (pv 0) (Xw Xx xi) (λ_ _=>rfl)) xi (λ_ _=>rfl)) (JY (Zm K rfl) rfl B.list PyProof.Rows.boot_list (@xj _ _ _ _ _ (xD (xE K rfl) (pv 6) xi (λ_ _=>rfl)) xk rfl)) rfl rfl rfl) (nX (pv 0) (Xw Xx xi) pM)))) (@xw _ _ _ (xO (xK Jb (xD (xE K rfl) (pv 6) xi (λ_ _=>rfl)) xt (xN _)) (@xw _ _ _ (Je (xG hr) (pv 5) (xD (xE K rfl) (pv 6) xi (λ_ _=>rfl)) (xI Jt hr rfl (@xj _ _ _ _ _ (pv 0) (@xj _ _ _ _ _ (xI JB hr rfl (@xj _ _ _ _ _ (xD (xE K rfl) (pv 6) xi (λ_ _=>rfl)) (@xj _ _ _ _ _ (pv 5) xk rfl) rfl) (hjk:=hj_l_renamed)) xk rfl) rfl) (hjk:=qG)) rfl)) (@xw _ _ _ (xO (PW.pt (JW (xK Jb (xD (xE K rfl) (pv 6) xi (λ_ _=>rfl)) xt (xN _)) (Qq (xK Jb (pv 3) xt (xN _))))) (@xw _ _ _ (J1 (JD PySem.F.plainAttrs_list PySem.F.slot_list_append PySem.F.type_list_append Jy (pv 0) (@xj _ _ _ _ _ (@xZ _ _ _ _ _ _ _ xt (xI JB hr rfl (@xj _ _ _ _ _ (xD (xE K rfl) (pv 6) xi (λ_ _=>rfl)) (@xj _ _ _ _ _ (pv 5) xk rfl) rfl) (hjk:=hj_l_renamed)) rfl rfl) xk rfl)))) (@xw _ _ _ (xO (xK Jb (xD (xE K rfl) (pv 6) xi (λ_ _=>rfl)) xt (xN _)) (@xu _ _ _ _ _ (xM (i:=7) X0.nd rfl 'b' (xI Jt hr rfl (@xj _ _ _ _ _ (pv 0) (@xj _ _ _ _ _ (xI JB hr rfl (@xj _ _ _ _ _ (xD (xE K rfl) (pv 6) xi (λ_ _=>rfl)) (@xj _ _ _ _ _ (pv 5) xk rfl) rfl) (hjk:=hj_l_renamed)) xk rfl) rfl) (hjk:=qG)))
  (@xw _ _ _ (J1 (JD PySem.F.plainAttrs_list PySem.F.slot_list_append PySem.F.type_list_append Jy (pv 0) (@xj _ _ _ _ _ (@xZ _ _ _ _ _ _ _ xt (@Jq _ _ _ _ _ _ _ _ _ xt (@xZ _ _ _ _ _ _ _ xt (@xZ _ _ _ _ _ _ _ xt (pv 3) rfl rfl) rfl rfl) (@xZ _ _ _ _ _ _ _ xt (pv 7) rfl rfl) rfl rfl rfl) rfl rfl) xk rfl))))) (@xw _ _ _ (xO (xK Jb (xD (xE K rfl) (pv 6) xi (λ_ _=>rfl)) xt (xN _)) (@xw _ _ _ (xM (i:=5) X0.nd rfl 'b' (xI vV hr rfl (@xj _ _ _ _ _ (pv 0) (@xj _ _ _ _ _ (pv 6) (@xj _ _ _ _ _ (pv 5) (@xj _ _ _ _ _ (pv 3) (@xj _ _ _ _ _ (pv 4) xk rfl) rfl) rfl) rfl) rfl) (hjk:=hj_l_choice)))) (@xw _ _ _ (xO (xK Jb (xD (xE K rfl) (pv 6) xi (λ_ _=>rfl)) xt (xN _)) (@xw _ _ _ (Q6 PassesOwn.never rfl (Q5 rfl B.range (@xj _ _ _ _ _ (xD (xE K rfl) (pv 6) xi (λ_ _=>rfl)) xk rfl)) (Ju (i:=8) X0.nd rfl 'b') (@xw _ _ _ (xM (i:=5) X0.nd rfl 'b' (xI QC hr rfl (@xj _ _ _ _ _ (pv 0) (@xj _ _ _ _ _ (xD (xE K rfl) (pv 6) xi (λ_ _=>rfl)) (@xj _ _ _ _ _ (pv 5) (@xj _ _ _ _ _ (pv 3) (@xj _ _ _ _ _ (pv 4) xk rfl) rfl) rfl) rfl) rfl) (hjk:=hjk)))))) (@xw _ _ _ (Je (xG hr) (pv 5) (xD (xE K rfl) (pv 6) xi (λ_ _=>rfl)) (xI vW hr rfl (@xj _ _ _ _ _ (pv 0) (@xj _ _ _ _ _ (pv 6) (@xj _ _ _ _ _ (pv 5) (@xj _ _ _ _ _ (pv 3) (@xj _ _ _ _ _ (pv 4) xk rfl) rfl) rfl) rfl) rfl) (hjk:=hj_l_called)) rfl)))))))))))))))
  (@xw _ _ _ (xP (pv 5))))),?_⟩
 have z2:(1000000:Nat)<sizeLine:=by decide
 obtain⟨ra,xs,rfl,qa,ids⟩:=dx;have xl:=ids.length;rw[Jj,jC]at xl;refine⟨_,rfl,bd,kvs,rfl,hb,λb0 n0=>?_⟩;have u0:=xy n0 (.dK kvs);have e0:upd H b0 (.dK kvs) b0=some (.dK kvs):=xm;generalize upd H b0 (.dK kvs)=H0 at u0 e0 ⊢;dsimp only[xF,List.set,L2.J2,Ja,jR];refine⟨_,rfl,ra,rfl,⟨_,(xJ _ _).seq ((J3 u0).seq qa)⟩,Xf (K:=K) (xs:=xs) (λi=>LdI K pool H lo ra bd pa g (JS pool ps (xS pool ps d) g (rows.take i) s)) ⟨b0,kvs,none,none,none,rfl,.of u0,n0,oa.same u0,e0,bkd⟩ (λi σ H' _ h=>?_) ?_ ?_⟩
 . obtain⟨_,_,_,_,_,_,x1,_⟩:=h;exact(xJ _ _).seq ((QB x1).seq qa)
 . rintro i x σ H' hx ⟨bk,kv,c6,c7,c8,rfl,x1,nbk,oa1,ek,bkk⟩;have hi:i < rows.length:=by have:=(jV.mp hx).1;omega
   have dy:=ids.same (QB x1);rw[Jj]at dy;obtain⟨y,ey,dy⟩:=dy.get (i:=i) (d:=dW rows[i]) (by rw[jJ,jD hi];rfl);obtain rfl:x=y:=by rw[hx]at ey;exact Option.some.inj ey
   have e:rows.take (i+1)=rows.take i++[rows[i]]:=jt hi;have sp:rows=rows.take i++(rows[i]::rows.drop (i+1)):=by rw[<- List.drop_eq_getElem_cons hi,List.take_append_drop]
   have ok':okR pool ps (okD pool ps d) Kn rows:=ok;have len':s.out.length+csR pool ps (csD pool ps d) rows<900000:=len;rw[sp,ae]at ok';rw[sp,ac]at len';obtain⟨okA,ok1_,_⟩:=ok';obtain⟨ly,subA⟩:=a9 (Qc pool ps d) (Qy pool ps d) g (rows.take i) Kn s okA dm sub;have l2:=ly.gr.len;have cs:csR pool ps (csD pool ps d) (rows[i]::rows.drop (i+1))=cs1 pool ps (csD pool ps d) rows[i]+csR pool ps (csD pool ps d) (rows.drop (i+1)):=rfl;have dmT:=ly.dm;have subT:∀n∈Kn++knR (rows.take i),n∈pool:=λn hn=>(jI.mp hn).elim (sub n) (subA n);have lenT:(JS pool ps (xS pool ps d) g (rows.take i) s).out.length+cs1 pool ps (csD pool ps d) rows[i]<900000:=by omega
   have eT:JS pool ps (xS pool ps d) g (rows.take (i+1)) s=JG pool ps (xS pool ps d) g rows[i] (JS pool ps (xS pool ps d) g (rows.take i) s):=by rw[e,cO];rfl
   rw[eT];have dpT:=dp.same (QB x1);clear ly l2 cs len' okA eT sp e;generalize JS pool ps (xS pool ps d) g (rows.take i) s=T at oa1 bkk dmT lenT ⊢;generalize rows[i]=r at dy ok1_ lenT ⊢;generalize Kn++knR (rows.take i)=Km at ok1_ dmT subT;have kl:=bkk.len;have bkl:bk≠lo:=oa1.ne ek λ_ z=>by cases z
   have bkn:bk∉[lo]:=λz=>bkl (jA.mp z);dsimp only[xF,List.set]
   cases r with
   |draw y os =>
    obtain⟨yp,o100,_⟩:=ok1_;obtain⟨t,zz,rfl,qt,_,_,rfl,rfl,_,_,rfl,rfl,xo,_,rfl,dO,rfl⟩:=dy;have len2:T.out.length+1<900000:=lenT;refine ZI rfl ((xJ _ _).tupq qt) ?_;refine⟨_,rfl,by show 2<=sizeLine;decide,λp1 n1=>?_⟩;have u1:=xy n1 (.tup [.str "num",.int 0]);refine⟨lo,T.out,.num 0,.ref p1,rfl,oa1.same u1,by omega,⟨p1,_,rfl,.of xm,_,_,rfl,rfl,_,_,rfl,rfl,rfl⟩,λH2 x2 oa2 _=>?_⟩;have x12:=(Xc.of (A:=[lo]) u1).trans x2;have h2:=QB x12;have ek2:=x12 _ _ bkn ek;obtain⟨H3,pt,x3,oa3,ek3,bk3,dex⟩:=cU (v:=nx T.out) (x1.trans x12) nbk oa2 ek2 bkk yp qU;refine⟨_,rfl,_,rfl,.inr (.inl ⟨t,_,1,.str y,rfl,rfl,(xJ _ _).tupq (h2.tupq qt),J9,bk,H3,rfl,pt,?_⟩)⟩;have dO3:=Jr dex (dO.same h2);have qt3:=Jp dex (h2.tupq qt);obtain⟨ys,hy,dys⟩:=oa3;rw[show dWs (ltv T.out (.num 0))=dWs T.out++[dW (.lett (nx T.out) (.num 0))] from QL _ _]at dys;obtain⟨ys,y1,rfl,dy0,d1⟩:=lM dys;obtain⟨t1,zz,rfl,q1,_,_,rfl,rfl,_,_,rfl,rfl,_⟩:=d1;obtain⟨lx,zs,rfl,qo,dzs⟩:=dO3;refine⟨_,rfl,1,rfl,.inl ⟨lo,_,-1,.ref t1,rfl,rfl,.of hy,ZJ _ _,.inr (.inl ⟨t1,_,1,.str (nx T.out),rfl,rfl,(xJ _ _).tupq q1,J9,_,rfl,.inr (.inl ⟨t,_,2,.ref lx,rfl,rfl,(xJ _ _).tupq qt3,JA,lx,zs,rfl,.inl ((xJ _ _).seq qo),λl nl=>⟨by show 3<=sizeLine;decide,λpt qM=>?_⟩⟩)⟩)⟩⟩;have u4:=xy nl (.lst zs);have u5:=xy qM (.tup [.str "draw",.str (nx T.out),.ref l]);have u:=u4.trans u5;have nll:l∉[lo]:=λz=>by rw[jA.mp z,hy]at nl;cases nl
    have npl:pt∉[lo]:=λz=>by rw[jA.mp z,u4 _ _ hy]at qM;cases qM
    have dn:IsD K (hid [lo] (upd (upd H3 l (.lst zs)) pt (.tup [.str "draw",.str (nx T.out),.ref l]))) (dW (.draw (nx T.out) os)) (.ref pt):=⟨pt,_,rfl,.of (xQ npl xm),_,_,rfl,rfl,_,_,rfl,rfl,_,_,rfl,⟨l,zs,rfl,.of (xQ nll (u5 _ _ xm)),dzs.same (J3 u)⟩,rfl⟩;have hy5:=u _ _ hy;have ek5:=u _ _ ek3;have dy5:=dy0.same (J3 u);have x5:=x3.trans (.of u);generalize upd (upd H3 l (.lst zs)) pt (.tup [.str "draw",.str (nx T.out),.ref l])=H5 at dn hy5 ek5 dy5 x5 ⊢;refine⟨_,rfl,1,rfl,lo,_,-1,ys.length,rfl,rfl,hy5,(by rw[jY];exact lN _),?_⟩;have es:(ys++[V.ref t1]).set ys.length (.ref pt)=ys++[.ref pt]:=by simp
    rw[es];refine⟨bk,_,_,_,_,rfl,x5.trans (Jl 'j'),nbk,⟨_,xm,?_⟩,(by rw[xz bkl];exact ek5),bk3⟩;rw[Qz 'j',show dWs (JG pool ps (xS pool ps d) g (.draw y os) T).out=_ from QL _ _];exact dy5.append ⟨_,[],rfl,dn,rfl⟩
   |lett y e =>
    obtain⟨yp,eo⟩:=ok1_;obtain⟨t,zz,rfl,qt,_,_,rfl,rfl,_,_,rfl,rfl,xe,_,rfl,de,rfl⟩:=dy;have len2:T.out.length+1<900000:=lenT;have qK:SqT K H' t [.str "let",.str y,xe]:=(xJ _ _).tupq qt;refine JM rfl qK 'f' (ZI rfl qK ?_);refine⟨_,rfl,_,rfl,.inr (.inl ⟨t,_,2,xe,rfl,rfl,qK,JA,_,rfl,e,xe,bk,kv,T.b.at,rfl,eo.1,Qm bkk dmT eo,eo.2.1,de.same (xJ _ _),ek,λpe H1 s1 d1=>?_⟩)⟩;refine⟨lo,T.out,e.ren T.b.at,.ref pe,rfl,oa1.same s1,by omega,d1,λH2 x2 oa2 _=>?_⟩;have x12:=(Xc.of (A:=[lo]) s1).trans x2;obtain⟨H3,pt,x3,oa3,ek3,bk3,_⟩:=cU (v:=nx T.out) (x1.trans x12) nbk oa2 (x12 _ _ bkn ek) bkk yp qU;exact⟨_,rfl,_,rfl,.inr (.inl ⟨t,_,1,.str y,rfl,rfl,(xJ _ _).tupq ((QB x12).tupq qt),J9,bk,H3,rfl,pt,bk,_,_,_,_,rfl,x3,nbk,oa3,ek3,bk3⟩)⟩
   |seen e =>
    have eo:OkE Km e:=ok1_;obtain⟨t,zz,rfl,qt,_,_,rfl,rfl,xe,_,rfl,de,rfl⟩:=dy;have len2:T.out.length+2<900000:=lenT;have qK:SqT K H' t [.str "seen",xe]:=(xJ _ _).tupq qt;refine JM rfl qK 'f' (JM rfl qK 'f' (vT rfl qK ?_))
    cases g with
    |none =>
     obtain⟨ys0,hy0,_⟩:=id oa1;refine⟨_,rfl,_,_,rfl,rfl,_,rfl,QN rfl ?_⟩;refine⟨_,rfl,.inl ⟨rfl,_,.of hy0⟩,_,rfl,.inr (.inl ⟨t,_,1,xe,rfl,rfl,qK,J9,_,rfl,e,xe,bk,kv,T.b.at,rfl,eo.1,Qm bkk dmT eo,eo.2.1,de.same (xJ _ _),ek,λpe H1 s1 d1=>⟨by show 2<=sizeLine;decide,λpt qM=>?_⟩⟩)⟩;have u1:=xy qM (.tup [.str "seen",.ref pe]);have npl:pt∉[lo]:=λz=>by rw[jA.mp z,s1 _ _ hy0]at qM;cases qM
     have dn:IsD K (hid [lo] (upd H1 pt (.tup [.str "seen",.ref pe]))) (dW (.seen (e.ren T.b.at))) (.ref pt):=⟨pt,_,rfl,.of (xQ npl xm),_,_,rfl,rfl,_,_,rfl,(Xm (s1 _ _ hy0) (JR _) d1).same (J3 u1),rfl⟩;obtain⟨ys,hy,yl,add⟩:=(oa1.same (s1.trans u1)).snoc;exact⟨lo,ys,.ref pt,rfl,rfl,hy,by omega,bk,kv,_,_,_,rfl,(x1.trans (.of (s1.trans u1))).trans (Jl 'j'),nbk,add _ _ dn,by rw[xz bkl];exact(s1.trans u1) _ _ ek,bkk⟩
    |some gd =>
     refine⟨_,rfl,_,_,rfl,rfl,_,rfl,xU (λc=>absurd c (ng gd rfl)) (λ_=>ZI rfl qK ?_)⟩;refine⟨_,rfl,_,rfl,.inr (.inl ⟨t,_,1,xe,rfl,rfl,qK,J9,_,rfl,e,xe,bk,kv,T.b.at,rfl,eo.1,Qm bkk dmT eo,eo.2.1,de.same (xJ _ _),ek,λpe H1 s1 d1=>?_⟩)⟩;refine⟨lo,T.out,e.ren T.b.at,.ref pe,rfl,oa1.same s1,by omega,d1,λH2 x2 oa2 _=>?_⟩;have x12:=(Xc.of (A:=[lo]) s1).trans x2;obtain⟨ys0,hy0,_⟩:=id oa2;have len3:=X3 T.out (e.ren T.b.at);dsimp only[xF,List.set];refine⟨_,rfl,.inl ⟨rfl,_,.of hy0⟩,_,rfl,by show 2<=sizeLine;decide,λp1 n1=>⟨by show 2<=sizeLine;decide,λp2 n2=>⟨_,rfl,by show 2<=sizeLine;decide,λp3 n3=>⟨by show 3<=sizeLine;decide,λp4 n4=>⟨by show 2<=sizeLine;decide,λp5 n5=>?_⟩⟩⟩⟩⟩;have u1:=xy n1 (.tup [.str "name",gdL (some gd)]);have u2:=xy n2 (.tup [.str "not",.ref p1]);have u3:=xy n3 (.tup [.str "name",.str (nx T.out)]);have u4:=xy n4 (.tup [.str "or",.ref p2,.ref p3]);have u5:=xy n5 (.tup [.str "seen",.ref p4]);have u45:=u4.trans u5;have u35:=u3.trans u45;have u25:=u2.trans u35;have u:=u1.trans u25;have npl:p5∉[lo]:=λz=>by rw[jA.mp z,(u1.trans (u2.trans (u3.trans u4))) _ _ hy0]at n5;cases n5
     have de5:IsD K _ (dE (.bi .disj (.un (.nam gd)) (.nam (nx T.out)))) (.ref p4):=⟨p4,_,rfl,.of (u5 _ _ xm),_,_,rfl,rfl,_,_,rfl,⟨p2,_,rfl,.of (u35 _ _ xm),_,_,rfl,rfl,_,_,rfl,⟨p1,_,rfl,.of (u25 _ _ xm),_,_,rfl,rfl,_,_,rfl,rfl,rfl⟩,rfl⟩,_,_,rfl,⟨p3,_,rfl,.of (u45 _ _ xm),_,_,rfl,rfl,_,_,rfl,rfl,rfl⟩,rfl⟩;have hs5:(upd (upd (upd (upd (upd H2 p1 (.tup [.str "name",gdL (some gd)])) p2 (.tup [.str "not",.ref p1])) p3 (.tup [.str "name",.str (nx T.out)])) p4 (.tup [.str "or",.ref p2,.ref p3])) p5 (.tup [.str "seen",.ref p4])) p5=some (.tup [.str "seen",.ref p4]):=xm;generalize upd (upd (upd (upd (upd H2 p1 (.tup [.str "name",gdL (some gd)])) p2 (.tup [.str "not",.ref p1])) p3 (.tup [.str "name",.str (nx T.out)])) p4 (.tup [.str "or",.ref p2,.ref p3])) p5 (.tup [.str "seen",.ref p4])=H5 at u de5 hs5 ⊢;have dn:IsD K (hid [lo] H5) (dW (.seen (.bi .disj (.un (.nam gd)) (.nam (nx T.out))))) (.ref p5):=⟨p5,_,rfl,.of (xQ npl hs5),_,_,rfl,rfl,_,_,rfl,Xm (u _ _ hy0) (JR _) de5,rfl⟩;obtain⟨ys,hy,yl,add⟩:=(oa2.same u).snoc;exact⟨lo,ys,.ref p5,rfl,rfl,hy,by omega,bk,kv,_,_,_,rfl,((x1.trans x12).trans (.of u)).trans (Jl 'j'),nbk,add _ _ dn,by rw[xz bkl];exact u _ _ (x12 _ _ bkn ek),bkk⟩
   |ifr e a c =>
    obtain⟨t,zz,ex,qt,_,_,rfl,rfl,_⟩:=id dy;obtain rfl:=ex;have qK:SqT K H' t _:=(xJ _ _).tupq qt;refine JM rfl qK 'f' (JM rfl qK 'f' (cT rfl qK 'f' (JM rfl qK 'f' (ZI rfl qK ?_))));refine⟨_,rfl,_,rfl,_,rfl,_,rfl,_,rfl,pool,Km,lo,ps,T,e,a,c,.ref t,bk,pa,kv,g,rfl,oa1,dy,ek,bkk,dpT,ng,ok1_,dmT,subT,qU,p100,lenT,λnb kv' H2 x2 f2 oa2 en bk2=>?_⟩;exact⟨nb,kv',_,_,_,rfl,x1.trans x2,oa1.free x1 f2,oa2,en,bk2⟩
   |rnd k a =>
    obtain⟨k1000,oka⟩:=ok1_;obtain⟨t,zz,rfl,qt,_,_,rfl,rfl,_,_,rfl,rfl,xa,_,rfl,da,rfl⟩:=dy;have qK:SqT K H' t [.str "rounds",.int (k:Nat),xa]:=(xJ _ _).tupq qt;have len2:T.out.length+k*csD pool ps d a<900000:=lenT;refine JM rfl qK 'f' (JM rfl qK 'f' (cT rfl qK 'f' (JM rfl qK 'f' (JM rfl qK 'f' (ZI rfl qK ?_)))));refine⟨_,rfl,.inr (.inl ⟨t,_,1,.int (k:Nat),rfl,rfl,qK,J9,_,rfl,by omega,by omega,?_⟩)⟩;rw[ja];refine QS (λi σ H2=>∃(bk:xb) (kv:List (Key×V)) (c8:Option V),σ=[some (.ref lo),some (.ref ra),some (.ref bd),some (gdL g),some (.ref pa),some (.ref bk),some (.ref t),c7,c8]/\Xc [lo] H' H2/\H bk=none/\OutA K H2 lo (Nat.rec (motive:=λ_=>LB) T (λ_ t=>xS pool ps d a g t) i).out/\H2 bk=some (.dK kv)/\BkD pool kv (Nat.rec (motive:=λ_=>LB) T (λ_ t=>xS pool ps d a g t) i).b) ⟨bk,kv,c8,rfl,.of (Same.refl _),nbk,oa1,ek,bkk⟩ (λi σ H2 hi h=>?_) (λσ H2 h=>?_)
    . obtain⟨bk2,kv2,c8,rfl,x2,nb2,oa2,ek2,bkk2⟩:=h;obtain⟨ly,lk⟩:=a8 (Qc pool ps d) (Qy pool ps d) g T oka dmT subT i;have lg:=ly.gr.len;obtain⟨U,eU⟩:∃U,U=(Nat.rec (motive:=λ_=>LB) T (λ_ t=>xS pool ps d a g t) i):=⟨_,rfl⟩;rw[<- eU]at ly lg oa2 bkk2;have mi:(i+1)*csD pool ps d a<=k*csD pool ps d a:=Nat.mul_le_mul_right _ hi;rw[Nat.succ_mul]at mi;have sub':∀n∈Km++(if 0<i then knR a else []),n∈pool:=λn hn=>(jI.mp hn).elim (subT n) (lk n);have h2:=QB x2;dsimp only[xF,List.set];exact⟨_,rfl,_,rfl,.inr (.inl ⟨t,_,2,xa,rfl,rfl,(xJ _ _).tupq (h2.tupq qt),JA,_,rfl,_,rfl,_,rfl,pool,_,lo,ps,U,a,xa,bk2,pa,kv2,g,rfl,oa2,da.same h2,ek2,bkk2,dpT.same h2,ng,Qy pool ps d _ _ _ (λn hn=>ji _ hn) oka,ly.dm,sub',qU,p100,by omega,λnb kv' H3 x3 f3 oa3 en bk3=>⟨nb,kv',_,rfl,x2.trans x3,oa2.free (x1.trans x2) f3,by rw[eU]at oa3;exact oa3,en,by rw[eU]at bk3;exact bk3⟩⟩)⟩
    . obtain⟨bk2,kv2,c8,rfl,x2,nb2,oa2,ek2,bkk2⟩:=h;exact⟨bk2,kv2,_,_,_,rfl,x1.trans x2,nb2,oa2,ek2,bkk2⟩
   |call y p es =>
    obtain⟨yp,qq,fq,_⟩:=id ok1_;obtain⟨t,zz,ex,qt,_,_,rfl,rfl,_,_,rfl,rfl,_⟩:=id dy;obtain rfl:=ex;have qK:SqT K H' t _:=(xJ _ _).tupq qt;refine JM rfl qK 'f' (JM rfl qK 'f' (cT rfl qK 'f' (JM rfl qK 'f' (JM rfl qK 'f' (JM rfl qK 'f' ?_)))));have ecs:cs1 pool ps (csD pool ps d) (.call y p es)=1+es.length+csD pool ps d qq.rs:=by show(match fnd ps p with|none=>0|some q=>_)=_;rw[fq]
    have ely:JG pool ps (xS pool ps d) g (.call y p es) T=⟨ltv (xS pool ps d qq.rs g (args T.b (qq.pa.zip es) T.out)).out (qq.e.ren (xS pool ps d qq.rs g (args T.b (qq.pa.zip es) T.out)).b.at),T.b.put y (nx (xS pool ps d qq.rs g (args T.b (qq.pa.zip es) T.out)).out)⟩:=by show(match fnd ps p with|none=>T|some q=>_)=_;rw[fq]
    rw[ely];rw[ecs]at lenT;refine⟨_,rfl,_,rfl,_,rfl,_,rfl,_,rfl,pool,Km,lo,ps,T,y,p,es,qq,.ref t,bk,pa,kv,g,rfl,oa1,dy,ek,bkk,dpT,ng,fq,ok1_,dmT,subT,qU,p100,lenT,λH2 x2 oa2=>?_⟩;obtain⟨H3,pt,x3,oa3,ek3,bk3,_⟩:=cU (v:=nx (xS pool ps d qq.rs g (args T.b (qq.pa.zip es) T.out)).out) (x1.trans x2) nbk oa2 (x2 _ _ bkn ek) bkk yp qU;exact⟨_,rfl,_,rfl,.inr (.inl ⟨t,_,1,.str y,rfl,rfl,(xJ _ _).tupq ((QB x2).tupq qt),J9,bk,H3,rfl,pt,bk,_,_,_,_,rfl,x3,nbk,oa3,ek3,bk3⟩)⟩
 . rintro σ H' ⟨bk,kv,c6,c7,c8,rfl,x1,nbk,oa1,ek,bkk⟩;rw[xl,j9]at oa1 bkk;exact⟨_,rfl,q bk kv H' x1 nbk oa1 ek bkk⟩
theorem lO(B:Bl mg)(JB:Def P w K mg base "_law_renamed" 12 ["_law_e", "_law_book"] (JT K 10))(Jt:Def P w K mg base "_law_value" 1 ["_law_out", "_law_e"] (XY K))(Xn:Def P w K mg base "_law_under" 1 ["_law_guard", "_law_e"] (ap K))(FL:Fn K mg "_law_laid" Zu ["_law_out", "_law_rows_here", "_law_before", "_law_guard", "_law_parts"])(FC:Fn K mg "_law_choice" Zs ["_law_out", "_law_row", "_law_book", "_law_guard", "_law_parts"])(FK:Fn K mg "_law_called" Zt ["_law_out", "_law_row", "_law_book", "_law_guard", "_law_parts"]):∀d,Def P w K mg base "_law_laid" (12+2*d) ["_law_out", "_law_rows_here", "_law_before", "_law_guard", "_law_parts"] (XZ K d)
 |0=>by
  refine FL.ok X0 (λvs H Q E h=>?_) (λf qF A outer s H vs Q E hr h=>?_)
  . obtain⟨pool,Kn,lo,ps,s,rows,x,bd,pa,kvs,g,rfl,_⟩:=h;rfl
  . obtain⟨pool,Kn,lo,ps,s,rows,x,bd,pa,kvs,g,rfl,oa,dx,hb,bkd,dp,ng,ok,_⟩:=h;exact ok.elim
 |d+1=>by
  have D:=lO B JB Jt Xn FL FC FK d;exact vU (j:=12+2*d) 'd' B JB Jt D (vQ 'd' B JB Jt Xn D FC) (vS 'd' B JB Jt D FK) FL
def lP:Sp:=λvs H Q _=>∃a b,vs=[.int a,.int b]/\0<=a/\a<=10 ^ 12/\0<b/\b<=10 ^ 12/\∀g,0<g->g<=10 ^ 12->Q (.int g) H
def vX(B:Bl mg)(F:Fn K mg "_law_common" Yu ["_law_one_here", "_law_other"]):Def P w K mg base "_law_common" 1 ["_law_one_here", "_law_other"] lP:=by
 refine F.ok YU (λvs H Q E h=>?_) (λf qF A outer s H vs Q E hr h=>?_)
 . obtain⟨a,b,rfl,_⟩:=h;rfl
 obtain⟨a,b,rfl,ha,ha2,hb,hb2,q⟩:=h
 refine⟨_,(@xu _ _ _ _ _ (eM PassesOwn.never (xK QI (pv 1) xi (xN _)) (@xu _ _ _ _ _ (xM (i:=2) YU.nd rfl 'b' (xx xV (pv 0) (pv 1)))
  (@xu _ _ _ _ _ (xM (i:=0) YU.nd rfl 'b' (pv 1))
  (@xw _ _ _ (xM (i:=1) YU.nd rfl 'b' (pv 2))))))
  (@xw _ _ _ (xP (pv 0)))),?_⟩
 refine eO (λσ H'=>H'=H/\∃x y r,σ=[some (.int x),some (.int y),r]/\0<=x/\x<=10 ^ 12/\0<=y/\y<=10 ^ 12/\(0<x\/0<y))
  (λσ _=>match σ with | [_,some (.int y),_]=>y.toNat|_=>0) ?_ ?_ ?_
 . exact⟨rfl,_,_,_,rfl,ha,ha2,by omega,hb2,.inr hb⟩
 . rintro σ H' ⟨rfl,x,y,r,rfl,hx,hx2,hy,hy2,e⟩;walk_at "rd";refine xU (λc=>?_) (λc=>?_)
   . refine⟨_,rfl,_,rfl,_,_,rfl,rfl,c,?_⟩;walk_at "rd";have h1:=Int.emod_nonneg x (show y≠0 by omega);have h2:=Int.emod_lt_of_pos x c;refine⟨⟨rfl,_,_,_,rfl,hy,hy2,h1,by omega,.inl c⟩,?_⟩;show(x % y).toNat<y.toNat;omega
   . walk_at "rd";exact q x 'd' hx2
 . rintro σ H' R R' m ⟨v,e,h⟩;refine⟨v,e,?_⟩;obtain⟨i,j,e1,e2,k,e3,h⟩:=h;exact⟨i,j,e1,e2,k,e3,m _ _ h⟩
def lQ{ix:qC}{wi:TI}{te:TE}{D:Ends}(h:wi σ H (JQ ix te σ D.rt)):aV (JL ix wi Q9 te) D σ H:=h
def lR(nm:qB):Prop:=nm.length=6/\nm.Nodup/\∀n∈nm,n ≠ "f" /\ n ≠ "fo"
def lU:Sp:=λvs H Q _=>∃c:Int,vs=[.int c]/\∀(p:xb) (nm:qB) (H':Hp),Same H H'->H p=none->H' p=some (.lst (nm.map V.str))->lR nm->Q (.ref p) H'
def cV{c:TT}{t u v:TS}{D:Ends}(Pj:St->Hp->Prop)(hc:∀Q:Bool->Hp->Prop,(∀b H',Same H H'->Q b H')->c σ H Q)(h:∀qI H',Pj qI H'->v D qI H')
 (h1:∀H' R,Same H H'->(∀qI qH,Pj qI qH->R qI qH)->t ⟨R,D.rt,D.bk,D.ct⟩ σ H') (h2:∀H' R,Same H H'->(∀qI qH,Pj qI qH->R qI qH)->u ⟨R,D.rt,D.bk,D.ct⟩ σ H'):Qf (QR c t u) v D σ H :=
 hc _ λb H' s=>by cases b with
  |true=>exact Jc (h1 H' (v D) s h)
  |false=>exact xY (h2 H' (v D) s h)
def lV{v:V}{g:TG}{u:TS}{D:Ends}(h:g v σ H (u D)):Qf (Qr (tC v) g) u D σ H:=h
def vY(x:Int):∃ch,atI ("xq" : Str).cps.toList (x % 2)=some ch/\(ch=120\/ch=113):=by
 have h:x % 2=0\/x % 2=1:=by omega
 rcases h with h|h<;>rw[h]<;>exact⟨_,rfl,by decide⟩
def vZ(a b:Str):(a++b).length=a.length+b.length:=Array.size_append ..
def w6(a b:Str):(a++b).cps.toList=a.cps.toList++b.cps.toList:=by
 show(a.cps++b.cps).toList=_;simp
def w8{A B:Str}{l:qC}(h:l.Nodup):(l.map λc=>A++(⟨#[c]⟩:Str)++B).Nodup:=by
 rw[List.nodup_iff_pairwise_ne,List.pairwise_map];refine List.Pairwise.imp ?_ (List.nodup_iff_pairwise_ne.mp h);intro a b ne e;have e:=kN (λs:Str=>s.cps.toList) e;simp only[w6]at e;have e:=List.append_cancel_left (List.append_cancel_right e);exact ne (by simpa using e)
def wa:∀(sz pl:Fin 9) (a b:Bool),2<=sz.val->pl.val<sz.val->((if b then("908172" : Str) else "fedcba").cps.toList.all λk=>decide ((Txt.mul ⟨#[if a then 120 else 113]⟩ (pl.val:Nat)++⟨#[k]⟩++Txt.mul ⟨#[if a then 120 else 113]⟩ ((sz.val:Nat) - 1 - (pl.val:Nat):Int):Str) ≠ "f" /\ (Txt.mul ⟨#[if a then 120 else 113]⟩ (pl.val:Nat)++⟨#[k]⟩++Txt.mul ⟨#[if a then 120 else 113]⟩ ((sz.val:Nat) - 1 - (pl.val:Nat):Int):Str) ≠ "fo"))=true:=by decide +kernel
def wb(B:Bl mg)(F:Fn K mg "_law_names" Yv ["_law_cell"]):Def P w K mg base "_law_names" 1 ["_law_cell"] lU:=by
 refine F.ok XQ (λvs H Q E h=>?_) (λf qF A outer s H vs Q E hr h=>?_)
 . obtain⟨c,rfl,_⟩:=h;rfl
 obtain⟨c,rfl,q⟩:=h;have big:(100000:Nat)<sizeLine:=by decide
 refine⟨_,(@xu _ _ _ _ _ (xM (i:=1) XQ.nd rfl 'b' (xx (J7.or QT) xi (xx xV (pv 0) xi)))
  (@xu _ _ _ _ _ (xM (i:=2) XQ.nd rfl 'b' (xx xV (xx J6 (pv 0) xi) (pv 1)))
  (@xu _ _ _ _ _ (xM (i:=3) XQ.nd rfl 'b' (xD (xE K rfl) xt (xx xV (xx J6 (pv 0) xi) xi) (λ_ _=>rfl)))
  (@xu _ _ _ _ _ (xM (i:=4) XQ.nd rfl 'b' xt)
  (@xu _ _ _ _ _ (xO (PW.pt (JW (xK Ji (xx xV (xx J6 (pv 0) xi) xi) xi (xN _)) (Qq (xK QI (pv 2) xi (xN _))))) (@xw _ _ _ (xM (i:=4) XQ.nd rfl 'b' xt)) xX)
  (@xw _ _ _ (xP (Qa (CompOk.of (x := "_law_sign") (M:=["_law_rest", "_law_place", "_law_size"]) (ix:=[3,2,1]) rfl rfl (by decide +kernel) (by decide +kernel) rfl ⟨rfl,⟨rfl,⟨rfl,trivial⟩⟩⟩ 'g' ⟨⟨rfl,rfl,rfl,rfl⟩,⟨⟨rfl,rfl,rfl,rfl⟩,⟨⟨rfl,rfl,rfl,rfl⟩,trivial⟩⟩⟩) rfl (by decide +kernel) (sk (pv 4)) (λ_ _ _ _ _=>JP) (λ_ _ _ _ _=>(xx (J7.or QT) (xx (J7.or QT) (xx bD (pv 1) (pv 2)) (pv 0)) (xx bD (pv 1) (xx ZX (xx ZX (pv 3) xi) (pv 2))))))))))))),?_⟩
 refine⟨_,rfl,_,_,rfl,rfl,(by show(0:Int)<7;decide),.inl ⟨_,_,rfl,rfl,?_⟩⟩;have z1:2<=2+c % 7/\2+c % 7<=8:=by omega
 dsimp only[xF];generalize 2+c % 7=sz at z1;refine⟨_,rfl,_,_,rfl,rfl,⟨by decide,by decide⟩,_,rfl,_,_,rfl,rfl,(by omega),?_⟩;have p0:=Int.emod_nonneg (c / 7) (show sz≠0 by omega);have p1:=Int.emod_lt_of_pos (c / 7) (show 0<sz by omega);dsimp only[xF];generalize c / 7 % sz=pl at p0 p1;obtain⟨ch,ech,hch⟩:=vY (c / 56);refine⟨_,rfl,_,_,rfl,rfl,⟨by decide,by decide⟩,_,_,rfl,rfl,(by show(0:Int)<2;decide),.inr (.inr ⟨_,_,ch,rfl,rfl,by decide,ech,?_⟩)⟩;dsimp only[xF];refine lV ?_;dsimp only[xF];refine cV (λσ H2=>∃so:Str,σ=[some (.int c),some (.int sz),some (.int pl),some (.str ⟨#[ch]⟩),some (.str so)]/\Same H H2/\(so = "fedcba" \/ so = "908172")) (λQ' hQ=>?_) ?_ (λH2 R s2 hR=>by show R _ _;exact hR _ _ ⟨_,rfl,s2,.inr rfl⟩) (λH2 R s2 hR=>by show R _ _;exact hR _ _ ⟨_,rfl,s2,.inl rfl⟩)
 . exact⟨_,rfl,_,_,rfl,rfl,⟨by decide,by decide⟩,_,_,rfl,rfl,(by show(0:Int)<2;decide),_,_,rfl,rfl,_,rfl,xU (λ_=>⟨_,rfl,_,_,rfl,rfl,_,rfl,hQ _ _ (Same.refl _)⟩) (λ_=>hQ _ _ (Same.refl _))⟩
 rintro σ H2 ⟨so,rfl,s2,hso⟩;have so8:so.cps.size=6/\so.cps.toList.Nodup:=by rcases hso with rfl|rfl<;>exact⟨by decide +kernel,by decide +kernel⟩
 refine lQ ⟨_,rfl,so,rfl,?_⟩;refine QY (λ(_:Hp) (x:Str) v=>v=V.str x) (λ_ h=>h) so.cps.size (λi => .str ⟨#[so.cps.getD i 0]⟩) (so.cps.toList.map λk=>Txt.mul ⟨#[ch]⟩ pl++⟨#[k]⟩++Txt.mul ⟨#[ch]⟩ (sz - 1 - pl)) (by rw[jC,jW]) (by rw[so8.1];omega) (λ_ _=>jG _) (λi H' hi sm=>⟨hi,λx qH hy=>?_⟩) (λi x Da H' R hi ei s' nD oD hR=>?_) (λp H' ys s' np ep pr=>?_)
 . obtain⟨e,k,h1,h2⟩:=hy;refine⟨?_,e⟩;rw[h2];have e2:so.cps[i]=k:=Option.some.inj ((jf hi).symm.trans h1);simp[Array.getD,hi,e2]
 . have e1:so.cps.toList[i]? = some (so.cps.getD i 0):=by simp[Array.getD,hi]
   rw[jJ,e1]at ei
   cases ei
   have m1:=bC ⟨#[ch]⟩ pl (by show(1:Nat)<=10;decide) 'd';have m2:=bC ⟨#[ch]⟩ (sz - 1 - pl) (by show(1:Nat)<=10;decide) 'd';refine⟨_,rfl,_,rfl,_,_,rfl,rfl,(by show(1:Nat)<=10;decide),by omega,by omega,_,rfl,.inr ⟨_,_,rfl,rfl,(by show _+1<=sizeLine;omega),?_⟩⟩;refine⟨_,rfl,_,rfl,_,_,rfl,rfl,_,rfl,_,_,rfl,rfl,_,_,rfl,rfl,(by show(1:Nat)<=10;decide),by omega,by omega,.inr ⟨_,_,rfl,rfl,(by rw[vZ];show _+1+_<=sizeLine;omega),hR _ _ (Same.refl _) rfl⟩⟩
 . have ey:=ZH pr;subst ey;refine q p _ H' (s2.trans s') (s2.free np) ep ⟨by rw[jC,jW];exact so8.1,w8 so8.2,λn hn=>?_⟩;obtain⟨k,hk,rfl⟩:=jn.mp hn;obtain⟨z,rfl⟩:∃z:Nat,sz=z:=⟨sz.toNat,by omega⟩;obtain⟨y,rfl⟩:∃y:Nat,pl=y:=⟨pl.toNat,by omega⟩;have:=wa ⟨z,by omega⟩ ⟨y,by omega⟩ (decide (ch=120)) (decide (so = "908172")) (by show 2<=z;omega) (by show y < z;omega);rw[List.all_eq_true]at this;have ec:(if decide (ch=120)=true then 120 else 113)=ch:=by rcases hch with rfl | rfl<;>decide
   have es:(if decide (so = "908172")=true then("908172" : Str) else "fedcba")=so:=by rcases hso with rfl|rfl<;>decide
   rw[es]at this;have:=kS (this k hk);rw[ec]at this;exact this
def StR(K:qu)(H:Hp)(st:xb)(now:qB):Prop:=∃(kvs:List (Key×V)) (lg:xb) (l0 l1:Int) (fl:xb) (pre:List V) (f:xb) (fk:List (Key×V)) (n6:xb),H st=some (.dK kvs)/\valV kvs (.inr "large")=some (.ref lg)/\SqL K H lg [.int l0,.int l1]/\valV kvs (.inr "frames")=some (.ref fl)/\SqL K H fl (pre++[.ref f])/\H f=some (.dK fk)/\valV fk (.inr "now")=some (.ref n6)/\SqL K H n6 (now.map V.str)/\now.length<=100
def StR.same(h:StR K H st now)(s:Same H H'):StR K H' st now:=by
 obtain⟨kvs,lg,l0,l1,fl,pre,f,fk,n6,h1,h2,h3,h4,h5,h6,h7,h8,h9⟩:=h;exact⟨kvs,lg,l0,l1,fl,pre,f,fk,n6,s _ _ h1,h2,s.seq h3,h4,s.seq h5,s _ _ h6,h7,s.seq h8,h9⟩
def xT(e:H a=some (.dK kvs))(h:valV kvs (.inr k)=some v):DGet H a (.str k) (some v):=by
 have:=DGet.k (k := .inr k) e
 rwa [h]at this
def cW(K:qu):Sp:=λvs H Q _=>∃(st:xb) (c:Int) (now:qB),vs=[.ref st,.int c]/\StR K H st now/\∀n,Q (.int n) H
def wc(B:Bl mg)(F:Fn K mg "_law_number" Yw ["_law_state", "_law_cell"]):Def P w K mg base "_law_number" 1 ["_law_state", "_law_cell"] (cW K):=by
 refine F.ok uP (λvs H Q E h=>?_) (λf qF A outer s H vs Q E hr h=>?_)
 . obtain⟨st,c,now,rfl,_⟩:=h;rfl
 obtain⟨st,c,now,rfl,sr,q⟩:=h
 refine⟨_,(@xu _ _ _ _ _ (xO (xK Ji (xx xV (pv 1) xi) xi (xN _)) (@xw _ _ _ (xP (xD (xE K rfl) (xL (xG hr) (pv 0) xt (λ_ _=>rfl)) (xx xV (xx J6 (pv 1) xi) xi) (λ_ _=>rfl)))) xX)
  (@xw _ _ _ (xP (xx xV (xx J6 (pv 1) xi) xi)))),?_⟩
 obtain⟨kvs,lg,l0,l1,fl,pre,f,fk,n6,h1,h2,h3,h4,h5,h6,h7,h8,h9⟩:=sr;refine⟨_,rfl,_,_,rfl,rfl,(by show(0:Int)<4;decide),_,_,rfl,rfl,_,rfl,xU (λ_=>?_) (λ_=>nxt ?_)⟩
 . have hk:c / 4 % 2=0\/c / 4 % 2=1:=by omega
   refine⟨_,rfl,st,_,rfl,xT h1 h2,_,rfl,_,_,rfl,rfl,⟨by decide,by decide⟩,_,_,rfl,rfl,(by show(0:Int)<2;decide),?_⟩;rcases hk with e|e
   . exact .inl ⟨lg,_,_,.int l0,rfl,rfl,h3,(by rw[e];exact J0),q _⟩
   . exact .inl ⟨lg,_,_,.int l1,rfl,rfl,h3,(by rw[e];exact J9),q _⟩
 . exact⟨_,rfl,_,_,rfl,rfl,⟨by decide,by decide⟩,_,_,rfl,rfl,(by show(0:Int)<3;decide),q _⟩
def EOk(now:qB)(h:Nat)(e:Ex):Prop:=e.ok/\e.high<=h/\∀n∈e.rds,n∈now
def QO(K:qu)(h:Nat):Sp:=λvs H Q _=>∃(st:xb) (c:Int) (now:qB),vs=[.ref st,.int c]/\StR K H st now/\∀(p:xb) (e:Ex) (H':Hp),Same H H'->IsA K H H' (dE e) (.ref p)->EOk now h e->Q (.ref p) H'
def Z0(s:Same H0 H1)(np:H1 p=none)(ha:IsA K H0 H1 da a)(hb:IsA K H0 H1 db b):IsA K H0 (upd H1 p (.tup [a,b])) (.tup [da,db]) (.ref p):=cB s np λA al=>⟨a,_,rfl,ha A al,b,_,rfl,hb A al,rfl⟩
def X9(s:Same H0 H1)(np:H1 p=none)(ha:IsA K H0 H1 da a)(hb:IsA K H0 H1 db b)(hc:IsA K H0 H1 dc c):IsA K H0 (upd H1 p (.tup [a,b,c])) (.tup [da,db,dc]) (.ref p):=cB s np λA al=>⟨a,_,rfl,ha A al,b,_,rfl,hb A al,c,_,rfl,hc A al,rfl⟩
def we(s:Same H0 H1)(np:H1 p=none)(ha:IsA K H0 H1 da a)(hb:IsA K H0 H1 db b)(hc:IsA K H0 H1 dc c)(hd:IsA K H0 H1 dd d):IsA K H0 (upd H1 p (.tup [a,b,c,d])) (.tup [da,db,dc,dd]) (.ref p):=cB s np λA al=>⟨a,_,rfl,ha A al,b,_,rfl,hb A al,c,_,rfl,hc A al,d,_,rfl,hd A al,rfl⟩
def JI(x:Str):IsA K H0 H (.str x) (.str x):=λ_ _=>rfl
def cX(x:Int):IsA K H0 H (.int x) (.int x):=λ_ _=>rfl
def au{α:Type}(l:List α)(c:Int)(h:0<l.length):∃x,atI l (c % (l.length:Nat))=some x/\x∈l:=by
 have h0:=Int.emod_nonneg c (show((l.length:Nat):Int)≠0 by omega);have h1:=Int.emod_lt_of_pos c (show(0:Int)<(l.length:Nat) by omega);obtain⟨n,e⟩:∃n:Nat,c % (l.length:Nat)=n:=⟨(c % (l.length:Nat)).toNat,by omega⟩;rw[e]at h1 ⊢;exact⟨l[n]'(by omega),Jx (jD _),jp _⟩
theorem wf(B:Bl mg)(Xo:Def P w K mg base "_law_number" 1 ["_law_state", "_law_cell"] (cW K))(F:Fn K mg "_law_single" Yx ["_law_state", "_law_cell"]):Def P w K mg base "_law_single" 2 ["_law_state", "_law_cell"] (QO K 0):=by
 refine F.ok iw (λvs H Q E h=>?_) (λf qF A outer s H vs Q E hr h=>?_)
 . obtain⟨st,c,now,rfl,_⟩:=h;rfl
 obtain⟨st,c,now,rfl,sr,q⟩:=h
 refine⟨_,(@xu _ _ _ _ _ (xM (i:=2) iw.nd rfl 'b' (xL (xG hr) (xD (xE K rfl) (xL (xG hr) (pv 0) xt (λ_ _=>rfl)) (Xw Xx xi) (λ_ _=>rfl)) xt (λ_ _=>rfl)))
  (@xu _ _ _ _ _ (xO (PW.pt (aS (xK Ji (J5 (JF K rfl) rfl B.len PySem.boot_len (@xj _ _ _ _ _ (pv 2) xk rfl)) xi (xN _)) (aR (xK Ji (xx xV (pv 1) xi) xi (xN _))))) (@xw _ _ _ (xP (@xZ _ _ _ _ _ _ _ xt (xI Xo hr rfl (@xj _ _ _ _ _ (pv 0) (@xj _ _ _ _ _ (xx J6 (pv 1) xi) xk rfl) rfl)) rfl rfl))) xX)
  (@xw _ _ _ (xP (@xZ _ _ _ _ _ _ _ xt (xD (xE K rfl) (pv 2) (xx xV (xx J6 (pv 1) xi) (J5 (JF K rfl) rfl B.len PySem.boot_len (@xj _ _ _ _ _ (pv 2) xk rfl))) (λ_ _=>rfl)) rfl rfl))))),?_⟩
 obtain⟨kvs,lg,l0,l1,fl,pre,f,fk,n6,h1,h2,h3,h4,h5,h6,h7,h8,h9⟩:=id sr;refine⟨_,rfl,st,_,rfl,xT h1 h4,1,rfl,.inl ⟨fl,_,-1,.ref f,rfl,rfl,h5,ZJ _ _,f,_,rfl,xT h6 h7,?_⟩⟩;have z2:2<=sizeLine:=by decide
 have qJ:∀n p,H p=none->Q (.ref p) (upd H p (.tup [.str "num",.int n])):=λn p np=>q p (.num n) _ (xy np _) (Z0 (.refl _) np (JI _) (cX _)) ⟨trivial,jG _,λ_ h=>nomatch h⟩;dsimp only[xF,List.set,L2.J2,jR];refine⟨_,rfl,_,_,rfl,JZ h8,_,_,rfl,rfl,_,rfl,xU (λ_=>Jc ?_) (λz=>⟨_,rfl,_,_,rfl,rfl,(by show(0:Int)<5;decide),_,_,rfl,rfl,_,rfl,xU (λ_=>?_) (λ_=>nxt ?_)⟩)⟩
 . exact⟨_,rfl,_,rfl,_,_,rfl,rfl,⟨by decide,by decide⟩,st,_,now,rfl,sr,λn=>⟨z2,λp np=>qJ n p np⟩⟩
 . exact⟨_,rfl,_,rfl,_,_,rfl,rfl,⟨by decide,by decide⟩,st,_,now,rfl,sr,λn=>⟨z2,λp np=>qJ n p np⟩⟩
 . have hl:0 < (now.map V.str).length:=by omega
   obtain⟨v,ev,hv⟩:=au (now.map V.str) (c / 5) hl;obtain⟨n,hn,rfl⟩:=jn.mp hv;refine⟨_,rfl,_,rfl,_,_,rfl,rfl,⟨by decide,by decide⟩,_,rfl,_,_,rfl,JZ h8,_,_,rfl,rfl,(by omega),.inl ⟨n6,_,_,.str n,rfl,rfl,h8,ev,z2,λp np=>?_⟩⟩;exact q p (.nam n) _ (xy np _) (Z0 (.refl _) np (JI _) (JI _)) ⟨trivial,jG _,λm h=>by rw[jA.mp h];exact hn⟩
def EOk.up(o:EOk now h e)(l:h<=h'):EOk now h' e:=⟨o.1,je o.2.1 l,o.2.2⟩
theorem EOk.bi(t:s.two=true)(ha:EOk now h a)(hb:EOk now h b):EOk now (h+1) (.bi s a b):=⟨⟨t,ha.1,hb.1⟩,jv (Nat.max_le.mpr ⟨ha.2.1,hb.2.1⟩),λn hn=>(jI.mp hn).elim (ha.2.2 n) (hb.2.2 n)⟩
theorem EOk.un(ha:EOk now h a):EOk now (h+1) (.un a):=⟨ha.1,jv ha.2.1,ha.2.2⟩
theorem EOk.pick(ha:EOk now h a)(hb:EOk now h b)(hc:EOk now h c):EOk now (h+1) (.pick a b c):=⟨⟨ha.1,hb.1,hc.1⟩,jv (Nat.max_le.mpr ⟨ha.2.1,Nat.max_le.mpr ⟨hb.2.1,hc.2.1⟩⟩),λn hn=>(jI.mp hn).elim (ha.2.2 n) λz=>(jI.mp z).elim (hb.2.2 n) (hc.2.2 n)⟩
theorem EOk.num(n:Int):EOk now h (.num n):=⟨trivial,jS _,λ_ z=>nomatch z⟩
def wg(B:Bl mg)(Xo:Def P w K mg base "_law_number" 1 ["_law_state", "_law_cell"] (cW K))(ZK:Def P w K mg base "_law_single" 2 ["_law_state", "_law_cell"] (QO K 0))(F:Fn K mg "_law_expr" Yy ["_law_state", "_law_cell"]):Def P w K mg base "_law_expr" 3 ["_law_state", "_law_cell"] (QO K 3):=by
 refine F.ok YV (λvs H Q E h=>?_) (λf qF A outer s H vs Q E hr h=>?_)
 . obtain⟨st,c,now,rfl,_⟩:=h;rfl
 obtain⟨st,c,now,rfl,sr,q⟩:=h
 refine⟨_,(@xu _ _ _ _ _ (xM (i:=2) YV.nd rfl 'b' (xx xV (xx JE (xx xV (pv 1) xi) xi) xi))
  (@xu _ _ _ _ _ (xM (i:=3) YV.nd rfl 'b' (xI ZK hr rfl (@xj _ _ _ _ _ (pv 0) (@xj _ _ _ _ _ (xx J6 (pv 1) xi) xk rfl) rfl)))
  (@xu _ _ _ _ _ (xM (i:=4) YV.nd rfl 'b' (xI ZK hr rfl (@xj _ _ _ _ _ (pv 0) (@xj _ _ _ _ _ (pv 2) xk rfl) rfl)))
  (@xu _ _ _ _ _ (xO (xK Ji (xx xV (pv 1) xi) xi (xN _)) (@xw _ _ _ (xP (pv 3))) xX)
  (@xu _ _ _ _ _ (xO (xK Ji (xx xV (pv 1) xi) xi (xN _)) (@xw _ _ _ (xP (@Jq _ _ _ _ _ _ _ _ _ xt (pv 3) (@xZ _ _ _ _ _ _ _ xt (xI Xo hr rfl (@xj _ _ _ _ _ (pv 0) (@xj _ _ _ _ _ (pv 2) xk rfl) rfl)) rfl rfl) rfl rfl rfl))) xX)
  (@xu _ _ _ _ _ (xO (xK Ji (xx xV (pv 1) xi) xi (xN _)) (@xw _ _ _ (xP (@Jq _ _ _ _ _ _ _ _ _ xt (pv 3) (pv 4) rfl rfl rfl))) xX)
  (@xu _ _ _ _ _ (xO (xK Z8 (xx xV (pv 1) xi) xi (xN _)) (@xw _ _ _ (xP (@Jq _ _ _ _ _ _ _ _ _ xt (pv 3) (pv 4) rfl rfl rfl))) xX)
  (@xu _ _ _ _ _ (xO (xK Ji (xx xV (pv 1) xi) xi (xN _)) (@xw _ _ _ (xP (@Jq _ _ _ _ _ _ _ _ _ xt (pv 3) (pv 4) rfl rfl rfl))) xX)
  (@xu _ _ _ _ _ (xO (xK Ji (xx xV (pv 1) xi) xi (xN _)) (@xw _ _ _ (xP (@Xg _ _ _ _ _ _ _ _ _ _ _ xt (pv 3) (pv 4) (xI ZK hr rfl (@xj _ _ _ _ _ (pv 0) (@xj _ _ _ _ _ (xx J6 (pv 2) xi) xk rfl) rfl)) rfl rfl rfl rfl))) xX)
  (@xu _ _ _ _ _ (xO (xK Ji (xx xV (pv 1) xi) xi (xN _)) (@xw _ _ _ (xP (@Jq _ _ _ _ _ _ _ _ _ xt (@xZ _ _ _ _ _ _ _ xt (pv 3) rfl rfl) (pv 4) rfl rfl rfl))) xX)
  (@xw _ _ _ (xP (@Jq _ _ _ _ _ _ _ _ _ xt (pv 3) (@xZ _ _ _ _ _ _ _ xt (@Jq _ _ _ _ _ _ _ _ _ xt (pv 4) (@xZ _ _ _ _ _ _ _ xt (xI Xo hr rfl (@xj _ _ _ _ _ (pv 0) (@xj _ _ _ _ _ (xx J6 (pv 2) xi) xk rfl) rfl)) rfl rfl) rfl rfl rfl) rfl rfl) rfl rfl rfl))))))))))))),?_⟩
 have z2:2<=sizeLine:=by decide
 have z3:3<=sizeLine:=by decide
 have z4:4<=sizeLine:=by decide
 refine⟨_,rfl,_,_,rfl,rfl,(by show(0:Int)<65521;decide),_,_,rfl,rfl,IntMulOk.of_right 'f',_,_,rfl,rfl,(by show(0:Int)<65519;decide),?_⟩;dsimp only[xF,List.set,L2.J2,jR];generalize c % 65521*48271 % 65519=mi;refine⟨_,rfl,_,rfl,_,_,rfl,rfl,⟨by decide,by decide⟩,st,_,now,rfl,sr,λpa ea H1 s1 a1 o1=>?_⟩;dsimp only[xF,List.set];refine⟨_,rfl,_,rfl,st,_,now,rfl,sr.same s1,λpb eb H2 s2 a2 o2=>?_⟩;dsimp only[xF,List.set];have s02:=s1.trans s2;have a1:=a1.same s2;have a2:=a2.back s1;have sr2:=sr.same s02;have up:∀{e:Ex}{h:Nat}{p:xb}{H':Hp},Same H2 H'->h<=3->IsA K H H' (dE e) (.ref p)->EOk now h e->Q (.ref p) H':=λs h a o=>q _ _ _ (s02.trans s) a (o.up h);have t9:(0:Int)<9:=by decide
 refine⟨_,rfl,_,_,rfl,rfl,t9,_,_,rfl,rfl,_,rfl,xU (λ_=>⟨_,rfl,up (.refl _) (jS _) a1 o1⟩) (λ_=>nxt ?_)⟩;refine⟨_,rfl,_,_,rfl,rfl,t9,_,_,rfl,rfl,_,rfl,xU (λ_=>?_) (λ_=>nxt ?_)⟩
 . refine⟨_,rfl,_,rfl,_,rfl,st,_,now,rfl,sr2,λn=>⟨z2,λp1 n1=>⟨z3,λp2 n2=>?_⟩⟩⟩;have u1:=xy n1 (.tup [.str "num",.int n]);have d1:=Z0 (K:=K) s02 n1 (JI "num") (cX n);exact up (e := .bi .add ea (.num n)) (u1.trans (xy n2 _)) 'f' (X9 (s02.trans u1) n2 (JI _) (a1.same u1) d1) (o1.bi rfl (EOk.num n))
 refine⟨_,rfl,_,_,rfl,rfl,t9,_,_,rfl,rfl,_,rfl,xU (λ_=>?_) (λ_=>nxt ?_)⟩
 . exact⟨_,rfl,_,rfl,z3,λp2 n2=>up (e := .bi .sub ea eb) (xy n2 _) 'f' (X9 s02 n2 (JI _) a1 a2) (o1.bi rfl o2)⟩
 refine⟨_,rfl,_,_,rfl,rfl,t9,_,_,rfl,rfl,_,rfl,xU (λ_=>?_) (λ_=>nxt ?_)⟩
 . exact⟨_,rfl,_,rfl,z3,λp2 n2=>up (e := .bi .lt ea eb) (xy n2 _) 'f' (X9 s02 n2 (JI _) a1 a2) (o1.bi rfl o2)⟩
 refine⟨_,rfl,_,_,rfl,rfl,t9,_,_,rfl,rfl,_,rfl,xU (λ_=>?_) (λ_=>nxt ?_)⟩
 . exact⟨_,rfl,_,rfl,z3,λp2 n2=>up (e := .bi .eq ea eb) (xy n2 _) 'f' (X9 s02 n2 (JI _) a1 a2) (o1.bi rfl o2)⟩
 refine⟨_,rfl,_,_,rfl,rfl,t9,_,_,rfl,rfl,_,rfl,xU (λ_=>?_) (λ_=>nxt ?_)⟩
 . refine⟨_,rfl,_,rfl,_,rfl,_,rfl,_,_,rfl,rfl,⟨by decide,by decide⟩,st,_,now,rfl,sr2,λpc ec H3 s3 a3 o3=>⟨z4,λp2 n2=>?_⟩⟩;exact up (e := .pick ea eb ec) (s3.trans (xy n2 _)) 'f' (we (s02.trans s3) n2 (JI _) (a1.same s3) (a2.same s3) (a3.back s02)) (o1.pick o2 o3)
 refine⟨_,rfl,_,_,rfl,rfl,t9,_,_,rfl,rfl,_,rfl,xU (λ_=>?_) (λ_=>nxt ?_)⟩
 . refine⟨_,rfl,z2,λp1 n1=>⟨_,rfl,z3,λp2 n2=>?_⟩⟩;have u1:=xy n1 (.tup [.str "not",.ref pa]);exact up (e := .bi .conj (.un ea) eb) (u1.trans (xy n2 _)) 'f' (X9 (s02.trans u1) n2 (JI _) (Z0 s02 n1 (JI _) a1) (a2.same u1)) (o1.un.bi rfl (o2.up 'f'))
 . refine⟨_,rfl,_,rfl,_,rfl,_,rfl,_,_,rfl,rfl,⟨by decide,by decide⟩,st,_,now,rfl,sr2,λn=>⟨z2,λp1 n1=>⟨z3,λp2 n2=>⟨z2,λp3 n3=>⟨z3,λp4 n4=>?_⟩⟩⟩⟩⟩;have u1:=xy n1 (.tup [.str "num",.int n]);have u2:=xy n2 (.tup [.str "=",.ref pb,.ref p1]);have u3:=xy n3 (.tup [.str "not",.ref p2]);have d2:=X9 (K:=K) (s02.trans u1) n2 (JI "=") (a2.same u1) (Z0 s02 n1 (JI "num") (cX n));have d3:=Z0 (K:=K) (s02.trans (u1.trans u2)) n3 (JI "not") d2;exact up (e := .bi .disj ea (.un (.bi .eq eb (.num n)))) ((u1.trans (u2.trans u3)).trans (xy n4 _)) 'f' (X9 (s02.trans (u1.trans (u2.trans u3))) n4 (JI _) (a1.same (u1.trans (u2.trans u3))) d3) ((o1.up 'f').bi rfl (o2.bi rfl (EOk.num n)).un)
def wj(B:Bl mg)(JN:Def P w K mg base "_law_expr" 3 ["_law_state", "_law_cell"] (QO K 3))(F:Fn K mg "_law_seen" YE ["_law_state", "_law_cell"]):Def P w K mg base "_law_seen" 4 ["_law_state", "_law_cell"] (QO K 4):=by
 refine F.ok uR (λvs H Q E h=>?_) (λf qF A outer s H vs Q E hr h=>?_)
 . obtain⟨st,c,now,rfl,_⟩:=h;rfl
 obtain⟨st,c,now,rfl,sr,q⟩:=h
 refine⟨_,(@xu _ _ _ _ _ (xO (xK Ji (xx xV (pv 1) xi) xi (xN _)) (@xw _ _ _ (xP (xI JN hr rfl (@xj _ _ _ _ _ (pv 0) (@xj _ _ _ _ _ (xx J6 (pv 1) xi) xk rfl) rfl)))) xX)
  (@xw _ _ _ (xP (@Jq _ _ _ _ _ _ _ _ _ xt (xI JN hr rfl (@xj _ _ _ _ _ (pv 0) (@xj _ _ _ _ _ (xx J6 (pv 1) xi) xk rfl) rfl)) (xI JN hr rfl (@xj _ _ _ _ _ (pv 0) (@xj _ _ _ _ _ (xx J6 (pv 1) xi) xk rfl) rfl)) rfl rfl rfl)))),?_⟩
 refine⟨_,rfl,_,_,rfl,rfl,(by show(0:Int)<3;decide),_,_,rfl,rfl,_,rfl,xU (λ_=>?_) (λ_=>nxt ?_)⟩
 . exact⟨_,rfl,_,rfl,_,_,rfl,rfl,⟨by decide,by decide⟩,st,_,now,rfl,sr,λp e H' s' a o=>q p e H' s' a (o.up 'f')⟩
 . refine⟨_,rfl,_,rfl,_,_,rfl,rfl,⟨by decide,by decide⟩,st,_,now,rfl,sr,λp1 e1 H1 s1 a1 o1=>?_⟩;refine⟨_,rfl,_,rfl,_,_,rfl,rfl,⟨by decide,by decide⟩,st,_,now,rfl,sr.same s1,λp2 e2 H2 s2 a2 o2=>⟨by show 3<=sizeLine;decide,λp3 n3=>?_⟩⟩;exact q p3 (.bi .disj e1 e2) _ ((s1.trans s2).trans (xy n3 _)) (X9 (s1.trans s2) n3 (JI _) (a1.same s2) (a2.back s1)) (o1.bi rfl o2)
structure Fr where
 f:xb
 r2:xb
 r3:xb
 n6:xb
 n5:xb
 n7:xb
 kd:Str
 num:Nat
 e:Ex
 els:Bool
 ra:List Wr
 rb:List Wr
 hx:V
 x2:List V
 x3:List V
 l5:qB
 l6:qB
 l7:qB
def Fr.adr(m:Fr):List xb:=[m.f,m.r2,m.r3,m.n6]
def Fr.hd(m:Fr):D:=if m.kd = "if" then dE m.e else .int (m.num:Nat)
def Fr.kv(m:Fr):List (Key×V):=[(.inr "word",.str m.kd),(.inr "head",m.hx),(.inr "first",.ref m.r2),(.inr "second",.ref m.r3),(.inr "turned",.bl m.els),(.inr "start",.ref m.n5),(.inr "now",.ref m.n6),(.inr "other",.ref m.n7)]
structure FrAt (K:qu) (A:List xb) (H:Hp) (m:Fr):Prop where
 f:H m.f=some (.dK m.kv)
 r2:H m.r2=some (.lst m.x2)
 r3:H m.r3=some (.lst m.x3)
 n6:H m.n6=some (.lst (m.l6.map V.str))
 d2:IsDs K (hid A H) (dWs m.ra) m.x2
 d3:IsDs K (hid A H) (dWs m.rb) m.x3
 h:IsD K (hid A H) m.hd m.hx
 n5:IsD K (hid A H) (.lst (m.l5.map D.str)) (.ref m.n5)
 n7:IsD K (hid A H) (.lst (m.l7.map D.str)) (.ref m.n7)
def FrAt.keep(h:FrAt K A H m)(s:Same (hid A H) (hid A' H'))(k:∀a∈m.adr,∀o,H a=some o->H' a=some o):FrAt K A' H' m :=
 ⟨k _ (by simp[Fr.adr]) _ h.f,k _ (by simp[Fr.adr]) _ h.r2,k _ (by simp[Fr.adr]) _ h.r3,k _ (by simp[Fr.adr]) _ h.n6,h.d2.same s,h.d3.same s,h.h.same s,h.n5.same s,h.n7.same s⟩
def FrAt.ex(h:FrAt K A H m):∀a∈m.adr,∃o,H a=some o:=λa ha=>by
 simp only[Fr.adr,jB,jb,kP]at ha;rcases ha with rfl|rfl|rfl|rfl
 . exact⟨_,h.f⟩
 . exact⟨_,h.r2⟩
 . exact⟨_,h.r3⟩
 . exact⟨_,h.n6⟩
structure Pi where
 nm:Str
 np:Nat
 sz:Nat
 wy:Nat
def dPi(p:Pi):D := .tup [.str p.nm,.int (p.np:Nat),.int (p.sz:Nat),.int (p.wy:Nat)]
structure Sa where
 st:xb
 pl:xb
 fl:xb
 nl:xb
 lg:xb
 kvs:List (Key×V)
 nm:qB
 l0:Int
 l1:Int
 px:List V
 pq:List Pi
 ways:Nat
 size:Nat
 limit:Nat
 room:Nat
 ex:List xb
def stK:List Key:=[.inr "names",.inr "large",.inr "great",.inr "parts",.inr "frames",.inr "ways",.inr "size",.inr "limit",.inr "room"]
structure KeyOk (kvs:List (Key×V)):Prop where
 nd:(kvs.map (·.1)).Nodup
 sub:∀k∈kvs.map (·.1),k∈stK
def KeyOk.put(h:KeyOk kvs)(hk:k∈stK):KeyOk (xH kvs k v):=by
 rcases cF kvs k v with ⟨_,e⟩|⟨c,e⟩
 . exact⟨by rw[e];exact h.nd,by rw[e];exact h.sub⟩
 . refine⟨?_,?_⟩
   . rw[e,j3];exact⟨h.nd,by simp,λa ha b hb z=>c (by rw[<- jA.mp hb,<- z];exact ha)⟩
   . rw[e];intro x hx;rcases jI.mp hx with z | z
     . exact h.sub x z
     . rw[jA.mp z];exact hk
structure Sb (s:Sa):Prop where
 ko:KeyOk s.kvs
 names:valV s.kvs (.inr "names")=some (.ref s.nl)
 large:valV s.kvs (.inr "large")=some (.ref s.lg)
 parts:valV s.kvs (.inr "parts")=some (.ref s.pl)
 great:∃g:Int,valV s.kvs (.inr "great")=some (.int g)
def Sb.len(h:Sb s):s.kvs.length<=20:=by
 have:=List.Nodup.length_le_of_subset h.ko.nd h.ko.sub;rw[jC]at this;exact je this 'f'
structure Sv (s:Sa):Prop extends Sb s where
 frames:valV s.kvs (.inr "frames")=some (.ref s.fl)
 ways:valV s.kvs (.inr "ways")=some (.int (s.ways:Nat))
 size:valV s.kvs (.inr "size")=some (.int (s.size:Nat))
 limit:valV s.kvs (.inr "limit")=some (.int (s.limit:Nat))
 room:valV s.kvs (.inr "room")=some (.int (s.room:Nat))
theorem Sv.len(h:Sv s):s.kvs.length<=20:=h.toSb.len
def xR{kvs:List (Key×V)}{a b:Str}{v:V}(n:a≠b):valV (xH kvs (.inr b) v) (.inr a)=valV kvs (.inr a):=by rw[Y4,k9 (λz=>n (Sum.inr.inj z))]
def QP{kvs:List (Key×V)}{a:Str}{v:V}:valV (xH kvs (.inr a) v) (.inr a)=some v:=by rw[Y4,ke rfl]
def Sv.ways_(h:Sv s)(n:Nat):Sv { s with kvs:=xH s.kvs (.inr "ways") (.int (n:Nat)),ways:=n } :=
 ⟨⟨h.ko.put (by simp[stK]),(xR 'f').trans h.names,(xR 'f').trans h.large,(xR 'f').trans h.parts,h.great.imp λ_ e=>(xR 'f').trans e⟩,(xR 'f').trans h.frames,QP,(xR 'f').trans h.size,(xR 'f').trans h.limit,(xR 'f').trans h.room⟩
def Sv.size_(h:Sv s)(n:Nat):Sv { s with kvs:=xH s.kvs (.inr "size") (.int (n:Nat)),size:=n } :=
 ⟨⟨h.ko.put (by simp[stK]),(xR 'f').trans h.names,(xR 'f').trans h.large,(xR 'f').trans h.parts,h.great.imp λ_ e=>(xR 'f').trans e⟩,(xR 'f').trans h.frames,(xR 'f').trans h.ways,QP,(xR 'f').trans h.limit,(xR 'f').trans h.room⟩
def Sv.great_(h:Sv s)(n:Int):Sv { s with kvs:=xH s.kvs (.inr "great") (.int n) }:=by
 obtain⟨g,hg⟩:=h.great;exact⟨⟨h.ko.put (by simp[stK]),(xR 'f').trans h.names,(xR 'f').trans h.large,(xR 'f').trans h.parts,⟨n,QP⟩⟩,(xR 'f').trans h.frames,(xR 'f').trans h.ways,(xR 'f').trans h.size,(xR 'f').trans h.limit,(xR 'f').trans h.room⟩
def adrs(s:Sa)(ms:List Fr):List xb:=s.st::s.pl::s.fl::ms.flatMap Fr.adr
def had(s:Sa)(ms:List Fr):List xb:=adrs s ms++s.ex
def JJ(h:a∈adrs s ms):a∈had s ms:=ji _ h
def av(h:a∉adrs s ms)(h2:a∉s.ex):a∉had s ms:=λz=>(jI.mp z).elim h h2
structure MkH (K:qu) (H0 H:Hp) (s:Sa) (ms:List Fr):Prop where
 sm:Xc [s.st,s.pl] H0 H
 new:∀a∈s.fl::ms.flatMap Fr.adr,H0 a=none
 nd:(adrs s ms).Nodup
 st:H s.st=some (.dK s.kvs)
 v:Sv s
 pl:H s.pl=some (.lst s.px)
 fl:H s.fl=some (.lst (ms.reverse.map λm=>V.ref m.f))
 fr:∀m∈ms,FrAt K (had s ms) H m
 nl:IsD K (hid (had s ms) H) (.lst (s.nm.map D.str)) (.ref s.nl)
 lg:IsD K (hid (had s ms) H) (.lst [.int s.l0,.int s.l1]) (.ref s.lg)
 pd:IsDs K (hid (had s ms) H) (s.pq.map dPi) s.px
 exl:∀a∈s.ex,∃o,H0 a=some o
def ZL(k:∀b o,b∉A->H b=some o->H' b=some o)(n:∀a∈B,a∈A\/H a=none):Same (hid A H) (hid B H'):=λb o e=>by
 unfold hid at e ⊢;split at e
 . cases e
 . rename_i hb;rw[k9 (λz=>(n b z).elim hb λz=>by rw[e]at z;cases z)];exact k b o hb e
section
variable {H0 H H':Hp}{s:Sa}{m m' m1:Fr}{ms ms':List Fr}
theorem MkH.ex(h:MkH K H0 H s ms):∀a∈adrs s ms,∃o,H a=some o:=λa ha=>by
 rcases jB.mp ha with rfl|ha
 . exact⟨_,h.st⟩
 rcases jB.mp ha with rfl|ha
 . exact⟨_,h.pl⟩
 rcases jB.mp ha with rfl|ha
 . exact⟨_,h.fl⟩
 obtain⟨m,hm,ha⟩:=jr.mp ha;exact(h.fr m hm).ex a ha
def MkH.exh(h:MkH K H0 H s ms):∀a∈had s ms,∃o,H a=some o:=λa ha=>by
 rcases jI.mp ha with ha|ha
 . exact h.ex a ha
 . by_cases c:a∈[s.st,s.pl]
   . rcases jB.mp c with c | c
     . rw[c];exact⟨_,h.st⟩
     . rw[jA.mp c];exact⟨_,h.pl⟩
   . obtain⟨o,e⟩:=h.exl a ha;exact⟨o,h.sm a o c e⟩
def MkH.nex(h:MkH K H0 H s ms)(ha:a∈s.fl::ms.flatMap Fr.adr):a∉s.ex:=λz=>by
 obtain⟨o,e⟩:=h.exl a z;rw[h.new a ha]at e;cases e
theorem MkH.re(h:MkH K H0 H s ms)(k:∀b o,b∉adrs s ms->H b=some o->H' b=some o)(sub:∀a∈ms'.flatMap Fr.adr,a∈ms.flatMap Fr.adr\/H a=none)(nd:(adrs s ms').Nodup)(st:H' s.st=H s.st)(pl:H' s.pl=H s.pl)(fl:H' s.fl=some (.lst (ms'.reverse.map λm=>V.ref m.f)))
 (fr:Same (hid (had s ms) H) (hid (had s ms') H')->∀m∈ms',FrAt K (had s ms') H' m):MkH K H0 H' s ms':=by
 have re:Same (hid (had s ms) H) (hid (had s ms') H'):=ZL (λb o hb e=>k b o (λz=>hb (JJ z)) e) λa ha=>by
  rcases jI.mp ha with ha|ha
  . rcases jB.mp ha with rfl | ha
    . exact .inl (JJ (by simp[adrs]))
    rcases jB.mp ha with rfl|ha
    . exact .inl (JJ (by simp[adrs]))
    rcases jB.mp ha with rfl|ha
    . exact .inl (JJ (by simp[adrs]))
    exact(sub a ha).imp_left λz=>JJ (jE _ (jE _ (jE _ z)))
  . exact .inl (jM _ ha)
 have h0:∀a,H a=none->a∉[s.st,s.pl]->H0 a=none:=λa n na=>by
  cases e:H0 a with
  |none=>rfl
  |some u=>rw[h.sm a u na e]at n;cases n
 have n1:∀a,a∈s.fl::ms.flatMap Fr.adr->a∉[s.st,s.pl]:=λa ha z=>by
  obtain⟨x1,x2⟩:=jP.mp h.nd;obtain⟨x3,_⟩:=jP.mp x2;rcases jB.mp z with z|z
  . exact x1 (jE _ (z ▸ ha))
  . exact x3 (jA.mp z ▸ ha)
 refine⟨λb u nb eb=>?_,λa ha=>?_,nd,st.trans h.st,h.v,pl.trans h.pl,fl,fr re,h.nl.same re,h.lg.same re,h.pd.same re,h.exl⟩
 . refine k b u (λz=>?_) (h.sm b u nb eb);rcases jB.mp z with z | z
   . exact nb (by simp[z])
   rcases jB.mp z with z|z
   . exact nb (by simp[z])
   rw[h.new b z]at eb;cases eb
 . rcases jB.mp ha with rfl | ha
   . exact h.new _ (jH ..)
   . rcases sub a ha with z | z
     . exact h.new a (jE _ z)
     . refine h0 a z λw=>?_;rcases jB.mp w with w | w
       . rw[w,h.st]at z;cases z
       . rw[jA.mp w,h.pl]at z;cases z
def MkH.same(h:MkH K H0 H s ms)(x:Same H H'):MkH K H0 H' s ms :=
 h.re (λb o _ e=>x b o e) (λa ha => .inl ha) h.nd ((x _ _ h.st).trans h.st.symm) ((x _ _ h.pl).trans h.pl.symm) (x _ _ h.fl) λre m hm=>(h.fr m hm).keep re λa _ o e=>x a o e
def JU(h:(adrs s (m::ms)).Nodup):m.adr.Nodup/\s.st∉m.adr/\s.pl∉m.adr/\s.fl∉m.adr/\(∀a∈m.adr,∀m'∈ms,a∉m'.adr)/\(adrs s ms).Nodup:=by
 have nd:(s.st::s.pl::s.fl::(m.adr++ms.flatMap Fr.adr)).Nodup:=h;obtain⟨h1,nd1⟩:=jP.mp nd;obtain⟨h2,nd2⟩:=jP.mp nd1;obtain⟨h3,nd3⟩:=jP.mp nd2;obtain⟨n1,n2,n3⟩:=j3.mp nd3;refine⟨n1,λz=>h1 (by simp[z]),λz=>h2 (by simp[z]),λz=>h3 (by simp[z]),λa ha m' hm' z=>n3 a ha a (jr.mpr ⟨m',hm',z⟩) rfl,?_⟩;refine jP.mpr ⟨λz=>h1 ?_,jP.mpr ⟨λz=>h2 ?_,jP.mpr ⟨λz=>h3 (jM _ z),n2⟩⟩⟩
 . rcases jB.mp z with z | z
   . exact jB.mpr (.inl z)
   . rcases jB.mp z with z | z
     . exact jE _ (jB.mpr (.inl z))
     . exact jE _ (jE _ (jM _ z))
 . rcases jB.mp z with z | z
   . exact jB.mpr (.inl z)
   . exact jE _ (jM _ z)
def cY(h:(adrs s ms).Nodup)(h1:m.adr.Nodup)(h2:∀a∈m.adr,a∉adrs s ms):(adrs s (m::ms)).Nodup:=by
 show(s.st::s.pl::s.fl::(m.adr++ms.flatMap Fr.adr)).Nodup;obtain⟨a1,nd1⟩:=jP.mp h;obtain⟨a2,nd2⟩:=jP.mp nd1;obtain⟨a3,nd3⟩:=jP.mp nd2;refine jP.mpr ⟨λz=>?_,jP.mpr ⟨λz=>?_,jP.mpr ⟨λz=>?_,j3.mpr ⟨h1,nd3,λa ha b hb e=>h2 a ha (by rw[e];simp only[adrs,jB];exact .inr (.inr (.inr hb)))⟩⟩⟩⟩
 . rcases jB.mp z with z | z
   . exact a1 (by rw[z];simp)
   rcases jB.mp z with z|z
   . exact a1 (by rw[z];simp)
   rcases jI.mp z with z|z
   . exact h2 _ z (by simp[adrs])
   . exact a1 (by simp only[jB];exact .inr (.inr z))
 . rcases jB.mp z with z | z
   . exact a2 (by rw[z];simp)
   rcases jI.mp z with z|z
   . exact h2 _ z (by simp[adrs])
   . exact a2 (jE _ z)
 . rcases jI.mp z with z | z
   . exact h2 _ z (by simp[adrs])
   . exact a3 z
def MkH.top(h:MkH K H0 H s (m::ms))(k:∀b o,b∉m.adr->H b=some o->H' b=some o)(adr:∀a∈m1.adr,a∈m.adr\/H a=none)(n1:m1.adr.Nodup)(mf:m1.f=m.f)(fr:Same (hid (had s (m::ms)) H) (hid (had s (m1::ms)) H')->FrAt K (had s (m1::ms)) H' m1):MkH K H0 H' s (m1::ms):=by
 obtain⟨a1,a2,a3,a4,a5,a6⟩:=JU h.nd
 have out:∀a∈m1.adr,a∉adrs s ms:=λa ha z=>by
  rcases adr a ha with w|w
  . rcases jB.mp z with z | z
    . exact a2 (z ▸ w)
    rcases jB.mp z with z|z
    . exact a3 (z ▸ w)
    rcases jB.mp z with z|z
    . exact a4 (z ▸ w)
    obtain⟨m',hm',z⟩:=jr.mp z;exact a5 a w m' hm' z
  . obtain⟨o,e⟩:=h.ex a (by
     simp only[adrs,jB,jc,jI]at z ⊢;rcases z with z|z|z|z
     . exact .inl z
     . exact .inr (.inl z)
     . exact .inr (.inr (.inl z))
     . exact .inr (.inr (.inr (.inr z))))
    rw[e]at w;cases w
 refine h.re (λb o hb e=>k b o (λz=>hb ?_) e) (λa ha=>?_) (cY a6 n1 out) ((k _ _ a2 h.st).trans h.st.symm) ((k _ _ a3 h.pl).trans h.pl.symm) ?_ λre x hx=>?_
 . simp only[adrs,jB,jc,jI];exact .inr (.inr (.inr (.inl z)))
 . rw[jc,jI]at ha ⊢;rcases ha with ha | ha
   . exact(adr a ha).imp_left .inl
   . exact .inl (.inr ha)
 . rw[k _ _ a4 h.fl,jx,jx,jd,jd,List.map_singleton,List.map_singleton,mf]
 . rcases jB.mp hx with rfl | hx
   . exact fr re
   . exact(h.fr x (jE _ hx)).keep re λa ha o e=>k a o (λz=>a5 a z x hx ha) e
def MkH.pop(h:MkH K H0 H s (m::m'::ms))(k:∀b o,b∉s.fl::m'.adr->H b=some o->H' b=some o)(fl:H' s.fl=some (.lst ((m1::ms).reverse.map λm=>V.ref m.f)))(adr:∀a∈m1.adr,a∈m'.adr\/a∈m.adr\/H a=none)(n1:m1.adr.Nodup)(fr:Same (hid (had s (m::m'::ms)) H) (hid (had s (m1::ms)) H')->FrAt K (had s (m1::ms)) H' m1):MkH K H0 H' s (m1::ms):=by
 obtain⟨a1,a2,a3,a4,a5,a6⟩:=JU h.nd;obtain⟨b1,b2,b3,b4,b5,b6⟩:=JU a6
 have sf:s.st≠s.fl/\s.pl≠s.fl:=by
  obtain⟨h1,nd1⟩:=jP.mp b6;obtain⟨h2,_⟩:=jP.mp nd1;exact⟨λz=>h1 (by rw[z];simp),λz=>h2 (by rw[z];simp)⟩
 have out:∀a∈m1.adr,a∉adrs s ms:=λa ha z=>by
  have z0:=z;simp only[adrs,jB]at z;rcases adr a ha with w|w|w
  . rcases z with z | z | z | z
    . exact b2 (z ▸ w)
    . exact b3 (z ▸ w)
    . exact b4 (z ▸ w)
    obtain⟨x,hx,z⟩:=jr.mp z;exact b5 a w x hx z
  . rcases z with z | z | z | z
    . exact a2 (z ▸ w)
    . exact a3 (z ▸ w)
    . exact a4 (z ▸ w)
    obtain⟨x,hx,z⟩:=jr.mp z;exact a5 a w x (jE _ hx) z
  . obtain⟨o,e⟩:=h.ex a (by
     simp only[adrs,jB,jc,jI];rcases z with z|z|z|z
     . exact .inl z
     . exact .inr (.inl z)
     . exact .inr (.inr (.inl z))
     . exact .inr (.inr (.inr (.inr (.inr z)))))
    rw[e]at w;cases w
 refine h.re (λb o hb e=>k b o (λz=>hb ?_) e) (λa ha=>?_) (cY b6 n1 out) ((k _ _ (λz=>?_) h.st).trans h.st.symm) ((k _ _ (λz=>?_) h.pl).trans h.pl.symm) fl λre x hx=>?_
 . simp only[adrs,jB,jc,jI];rcases jB.mp z with z | z
   . exact .inr (.inr (.inl z))
   . exact .inr (.inr (.inr (.inr (.inl z))))
 . rw[jc,jI]at ha;rw[jc,jc,jI,jI];rcases ha with ha | ha
   . rcases adr a ha with w | w | w
     . exact .inl (.inr (.inl w))
     . exact .inl (.inl w)
     . exact .inr w
   . exact .inl (.inr (.inr ha))
 . rcases jB.mp z with z | z
   . exact sf.1 z
   . exact b2 z
 . rcases jB.mp z with z | z
   . exact sf.2 z
   . exact b3 z
 . rcases jB.mp hx with rfl | hx
   . exact fr re
   . exact (h.fr x (jE _ (jE _ hx))).keep re λa ha o e=>k a o (λz=>by
      rcases jB.mp z with z|z
      . obtain⟨_,nd1⟩:=jP.mp b6;obtain⟨_,nd2⟩:=jP.mp nd1;exact(jP.mp nd2).1 (jr.mpr ⟨x,hx,z ▸ ha⟩)
      . exact b5 a z x hx ha) e
def MkH.push(h:MkH K H0 H s ms)(k:∀b o,b≠s.fl->H b=some o->H' b=some o)(fl:H' s.fl=some (.lst ((m::ms).reverse.map λm=>V.ref m.f)))(adr:∀a∈m.adr,H a=none)(n1:m.adr.Nodup)(fr:Same (hid (had s ms) H) (hid (had s (m::ms)) H')->FrAt K (had s (m::ms)) H' m):MkH K H0 H' s (m::ms):=by
 have nd:=h.nd;obtain⟨h1,nd1⟩:=jP.mp nd;obtain⟨h2,nd2⟩:=jP.mp nd1;obtain⟨h3,_⟩:=jP.mp nd2;refine h.re (λb o hb e=>k b o (λz=>hb (by simp[adrs,z])) e) (λa ha=>?_) (cY h.nd n1 λa ha z=>?_) ((k _ _ (λz=>h1 (by rw[z];simp)) h.st).trans h.st.symm) ((k _ _ (λz=>h2 (by rw[z];simp)) h.pl).trans h.pl.symm) fl λre x hx=>?_
 . rw[jc,jI]at ha;exact ha.elim (λz => .inr (adr a z)) .inl
 . obtain⟨o,e⟩:=h.ex a z;rw[adr a ha]at e;cases e
 . rcases jB.mp hx with rfl | hx
   . exact fr re
   . exact(h.fr x hx).keep re λa ha o e=>k a o (λz=>h3 (jr.mpr ⟨x,hx,z ▸ ha⟩)) e
def MkH.dct(h:MkH K H0 H s ms)(v:Sv s')(e:s'.st=s.st/\s'.pl=s.pl/\s'.fl=s.fl/\s'.nl=s.nl/\s'.lg=s.lg/\s'.nm=s.nm/\s'.l0=s.l0/\s'.l1=s.l1/\s'.px=s.px/\s'.pq=s.pq/\s'.ex=s.ex):MkH K H0 (upd H s.st (.dK s'.kvs)) s' ms:=by
 obtain⟨e1,e2,e3,e4,e5,e6,e7,e8,e9,e10,e11⟩:=e;have nd:=h.nd;have ea:adrs s' ms=adrs s ms:=by unfold adrs;rw[e1,e2,e3]
 have eb:had s' ms=had s ms:=by unfold had;rw[ea,e11]
 obtain⟨h1,_⟩:=jP.mp nd;have eh:hid (had s ms) (upd H s.st (.dK s'.kvs))=hid (had s ms) H:=Qz (JJ (by simp[adrs]));have re:Same (hid (had s ms) H) (hid (had s ms) (upd H s.st (.dK s'.kvs))):=by rw[eh];exact .refl _
 refine⟨by rw[e1,e2];exact h.sm.trans (Jl 'j'),by rw[e3];exact h.new,by rw[ea];exact nd,by rw[e1];exact xm,v,by rw[e2,e9,xz (λz=>h1 (by rw[<- z];simp))];exact h.pl,by rw[e3,xz (λz=>h1 (by rw[<- z];simp))];exact h.fl,λm hm=>?_,by rw[eb,e4,e6];exact h.nl.same re,by rw[eb,e5,e7,e8];exact h.lg.same re,by rw[eb,e9,e10];exact h.pd.same re,by rw[e11];exact h.exl⟩;rw[eb]
 exact(h.fr m hm).keep re λa ha o e=>by
  rw[xz (λz:a=s.st=>h1 (by rw[<- z];simp only[jB];exact .inr (.inr (jr.mpr ⟨m,hm,ha⟩))))];exact e
def MkH.rd(h:MkH K H0 H s (m::ms))(l:m.l6.length<=100):StR K H s.st m.l6:=by
 obtain⟨la,zs,e,q,d⟩:=h.lg
 cases e
 obtain⟨_,_,rfl,rfl,_,_,rfl,rfl,rfl⟩:=d;have t:=h.fr m (jH ..);exact⟨s.kvs,s.lg,s.l0,s.l1,s.fl,ms.reverse.map (λm=>V.ref m.f),m.f,m.kv,m.n6,h.st,h.v.large,(xJ _ _).seq q,h.v.frames,.of (by rw[h.fl,jx,jd];rfl),t.f,rfl,.of t.n6,l⟩
end
def Fr.cu(m:Fr):xb:=if m.els=true then m.r3 else m.r2
def Fr.cx(m:Fr):List V:=if m.els=true then m.x3 else m.x2
def Fr.put(m:Fr)(r:Wr)(x:V):Fr:=if m.els=true then { m with rb:=m.rb++[r],x3:=m.x3++[x] } else { m with ra:=m.ra++[r],x2:=m.x2++[x] }
def aw(m:Fr)(r:Wr)(x:V):(m.put r x).adr=m.adr/\(m.put r x).f=m.f/\(m.put r x).l6=m.l6/\(m.put r x).n6=m.n6/\(m.put r x).kv=m.kv:=by
 unfold Fr.put;split<;>exact⟨rfl,rfl,rfl,rfl,rfl⟩
section
variable {H0 H H':Hp}{s:Sa}{m m' m1:Fr}{ms ms':List Fr}
def Xa(h:m.adr.Nodup):m.f≠m.r2/\m.f≠m.r3/\m.f≠m.n6/\m.r2≠m.r3/\m.r2≠m.n6/\m.r3≠m.n6:=by
 simp only[Fr.adr,jP,jB,jb,kP,not_or,not_false_eq_true,true_and,j4,and_true]at h;exact⟨h.1.1,h.1.2.1,h.1.2.2,h.2.1.1,h.2.1.2,h.2.2⟩
def MkH.app(h:MkH K H0 H s (m::ms))(d:IsD K (hid (had s (m::ms)) H) (dW r) x):MkH K H0 (upd H m.cu (.lst (m.cx++[x]))) s (m.put r x::ms):=by
 obtain⟨ea,ef,_⟩:=aw m r x;have t:=h.fr m (jH ..);have nd:=(JU h.nd).1;obtain⟨a1,a2,a3,a4,a5,a6⟩:=Xa nd;have cu:m.cu∈m.adr:=by unfold Fr.cu;split<;>simp[Fr.adr]
 refine h.top (λb o hb e=>?_) (λa ha => .inl (ea ▸ ha)) (by rw[ea];exact nd) ef λre=>?_
 . rw[xz (λz:b=m.cu=>hb (z ▸ cu))];exact e
 . have e2:had s (m.put r x :: ms)=had s (m :: ms):=by unfold had adrs;rw[jc,jc,ea]
   rw[e2]at re ⊢;unfold Fr.put Fr.cu Fr.cx at *
   by_cases c:m.els=true
   . simp only[ke c]at *;exact⟨by rw[xz a2];exact t.f,by rw[xz a4];exact t.r2,xm,by rw[xz a6.symm];exact t.n6,t.d2.same re,by rw[QL];exact(t.d3.same re).append ⟨x,[],rfl,d.same re,rfl⟩,t.h.same re,t.n5.same re,t.n7.same re⟩
   . simp only[k9 c]at *;exact⟨by rw[xz a1];exact t.f,xm,by rw[xz a4.symm];exact t.r3,by rw[xz a5.symm];exact t.n6,by rw[QL];exact(t.d2.same re).append ⟨x,[],rfl,d.same re,rfl⟩,t.d3.same re,t.h.same re,t.n5.same re,t.n7.same re⟩
def MkH.nam(h:MkH K H0 H s (m::ms))(y:Str):MkH K H0 (upd H m.n6 (.lst ((m.l6++[y]).map V.str))) s ({ m with l6:=m.l6++[y] }::ms):=by
 have t:=h.fr m (jH ..);have nd:=(JU h.nd).1;obtain⟨a1,a2,a3,a4,a5,a6⟩:=Xa nd;refine h.top (λb o hb e=>?_) (λa ha => .inl ha) nd rfl λre=>?_
 . rw[xz (λz:b=m.n6=>hb (by rw[z];simp[Fr.adr]))];exact e
 . exact⟨by rw[xz a3];exact t.f,by rw[xz a5];exact t.r2,by rw[xz a6];exact t.r3,xm,t.d2.same re,t.d3.same re,t.h.same re,t.n5.same re,t.n7.same re⟩
end
def Wr.gv:Wr->Option Str
 |.draw x _=>some x
 |.lett x _=>some x
 |.call x _ _=>some x
 |_=>none
def adO(l:qB):Option Str->qB
 |none=>l
 |some x=>if x∈l then l else l++[x]
def Fr.app(m:Fr)(r:Wr)(x:V):Fr:={ m.put r x with l6:=adO m.l6 r.gv }
def lW{c:TT}{t u v:TS}{D:Ends}(Pj:St->Hp->Prop)(p:Bool->Prop)(hc:∀Q:Bool->Hp->Prop,(∀b,p b->Q b H)->c σ H Q)(h:∀qI H',Pj qI H'->v D qI H')
 (h1:p true->∀R:St->Hp->Prop,(∀qI H',Pj qI H'->R qI H')->t ⟨R,D.rt,D.bk,D.ct⟩ σ H) (h2:p false->∀R:St->Hp->Prop,(∀qI H',Pj qI H'->R qI H')->u ⟨R,D.rt,D.bk,D.ct⟩ σ H):Qf (QR c t u) v D σ H :=
 hc _ λb hb=>by cases b with
  |true=>exact Jc (h1 hb (v D) h)
  |false=>exact xY (h2 hb (v D) h)
def wk(d:IsD K H (dW r) x):∃t ys,x=.ref t/\SqT K H t (.str r.tag::ys)/\(∀y,r.gv=some y->∃z,ys=.str y::z):=by
 cases r with
 |draw y os=>obtain⟨t,_,rfl,q,_,_,rfl,rfl,_,_,rfl,rfl,_⟩:=d;exact⟨t,_,rfl,q,λz e=>by cases e;exact⟨_,rfl⟩⟩
 |lett y e=>obtain⟨t,_,rfl,q,_,_,rfl,rfl,_,_,rfl,rfl,_⟩:=d;exact⟨t,_,rfl,q,λz e=>by cases e;exact⟨_,rfl⟩⟩
 |call y f es=>obtain⟨t,_,rfl,q,_,_,rfl,rfl,_,_,rfl,rfl,_⟩:=d;exact⟨t,_,rfl,q,λz e=>by cases e;exact⟨_,rfl⟩⟩
 |seen e=>obtain⟨t,_,rfl,q,_,_,rfl,rfl,_⟩:=d;exact⟨t,_,rfl,q,λz e=>nomatch e⟩
 |ifr e a b=>obtain⟨t,_,rfl,q,_,_,rfl,rfl,_⟩:=d;exact⟨t,_,rfl,q,λz e=>nomatch e⟩
 |rnd k a=>obtain⟨t,_,rfl,q,_,_,rfl,rfl,_⟩:=d;exact⟨t,_,rfl,q,λz e=>nomatch e⟩
def wm(r:Wr):inV (.str r.tag) [.str "draw",.str "let",.str "call"]=r.gv.isSome:=by
 cases r with
 |draw _ _=>show inV (.str "draw") _=true;decide
 |lett _ _=>show inV (.str "let") _=true;decide
 |seen _=>show inV (.str "seen") _=false;decide
 |ifr _ _ _=>show inV (.str "if") _=false;decide
 |rnd _ _=>show inV (.str "rounds") _=false;decide
 |call _ _ _=>show inV (.str "call") _=true;decide
def az(K:qu):Sp:=λvs H Q _=>∃(H0:Hp) (s:Sa) (m:Fr) (ms:List Fr) (r:Wr) (x:V),vs=[.ref s.st,x]/\MkH K H0 H s (m::ms)/\IsD K (hid (had s (m::ms)) H) (dW r) x/\m.cx.length<=1000/\m.l6.length<=100/\∀H',MkH K H0 H' s (m.app r x::ms)->Xc m.adr H H'->Q .non H'
def wo(h:MkH K H0 H s (m::ms)):∃pre,H s.fl=some (.lst (pre++[.ref m.f])):=⟨ms.reverse.map λm=>V.ref m.f,by rw[h.fl,jx,jd];rfl⟩
def wq(B:Bl mg)(F:Fn K mg "_law_put" YB ["_law_state", "_law_row"]):Def P w K mg base "_law_put" 1 ["_law_state", "_law_row"] (az K):=by
 refine F.ok iy (λvs H Q E h=>?_) (λf qF A outer s H vs Q E hr h=>?_)
 . obtain⟨H0,s,m,ms,r,x,rfl,_⟩:=h;rfl
 obtain⟨H0,s,m,ms,r,x,rfl,hm,d,cl,l6,q⟩:=h
 refine⟨_,(@xu _ _ _ _ _ (xM (i:=2) iy.nd rfl 'b' (xD (xE K rfl) (xL (xG hr) (pv 0) xt (λ_ _=>rfl)) (Xw Xx xi) (λ_ _=>rfl)))
  (@xu _ _ _ _ _ (xO (JC (xL (xG hr) (pv 2) xt (λ_ _=>rfl))) (@xw _ _ _ (J1 (JD PySem.F.plainAttrs_list PySem.F.slot_list_append PySem.F.type_list_append Jy (xL (xG hr) (pv 2) xt (λ_ _=>rfl)) (xC (pv 1) xk)))) (@xw _ _ _ (J1 (JD PySem.F.plainAttrs_list PySem.F.slot_list_append PySem.F.type_list_append Jy (xL (xG hr) (pv 2) xt (λ_ _=>rfl)) (xC (pv 1) xk)))))
  (@xw _ _ _ (xO (PW.pt (JW (xK (Yg K rfl) (xD (xE K rfl) (pv 1) xi (λ_ _=>rfl)) (JO (xC xt (xC xt (xC xt xk)))) 'g') (Qq (xK (gq K rfl) (xD (xE K rfl) (pv 1) xi (λ_ _=>rfl)) (xL (xG hr) (pv 2) xt (λ_ _=>rfl)) 'g')))) (@xw _ _ _ (J1 (JD PySem.F.plainAttrs_list PySem.F.slot_list_append PySem.F.type_list_append Jy (xL (xG hr) (pv 2) xt (λ_ _=>rfl)) (xC (xD (xE K rfl) (pv 1) xi (λ_ _=>rfl)) xk)))) xX)))),?_⟩
 obtain⟨pre,efl⟩:=wo hm;have t:=hm.fr m (jH ..);have big:(100000:Nat)<sizeLine:=by decide
 obtain⟨ea,ef,el6,en6,ekv⟩:=aw m r x;refine⟨_,rfl,s.st,_,rfl,xT hm.st hm.v.frames,1,rfl,.inl ⟨s.fl,_,-1,.ref m.f,rfl,rfl,.of efl,ZJ _ _,?_⟩⟩;dsimp only[xF,List.set,L2.J2,jR];refine lW (λσ H'=>σ=[some (.ref s.st),some x,some (.ref m.f)]/\H'=upd H m.cu (.lst (m.cx++[x]))) (λb=>b=m.els) (λQ' hQ=>⟨_,rfl,m.f,_,rfl,xT t.f rfl,_,rfl,hQ _ rfl⟩) (λqI H1 h1=>?_) (λc R hR=>?_) (λc R hR=>?_)
 . obtain⟨rfl,rfl⟩:=h1;have h1:=hm.app d
   have eh:hid (had s (m::ms)) (upd H m.cu (.lst (m.cx++[x])))=hid (had s (m::ms)) H:=Qz (by
    have:m.cu∈m.adr:=by unfold Fr.cu;split<;>simp[Fr.adr]
    refine JJ ?_;simp only[adrs,jB,jc,jI];exact .inr (.inr (.inr (.inl this))))
   rw[<- eh]at d;have xc1:Xc m.adr H (upd H m.cu (.lst (m.cx++[x]))):=Jl (by unfold Fr.cu;split<;>simp[Fr.adr]);generalize upd H m.cu (.lst (m.cx++[x]))=H1 at h1 d xc1;obtain⟨tr,ys,rfl,qt,hg⟩:=wk d;have qt:=(xJ _ _).tupq qt;have t1:=h1.fr _ (jH ..);have tf:=t1.f;rw[ef,ekv]at tf;refine⟨_,rfl,.inr (.inl ⟨tr,_,0,.str r.tag,rfl,rfl,qt,J0,by show 3<=sizeLine;decide,λp np=>?_⟩)⟩;have u:=xy np (.tup [.str "draw",.str "let",.str "call"]);have h2:=h1.same u;have t2:=h2.fr _ (jH ..);refine⟨p,_,rfl,.inr (.of xm),rfl,rfl,_,rfl,?_⟩;show if (inV (.str r.tag) [.str "draw",.str "let",.str "call"])=true then _ else _;rw[wm];have qt2:=u.tupq qt;have tf2:=u _ _ tf;have xc2:=xc1.trans (.of u);generalize upd H1 p (.tup [.str "draw",.str "let",.str "call"])=H2 at h2 t2 qt2 tf2 xc2 ⊢;have t6:=t2.n6;rw[en6,el6]at t6
   cases hv:r.gv with
   |none =>
    refine xY (xY ?_);refine q H2 ?_ xc2;unfold Fr.app;rw[hv];show MkH K H0 H2 s ({ m.put r (.ref tr) with l6:=m.l6 }::ms);rw[<- el6];exact h2
   |some y =>
    obtain⟨z,rfl⟩:=hg y hv;refine Jc ⟨_,rfl,.inr (.inl ⟨tr,_,1,.str y,rfl,rfl,qt2,J9,_,rfl,m.f,_,rfl,xT tf2 rfl,m.n6,_,rfl,.inl (.of t6),rfl,bF _,_,rfl,?_⟩)⟩;show if (!inV (.str y) (m.l6.map V.str))=true then _ else _;rw[Yh];refine Y9 (λhn=>?_) (λhn=>?_)
    . refine⟨_,rfl,m.f,_,rfl,xT tf2 rfl,.inl ⟨rfl,_,.of t6⟩,_,rfl,.inr (.inl ⟨tr,_,1,.str y,rfl,rfl,qt2,J9,m.n6,_,.str y,rfl,rfl,t6,by rw[jC];omega,?_⟩)⟩;refine q _ ?_ (xc2.trans (Jl (by simp[Fr.adr])))
      have h3:MkH K H0 (upd H2 m.n6 (.lst (m.l6.map V.str++[.str y]))) s ({ m.put r (.ref tr) with l6:=m.l6++[y] }::ms):=by
       have h:=h2.nam y;have e:(m.l6++[y]).map V.str=m.l6.map V.str++[.str y]:=jd ..;rw[el6]at h;rw[<- e,<- en6];exact h
      unfold Fr.app;rw[hv];show MkH K H0 _ s ({ m.put r (.ref tr) with l6:=if y∈m.l6 then m.l6 else m.l6++[y] }::ms);rw[k9 hn];exact h3
    . refine q H2 ?_ xc2;unfold Fr.app;rw[hv];show MkH K H0 H2 s ({ m.put r (.ref tr) with l6:=if y∈m.l6 then m.l6 else m.l6++[y] }::ms);rw[ke hn,<- el6];exact h2
 . have e1:m.cu=m.r3:=ke c.symm;have e2:m.cx=m.x3:=ke c.symm;rw[e2]at cl;refine⟨_,rfl,m.f,_,rfl,xT t.f rfl,.inl ⟨rfl,_,.of t.r3⟩,_,rfl,m.r3,_,_,rfl,rfl,t.r3,by omega,hR _ _ ⟨rfl,by rw[e1,e2]⟩⟩
 . have e1:m.cu=m.r2:=k9 (by rw[<- c];decide);have e2:m.cx=m.x2:=k9 (by rw[<- c];decide);rw[e2]at cl;refine⟨_,rfl,m.f,_,rfl,xT t.f rfl,.inl ⟨rfl,_,.of t.r2⟩,_,rfl,m.r2,_,_,rfl,rfl,t.r2,by omega,hR _ _ ⟨rfl,by rw[e1,e2]⟩⟩
def cZ(K:qu):Sp:=λvs H Q _=>∃(kd:Str) (hx:V) (l:xb) (now:qB),vs=[.str kd,hx,.ref l]/\SqL K H l (now.map V.str)/\now.length<=100/\∀(f r2 r3 n5 n6 n7:xb) (H':Hp),Same H H'->H f=none->H r2=none->H r3=none->H n6=none->[f,r2,r3,n6].Nodup->n5∉[f,r2,r3,n6]->n7∉[f,r2,r3,n6]->H' f=some (.dK [(.inr "word",.str kd),(.inr "head",hx),(.inr "first",.ref r2),(.inr "second",.ref r3),(.inr "turned",.bl false),(.inr "start",.ref n5),(.inr "now",.ref n6),(.inr "other",.ref n7)])->H' r2=some (.lst [])->H' r3=some (.lst [])->H' n5=some (.lst (now.map V.str))->H' n6=some (.lst (now.map V.str))->H' n7=some (.lst [])->H n5=none->H n7=none->Q (.ref f) H'
def wr(B:Bl mg)(F:Fn K mg "_law_new" YA ["_law_word", "_law_head", "_law_now"]):Def P w K mg base "_law_new" 1 ["_law_word", "_law_head", "_law_now"] (cZ K):=by
 refine F.ok uQ (λvs H Q E h=>?_) (λf qF A outer s H vs Q E hr h=>?_)
 . obtain⟨kd,hx,l,now,rfl,_⟩:=h;rfl
 obtain⟨kd,hx,l,now,rfl,hS,len,q⟩:=h;refine⟨_,(@xw _ _ _ (xP (@uv _ _ _ _ _ _ _ _ _ _ _ _ _ _ _ _ _ _ _ _ _ _ _ _ _ _ _ _ _ _ _ _ _ _ xt (pv 0) xt (pv 1) xt (@QK _ _) xt (@QK _ _) xt Qp xt (JY (Zm K rfl) rfl B.list PyProof.Rows.boot_list (@xj _ _ _ _ _ (pv 2) xk rfl)) xt (JY (Zm K rfl) rfl B.list PyProof.Rows.boot_list (@xj _ _ _ _ _ (pv 2) xk rfl)) xt (@QK _ _)))),?_⟩;have sl:∀{H':Hp},Same H H'->SqL K H' l (now.map V.str):=λs=>s.seq hS;refine λf nf=>?_;have u0:=xy nf (.dK []);refine⟨_,rfl,_,rfl,jS _,λr2 n2=>⟨jS _,λr3 n3=>?_⟩⟩;have u1:=xy n2 (.lst []);have u2:=xy n3 (.lst []);have u02:=u0.trans (u1.trans u2);refine⟨_,rfl,l,_,rfl,.inl (sl u02),λn5 nn5=>?_⟩;have u3:=xy nn5 (.lst (now.map V.str));refine⟨_,rfl,l,_,rfl,.inl (sl (u02.trans u3)),λn6 nn6=>⟨jS _,λn7 nn7=>?_⟩⟩;have u4:=xy nn6 (.lst (now.map V.str));have u5:=xy nn7 (.lst []);have u35:=u3.trans (u4.trans u5);have u25:=u2.trans u35;have u15:=u1.trans u25;have ef:=u15 _ _ xm;have e2:=u25 _ _ xm;have e3:=u35 _ _ xm;have e5:=(u4.trans u5) _ _ xm;have e6:=u5 _ _ xm;have fr2:=u0.free n2;have fr3:=(u0.trans u1).free n3;have fn5:=u02.free nn5;have fn6:=(u02.trans u3).free nn6;have fn7:=(u02.trans (u3.trans u4)).free nn7;have x2:f≠r2:=λz=>by rw[<- z,xm]at n2;cases n2
 have x3:f≠r3:=λz=>by rw[<- z,u1 _ _ xm]at n3;cases n3
 have x6:f≠n6:=λz=>by rw[<- z,(u1.trans (u2.trans u3)) _ _ xm]at nn6;cases nn6
 have x23:r2≠r3:=λz=>by rw[<- z,xm]at n3;cases n3
 have x26:r2≠n6:=λz=>by rw[<- z,(u2.trans u3) _ _ xm]at nn6;cases nn6
 have x36:r3≠n6:=λz=>by rw[<- z,u3 _ _ xm]at nn6;cases nn6
 have x56:n5≠n6:=λz=>by rw[<- z,xm]at nn6;cases nn6
 have lX:n5≠f:=λz=>by rw[z,(u1.trans u2) _ _ xm]at nn5;cases nn5
 have x52:n5≠r2:=λz=>by rw[z,u2 _ _ xm]at nn5;cases nn5
 have x53:n5≠r3:=λz=>by rw[z,xm]at nn5;cases nn5
 have lY:n7≠f:=λz=>by rw[z,(u1.trans (u2.trans (u3.trans u4))) _ _ xm]at nn7;cases nn7
 have x72:n7≠r2:=λz=>by rw[z,(u2.trans (u3.trans u4)) _ _ xm]at nn7;cases nn7
 have x73:n7≠r3:=λz=>by rw[z,(u3.trans u4) _ _ xm]at nn7;cases nn7
 have x76:n7≠n6:=λz=>by rw[z,xm]at nn7;cases nn7
 refine⟨ef,[(.inr "word",.str kd),(.inr "head",hx),(.inr "first",.ref r2),(.inr "second",.ref r3),(.inr "turned",.bl false),(.inr "start",.ref n5),(.inr "now",.ref n6),(.inr "other",.ref n7)],rfl,by show 8<=15;decide,?_⟩;refine q f r2 r3 n5 n6 n7 _ ?_ nf fr2 fr3 fn6 (by simp[x2,x3,x6,x23,x26,x36]) (by simp[lX,x52,x53,x56]) (by simp[lY,x72,x73,x76]) xm (by rw[xz x2.symm];exact e2) (by rw[xz x3.symm];exact e3) (by rw[xz lX];exact e5) (by rw[xz x6.symm];exact e6) (by rw[xz lY];exact xm) fn5 fn7;exact Zk nf (u0.trans u15)
def Fr.tn(m:Fr):Nat:=if m.kd = "rounds" then m.num else 1
def turns:List Fr->Nat
 | []=>1
 |m::ms=>turns ms*m.tn
def Sa.fit(s:Sa)(w z:Nat):Sa:={ s with kvs:=xH (xH s.kvs (.inr "ways") (.int (w:Nat))) (.inr "size") (.int (z:Nat)),ways:=w,size:=z }
structure Small (s:Sa) (ms:List Fr):Prop where
 few:ms.length<=6
 num:∀m∈ms,m.num<=3
 ways:s.ways<=s.limit
 limit:s.limit<=4096
 size:s.size<=s.room
 room:s.room<=1000
theorem d0:∀{ms:List Fr},(∀m∈ms,m.num<=3)->turns ms<=3 ^ ms.length
 | [],_=>jG _
 |m::ms,h=>by
  have h1:=d0 (ms:=ms) λx hx=>h x (jE _ hx)
  have h2:m.tn<=3:=by
   unfold Fr.tn;split
   . exact h m (jH ..)
   . decide
  rw[jU,Nat.pow_succ];exact Nat.mul_le_mul h1 h2
theorem Small.turns(h:Small s ms):Fd.turns ms<=729:=je (d0 h.num) (je (Nat.pow_le_pow_right 'f' h.few) 'f')
def d7(K:qu):Sp:=λvs H Q _=>∃(H0:Hp) (s:Sa) (ms:List Fr) (z y:Nat),vs=[.ref s.st,.int (z:Nat),.int (y:Nat)]/\MkH K H0 H s ms/\Small s ms/\z<=1000/\y<=5000/\(¬(turns ms=1/\s.ways*y<=s.limit/\s.size+z<=s.room)->Q (.bl false) H) /\
 ∀(w:Nat) (H':Hp),w<=s.limit->s.size+turns ms*z<=s.room->MkH K H0 H' (s.fit w (s.size+turns ms*z)) ms->Xc [s.st] H H'->Q (.bl true) H'
def wt(B:Bl mg)(F:Fn K mg "_law_fits" YC ["_law_state", "_law_size", "_law_many"]):Def P w K mg base "_law_fits" 1 ["_law_state", "_law_size", "_law_many"] (d7 K):=by
 refine F.ok Xi (λvs H Q E h=>?_) (λf qF A outer s H vs Q E hr h=>?_)
 . obtain⟨H0,s,ms,z,y,rfl,_⟩:=h;rfl
 obtain⟨H0,s,ms,z,y,rfl,hm,sm,hz,hy,qf,q⟩:=h
 refine⟨_,(@xu _ _ _ _ _ (xM (i:=3) Xi.nd rfl 'b' xi)
  (@xu _ _ _ _ _ (Q6 PassesOwn.never rfl (JK (xL (xG hr) (pv 0) xt (λ_ _=>rfl))) (Ju (i:=4) Xi.nd rfl 'b') (@xw _ _ _ (xO (xK Jb (xL (xG hr) (pv 4) xt (λ_ _=>rfl)) xt (xN _)) (@xw _ _ _ (xM (i:=3) Xi.nd rfl 'b' (xx JE (pv 3) (xL (xG hr) (pv 4) xt (λ_ _=>rfl))))) xX)))
  (@xu _ _ _ _ _ (xM (i:=5) Xi.nd rfl 'b' (xL (xG hr) (pv 0) xt (λ_ _=>rfl)))
  (@xu _ _ _ _ _ (Q6 PassesOwn.never rfl (Q5 rfl B.range (xC (pv 3) xk)) (Ju (i:=6) Xi.nd rfl 'b') (@xu _ _ _ _ _ (xM (i:=5) Xi.nd rfl 'b' (xx JE (pv 5) (pv 2)))
  (@xw _ _ _ (xO (xK QI (pv 5) (xL (xG hr) (pv 0) xt (λ_ _=>rfl)) (xN _)) (@xw _ _ _ (xP Qp)) xX))))
  (@xu _ _ _ _ _ (xO (xK QI (xx J7 (xL (xG hr) (pv 0) xt (λ_ _=>rfl)) (xx JE (pv 3) (pv 1))) (xL (xG hr) (pv 0) xt (λ_ _=>rfl)) (xN _)) (@xw _ _ _ (xP Qp)) xX)
  (@xu _ _ _ _ _ (Je (xG hr) (pv 0) xt (pv 5) rfl)
  (@xu _ _ _ _ _ (Je (xG hr) (pv 0) xt (xx J7 (xL (xG hr) (pv 0) xt (λ_ _=>rfl)) (xx JE (pv 3) (pv 1))) rfl)
  (@xw _ _ _ (xP Qp))))))))),?_⟩
 refine lV ?_;have t729:=sm.turns;have num:=sm.num;have few:=sm.few;have lim:=sm.limit;have room:=sm.room;have sz:=sm.size;dsimp only[xF,List.set,L2.J2,jR];refine⟨_,rfl,s.st,_,rfl,xT hm.st hm.v.frames,s.fl,rfl,⟨_,.of hm.fl⟩,Xf (K:=K) (xs:=ms.reverse.map λm=>V.ref m.f) (λi σ H'=>H'=H/\∃c4,σ=[some (.ref s.st),some (.int (z:Nat)),some (.int (y:Nat)),some (.int (turns (ms.reverse.take i).reverse:Nat)),c4,none,none]) ⟨rfl,none,rfl⟩ (λi σ H' _ h=>by rw[h.1];exact .of hm.fl) ?_ ?_⟩
 . rintro i x σ H' hx ⟨rfl,c4,rfl⟩;rw[jJ]at hx;obtain⟨m,em,rfl⟩:=jT.mp hx;have mm:m∈ms:=List.mem_reverse.mp (jq em);have t:=hm.fr m mm
   have tk:turns (ms.reverse.take (i+1)).reverse=turns (ms.reverse.take i).reverse*m.tn:=by
    rw[List.take_succ,em,Option.toList_some,List.reverse_append];rfl
   have tl:turns (ms.reverse.take i).reverse<=729:=je (d0 λx hx=>num x (List.mem_reverse.mp (List.mem_of_mem_take (List.mem_reverse.mp hx)))) (je (Nat.pow_le_pow_right 'f' (by rw[List.length_reverse,jo,List.length_reverse];omega:_<=6)) 'f');rw[tk];generalize turns (ms.reverse.take i).reverse=T at tl;dsimp only[xF,List.set];refine⟨_,rfl,m.f,_,rfl,xT t.f rfl,_,_,rfl,rfl,_,rfl,xU (λc=>?_) (λc=>nxt ?_)⟩
   . have hx:m.hx = .int (m.num:Nat):=by
      have:=t.h;unfold Fr.hd at this;rw[k9 (by rw[c];decide)]at this;exact this
     have n3:=num m mm;refine⟨_,rfl,_,rfl,m.f,_,rfl,xT t.f rfl,_,_,rfl,hx,QW (m:=10) (n:=2) 'd' 'd' 'f',?_⟩;refine⟨rfl,some (.ref m.f),?_⟩;unfold Fr.tn;rw[ke c,Int.natCast_mul];rfl
   . refine⟨rfl,some (.ref m.f),?_⟩;unfold Fr.tn;rw[k9 c,Nat.mul_one]
 . rintro σ H' ⟨rfl,c4,rfl⟩;rw[jC,j9,List.reverse_reverse];dsimp only[xF,List.set];refine⟨_,rfl,s.st,_,rfl,xT hm.st hm.v.ways,?_⟩;dsimp only[xF,List.set];refine⟨_,rfl,_,rfl,by omega,by omega,?_⟩;rw[ja];refine QS (n:=turns ms) (λi σ H2=>H2=H'/\∃(fo:Nat) (c6:Option V),σ=[some (.ref s.st),some (.int (z:Nat)),some (.int (y:Nat)),some (.int (turns ms:Nat)),c4,some (.int (fo:Nat)),c6]/\fo<=s.limit/\(i=0->fo=s.ways)) ⟨rfl,s.ways,none,rfl,sm.ways,λ_=>rfl⟩ (λi σ H2 hi h=>?_) (λσ H2 h=>?_)
   . obtain⟨rfl,fo,c6,rfl,fl,f0⟩:=h;dsimp only[xF,List.set];refine⟨_,rfl,_,rfl,_,_,rfl,rfl,QW (m:=13) (n:=13) 'd' 'd' 'f',?_⟩;dsimp only[xF,List.set];refine⟨_,rfl,_,rfl,s.st,_,rfl,xT hm.st hm.v.limit,_,_,rfl,rfl,_,rfl,xU (λc=>?_) (λc=>nxt ?_)⟩
     . refine qf λ⟨h1,h2,_⟩=>?_;have:i=0:=by omega
       rw[f0 this]at c;rw[<- Int.natCast_mul]at c;omega
     . rw[<- Int.natCast_mul]at c;refine⟨rfl,fo*y,_,by rw[Int.natCast_mul],by omega,λz=>absurd z (Nat.succ_ne_zero i)⟩
   . obtain⟨rfl,fo,c6,rfl,fl,_⟩:=h;have tz:turns ms * z<=729 * 1000:=Nat.mul_le_mul t729 hz;have ok1:IntMulOk ((turns ms:Nat):Int) (z:Nat):=QW (m:=10) (n:=10) 'd' 'd' 'f';dsimp only[xF,List.set];refine⟨_,rfl,s.st,_,rfl,xT hm.st hm.v.size,_,rfl,_,rfl,_,_,rfl,rfl,ok1,_,_,rfl,rfl,_,rfl,s.st,_,rfl,xT hm.st hm.v.room,_,_,rfl,rfl,_,rfl,xU (λc=>?_) (λc=>nxt ?_)⟩
     . refine qf λ⟨h1,_,h3⟩=>?_;rw[h1]at c;omega
     . rw[<- Int.natCast_mul]at c;have big:(1000:Nat) < sizeLine:=by decide
       have kl:=hm.v.len;have m1:=hm.dct (hm.v.ways_ fo) ⟨rfl,rfl,rfl,rfl,rfl,rfl,rfl,rfl,rfl,rfl,rfl⟩;refine⟨_,rfl,_,rfl,s.st,_,rfl,DPut.k (k := .inr "ways") hm.st 'd',?_⟩;have kl1:=m1.v.len;have x1:Xc [s.st] H2 (upd H2 s.st (.dK (xH s.kvs (.inr "ways") (.int (fo:Nat))))):=Jl 'j';generalize upd H2 s.st (.dK (xH s.kvs (.inr "ways") (.int (fo:Nat))))=H3 at m1 x1;have m2:=m1.dct (m1.v.size_ (s.size+turns ms*z)) ⟨rfl,rfl,rfl,rfl,rfl,rfl,rfl,rfl,rfl,rfl,rfl⟩;refine⟨_,rfl,s.st,_,rfl,xT m1.st m1.v.size,_,rfl,_,rfl,_,_,rfl,rfl,ok1,_,_,rfl,rfl,_,rfl,s.st,_,rfl,DPut.k (k := .inr "size") m1.st (by exact jk kl1 'd'),?_⟩;refine q fo _ fl 'd' ?_ (x1.trans (Jl 'j'));dsimp only;rw[show((s.size:Nat):Int)+((turns ms:Nat):Int)*((z:Nat):Int)=((s.size+turns ms*z:Nat):Int) by rw[Int.natCast_add,Int.natCast_mul]];exact m2
def lZ(K:qu):Sp:=λvs H Q _=>∃(H0:Hp) (s:Sa) (m:Fr) (ms:List Fr) (c:Int) (n:Nat),vs=[.ref s.st,.int c,.int (n:Nat)]/\MkH K H0 H s (m::ms)/\1<=n/\n<=4/\∀(p:xb) (os:List D) (kvs:List (Key×V)) (H':Hp),MkH K H0 H' { s with kvs:=kvs } (m::ms)->IsD K (hid (had s (m::ms)) H') (.lst os) (.ref p)->OsQ os->os.length<=4->Q (.ref p) H'
def wu(B:Bl mg)(d8:Def P w K mg base "_law_common" 1 ["_law_one_here", "_law_other"] lP)(F:Fn K mg "_law_outcomes" Yz ["_law_state", "_law_cell", "_law_many"]):Def P w K mg base "_law_outcomes" 2 ["_law_state", "_law_cell", "_law_many"] (lZ K):=by
 refine F.ok QZ (λvs H Q E h=>?_) (λf qF A outer s H vs Q E hr h=>?_)
 . obtain⟨H0,s,m,ms,c,n,rfl,_⟩:=h;rfl
 obtain⟨H0,s,m,ms,c,n,rfl,hm,n1,n4,q⟩:=h
 refine⟨_,(@xu _ _ _ _ _ (XF (j:=3) QZ.nd rfl rfl (CompOk.of (x := "_law_k") (M:=["_law_cell"]) (ix:=[1]) rfl rfl (by decide +kernel) (by decide +kernel) rfl ⟨rfl,trivial⟩ 'g' ⟨⟨rfl,rfl,rfl,rfl⟩,trivial⟩) rfl (by decide +kernel) (Q5 rfl B.range (@xj _ _ _ _ _ (pv 2) xk rfl)) (λ_ _ _ _ _=>JP) (λ_ _ _ _ _=>(xx J7 xi (xx xV (xx xV (xx JE (xx J7 (xx J6 (pv 1) xi) (xx JE (pv 0) (pv 0))) xi) xi) xi))))
  (@xu _ _ _ _ _ (xO (xK QI (xL (xG hr) (pv 0) xt (λ_ _=>rfl)) xi (xN _)) (@xu _ _ _ _ _ (Je (xG hr) (pv 0) xt (xx ZX (xL (xG hr) (pv 0) xt (λ_ _=>rfl)) xi) rfl)
  (@xw _ _ _ (XF (j:=3) QZ.nd rfl rfl (CompOk.of (x := "_law_k") (M:=["_law_cell"]) (ix:=[1]) rfl rfl (by decide +kernel) (by decide +kernel) rfl ⟨rfl,trivial⟩ 'g' ⟨⟨rfl,rfl,rfl,rfl⟩,trivial⟩) rfl (by decide +kernel) (Q5 rfl B.range (@xj _ _ _ _ _ (pv 2) xk rfl)) (λ_ _ _ _ _=>JP) (λ_ _ _ _ _=>(xx J7 xi (xx xV (xx JE (xx J7 (xx J6 (pv 1) xi) (pv 0)) xi) xi)))))) xX)
  (@xu _ _ _ _ _ (xM (i:=4) QZ.nd rfl 'b' (J5 (uu K rfl rfl) rfl B.sum PyProof.Rows.boot_sum (@xj _ _ _ _ _ (pv 3) xk rfl)))
  (@xu _ _ _ _ _ (xM (i:=5) QZ.nd rfl 'b' (xx J7 xi (xx JE (xx xV (xx J6 (pv 1) xi) xi) (xx xV (xD (xE K rfl) (xL (xG hr) (pv 0) xt (λ_ _=>rfl)) xi (λ_ _=>rfl)) (xx ZY xi xi)))))
  (@xu _ _ _ _ _ (@Q0 _ 6 _ _ _ _ _ QZ.nd rfl 'b' (@QK _ _) rfl (by first|exact .inl rfl|exact .inr rfl))
  (@xu _ _ _ _ _ (Q6 PassesOwn.never rfl (Q5 rfl B.range (@xj _ _ _ _ _ (pv 2) xk rfl)) (Ju (i:=7) QZ.nd rfl 'b') (@xu _ _ _ _ _ (xM (i:=8) QZ.nd rfl 'b' (xI d8 hr rfl (@xj _ _ _ _ _ (xD (xE K rfl) (pv 3) (pv 7) (λ_ _=>rfl)) (@xj _ _ _ _ _ (pv 4) xk rfl) rfl)))
  (@xw _ _ _ (J1 (JD PySem.F.plainAttrs_list PySem.F.slot_list_append PySem.F.type_list_append Jy (pv 6) (@xj _ _ _ _ _ (@xZ _ _ _ _ _ _ _ (xx J7 (xx ZX (xx xV (xx J6 (pv 1) xi) xi) xi) (xx JE (pv 7) (pv 5))) (@xZ _ _ _ _ _ _ _ (xx J6 (xD (xE K rfl) (pv 3) (pv 7) (λ_ _=>rfl)) (pv 8)) (xx J6 (pv 4) (pv 8)) rfl rfl) rfl rfl) xk rfl))))))
  (@xw _ _ _ (xP (pv 6))))))))),?_⟩
 have big:(1000000:Nat)<sizeLine:=by decide
 have n62:(n:Int)<2 ^ 62:=by omega
 obtain⟨la,zs,e,ql,dl⟩:=hm.lg
 cases e
 obtain⟨_,_,rfl,rfl,_,_,rfl,rfl,rfl⟩:=dl;have intW:∀{H1 H2:Hp}{v:V},Same H1 H2->(∃k:Int,v=.int k/\1<=k/\k<=10 ^ 8)->∃k:Int,v=.int k/\1<=k/\k<=10 ^ 8:=λ_ h=>h;refine Zl ⟨_,rfl,_,rfl,by omega,n62,?_⟩;rw[ja];refine cC (λ_ v=>∃k:Int,v=.int k/\1<=k/\k<=10 ^ 8) intW 'd' (λi Da H' R hi sm nD oD hR=>?_) (λwl H1 ys s1 nw ew yl yh=>?_)
 . refine⟨_,rfl,_,_,rfl,rfl,⟨by decide,by decide⟩,_,rfl,_,rfl,_,_,rfl,rfl,QW (m:=10) (n:=10) 'd' 'd' 'f',_,_,rfl,rfl,_,_,rfl,rfl,IntMulOk.of_right 'f',_,_,rfl,rfl,(by show(0:Int) < 65519;decide),_,_,rfl,rfl,(by show(0:Int) < 5;decide),_,_,rfl,rfl,hR _ _ (Same.refl _) ⟨_,rfl,?_,?_⟩⟩
   . omega
   . omega
 obtain⟨ws,rfl,hw⟩:=cD yh;rw[jC]at yl;dsimp only[xF,List.set,L2.J2,jR];refine cV (λσ H'=>∃(wl:xb) (ws:qD) (kvs:List (Key×V)),σ=[some (.ref s.st),some (.int c),some (.int (n:Nat)),some (.ref wl),none,none,none,none,none]/\MkH K H0 H' { s with kvs:=kvs } (m::ms)/\H' wl=some (.lst (ws.map V.int))/\ws.length=n/\∀w∈ws,1<=w/\w<=10 ^ 8) (λQ' hQ=>?_) ?_ (λH2 R s2 hR=>?_) (λH2 R s2 hR=>hR _ _ ⟨wl,ws,s.kvs,rfl,hm.same (s1.trans s2),s2 _ _ ew,yl,hw⟩)
 . obtain⟨g,hg⟩:=hm.v.great;exact⟨_,rfl,s.st,_,rfl,xT (s1 _ _ hm.st) hg,_,_,rfl,rfl,_,rfl,hQ _ _ (Same.refl _)⟩
 . rintro σ H2 ⟨wl,ws,kvs,rfl,h2,qw,wn,hw⟩
   have sum0:∀(l:qD),(∀w∈l,1<=w/\w<=10 ^ 8)->0<=l.sum/\l.sum<=l.length*10 ^ 8/\(l≠[]->0<l.sum):=by
    intro l
    induction l with
    |nil=>intro _;exact⟨Int.le_refl _,by decide,λh=>absurd rfl h⟩
    |cons a l ih =>
     intro h;obtain⟨i1,i2,_⟩:=ih λw hw=>h w (jE _ hw);have ha:=h a (jH ..);rw[List.sum_cons,jU];exact⟨by omega,by omega,λ_=>by omega⟩
   obtain⟨w0,w1,w2⟩:=sum0 ws hw;rw[wn]at w1;have wp:=w2 (λz=>by rw[z]at wn;simp at wn;omega);have wl4:ws.sum<=4*10 ^ 8:=by omega
   have e9:∀k∈ws,0<=k/\k<=10 ^ 9:=λk hk=>by have:=hw k hk;omega
   refine⟨_,rfl,wl,ws,rfl,.of qw,e9,by omega,?_⟩;generalize ws.sum=wh at w0 wp wl4;obtain⟨_,zs2,e2,ql2,dl2⟩:=h2.lg
   cases e2
   obtain⟨_,_,rfl,rfl,_,_,rfl,rfl,rfl⟩:=dl2;have ql2:=(xJ _ _).seq ql2;have m0:=Int.emod_nonneg s.l1 (show((10:Int) ^ 50)≠0 by decide);have m1:=Int.emod_lt_of_pos s.l1 (show(0:Int)<10 ^ 50 by decide);dsimp only[xF,List.set];refine⟨_,rfl,_,_,rfl,rfl,⟨by decide,by decide⟩,_,_,rfl,rfl,(by show(0:Int)<2;decide),_,rfl,s.st,_,rfl,xT h2.st h2.v.large,.inl ⟨s.lg,_,1,.int s.l1,rfl,rfl,ql2,J9,_,_,rfl,rfl,⟨by decide,by decide,by decide⟩,_,_,rfl,rfl,(by show(0:Int)<10 ^ 50;decide),_,_,rfl,rfl,QW (m:=2) (n:=170) 'd' (by show(s.l1 % 10 ^ 50).natAbs<_;omega) 'f',_,_,rfl,rfl,?_⟩⟩
   have g1':(1+c / 3 % 2*(s.l1 % 10 ^ 50)).natAbs<2 ^ 180:=by
    have h:c / 3 % 2=0\/c / 3 % 2=1:=by omega
    rcases h with h|h<;>rw[h]<;>omega
   dsimp only[xF,List.set];refine⟨jS _,λfo nfo=>?_⟩;have u:=xy nfo (.lst []);have ef:upd H2 fo (.lst []) fo=some (.lst []):=xm;have nfa:fo∉had s (m::ms):=λz=>by obtain⟨o,e⟩:=h2.exh fo z;rw[e]at nfo;cases nfo
   generalize upd H2 fo (.lst [])=H3 at u ef ⊢;dsimp only[xF,List.set];refine⟨_,rfl,_,rfl,by omega,n62,?_⟩;rw[ja];refine QS (n:=n) (λi σ H'=>∃(os:List D) (ys:List V) (c7 c8:Option V),σ=[some (.ref s.st),some (.int c),some (.int (n:Nat)),some (.ref wl),some (.int wh),some (.int (1+c / 3 % 2*(s.l1 % 10 ^ 50))),some (.ref fo),c7,c8]/\Same H2 H'/\H' fo=some (.lst ys)/\IsDs K (hid (fo::had s (m::ms)) H') os ys/\OsQ os/\os.length=i) ⟨[],[],none,none,rfl,u,ef,rfl,(λ_ h=>nomatch h),rfl⟩ (λi σ H' hi h=>?_) (λσ H' h=>?_)
   . obtain⟨os,ys,c7,c8,rfl,s3,efo,ds,oq,ol⟩:=h;have yl:=ds.length;have hiw:i < ws.length:=by omega
     have atw:atI (ws.map V.int) (0+(i:Nat))=some (.int ws[i]):=by
      rw[Int.zero_add];exact Jx (by rw[jJ,jD hiw];rfl)
     have wi:=hw ws[i] (jp hiw);have qw3:SqL K H' wl (ws.map V.int) := .of (s3 _ _ qw);have lg:∀g:Int,0<g->g<=10 ^ 12->g.natAbs.log2<9000:=λg h1 h2=>jX ((Nat.log2_lt 'd').mpr (show g.natAbs<2 ^ 40 by omega)) 'f';dsimp only[xF,List.set];refine⟨_,rfl,_,rfl,.inl ⟨wl,_,_,_,rfl,rfl,qw3,atw,_,rfl,ws[i],wh,rfl,by omega,by omega,wp,by omega,λg g0 g1=>?_⟩⟩;dsimp only[xF,List.set];refine⟨_,rfl,.inl ⟨rfl,_,.of efo⟩,_,rfl,_,_,rfl,rfl,⟨by decide,by decide⟩,_,_,rfl,rfl,(by show(0:Int)<4;decide),_,_,rfl,rfl,_,rfl,_,rfl,_,_,rfl,rfl,QW (m:=10) (n:=180) 'd' g1' 'f',_,_,rfl,rfl,_,rfl,_,rfl,.inl ⟨wl,_,_,_,rfl,rfl,qw3,atw,_,rfl,_,_,rfl,rfl,⟨g0,lg g g0 g1⟩,_,rfl,_,rfl,_,_,rfl,rfl,⟨g0,lg g g0 g1⟩,by show 2<=sizeLine;decide,λp1 n1=>⟨by show 2<=sizeLine;decide,λp2 n2=>?_⟩⟩⟩;have u1:=xy n1 (.tup [.int (ws[i] / g),.int (wh / g)]);have u2:=xy n2 (.tup [.int (c / 11 % 4 - 2+(0+(i:Nat))*(1+c / 3 % 2*(s.l1 % 10 ^ 50))),.ref p1]);have h3:=h2.same s3
     have out:∀{p:xb},H' p=none->p∉fo::had s (m::ms):=λnp z=>by
      rcases jB.mp z with z|z
      . rw[z,efo]at np;cases np
      . obtain⟨o,e⟩:=h3.exh _ z;rw[e]at np;cases np
     have e1:=u2 _ _ (xm (H:=H') (o := .tup [.int (ws[i] / g),.int (wh / g)]));have e2:=xm (H:=upd H' p1 (.tup [.int (ws[i] / g),.int (wh / g)])) (a:=p2) (o := .tup [.int (c / 11 % 4 - 2+(0+(i:Nat))*(1+c / 3 % 2*(s.l1 % 10 ^ 50))),.ref p1]);have u:=u1.trans u2;have o2:=out (u1.free n2);refine⟨fo,ys,.ref p2,rfl,rfl,u _ _ efo,by omega,os++[.tup [.int (c / 11 % 4 - 2+(0+(i:Nat))*(1+c / 3 % 2*(s.l1 % 10 ^ 50))),.tup [.int (ws[i] / g),.int (wh / g)]]],_,_,_,rfl,Zk nfo (s3.trans u),xm,?_,λd hd=>?_,by rw[jY,ol];rfl⟩
     . rw[Qz (jH ..)];exact(ds.same (J3 u)).append ⟨_,[],rfl,⟨p2,_,rfl,.of (xQ o2 e2),_,_,rfl,rfl,_,_,rfl,⟨p1,_,rfl,.of (xQ (out n1) e1),_,_,rfl,rfl,_,_,rfl,rfl,rfl⟩,rfl⟩,rfl⟩
     . rcases jI.mp hd with hd | hd
       . exact oq d hd
       . exact⟨_,_,_,jA.mp hd⟩
   . obtain⟨os,ys,c7,c8,rfl,s3,efo,ds,oq,ol⟩:=h;refine⟨_,rfl,q fo os kvs H' (h2.same s3) ⟨fo,ys,rfl,.of (xQ nfa efo),ds.same λb o e=>?_⟩ oq 'd'⟩;unfold hid at e ⊢;split at e
     . cases e
     . rename_i hb;rw[k9 (λz=>hb (jE _ z))];exact e
 . obtain⟨g,hg⟩:=hm.v.great;have hs:=(s1.trans s2);have h1:=hm.same hs;have kl:=hm.v.len;refine⟨_,rfl,s.st,_,rfl,xT h1.st hg,_,_,rfl,rfl,_,rfl,s.st,_,rfl,DPut.k (k := .inr "great") h1.st 'd',?_⟩;have h3:=h1.dct (h1.v.great_ (g - 1)) ⟨rfl,rfl,rfl,rfl,rfl,rfl,rfl,rfl,rfl,rfl,rfl⟩;dsimp only at h3;dsimp only;generalize upd H2 s.st (.dK (xH s.kvs (.inr "great") (.int (g - 1))))=H3 at h3 ⊢;refine vc ?_;refine⟨_,rfl,_,rfl,by omega,n62,?_⟩;rw[ja];refine cC (λ_ v=>∃k:Int,v = .int k/\1<=k/\k<=10 ^ 8) intW 'd' (λi Da H' R hi sm nD oD hR=>?_) (λwl H4 ys s4 nw ew yl yh=>?_)
   . refine⟨_,rfl,_,_,rfl,rfl,⟨by decide,by decide⟩,_,rfl,_,_,rfl,rfl,_,_,rfl,rfl,IntMulOk.of_right 'f',_,_,rfl,rfl,(by show(0:Int) < 99999989;decide),_,_,rfl,rfl,hR _ _ (Same.refl _) ⟨_,rfl,?_,?_⟩⟩
     . omega
     . omega
   . obtain⟨ws,rfl,hw⟩:=cD yh;rw[jC]at yl;exact hR _ _ ⟨wl,ws,_,rfl,h3.same s4,ew,yl,hw⟩
section
variable {pool:qB}{ps:List Pt}
theorem wv{f g:qB->List Wr->Prop}(h:∀K rows,f K rows->g K rows){K:qB}:∀{r:Wr},ok1 pool ps f K r->ok1 pool ps g K r
 |.draw _ _,o=>o
 |.lett _ _,o=>o
 |.seen _,o=>o
 |.ifr _ _ _,⟨o1,o2,o3⟩=>⟨o1,h _ _ o2,h _ _ o3⟩
 |.rnd _ _,⟨o1,o2⟩=>⟨o1,h _ _ o2⟩
 |.call _ _ _,⟨o1,q,o2,o3,o4,o5,o6,o7,o8⟩=>⟨o1,q,o2,o3,o4,o5,o6,h _ _ o7,o8⟩
theorem m4(h:∀K rows,f K rows->g K rows):∀{rows:List Wr}{K:qB},okR pool ps f K rows->okR pool ps g K rows
 | [],_,_=>trivial
 |_::_,_,⟨o1,o2⟩=>⟨wv h o1,m4 h o2⟩
theorem m5:∀(d:Nat) {K:qB}{rows:List Wr},okD pool ps d K rows->okD pool ps (d+1) K rows
 |0,_,_,h=>h.elim
 |d+1,_,_,h=>m4 (λ_ _=>m5 d) h
def Z1{d e:Nat}(l:d<=e){K:qB}{rows:List Wr}(h:okD pool ps d K rows):okD pool ps e K rows:=by
 induction l with
 |refl=>exact h
 |step _ ih=>exact m5 _ ih
theorem ww{f g:List Wr->Nat}{o:qB->List Wr->Prop}(h:∀K rows,o K rows->f rows=g rows){K:qB}:∀{r:Wr},ok1 pool ps o K r->cs1 pool ps f r=cs1 pool ps g r
 |.draw _ _,_=>rfl
 |.lett _ _,_=>rfl
 |.seen _,_=>rfl
 |.ifr _ _ _,⟨_,o2,o3⟩=>by show _+f _+f _=_+g _+g _;rw[h _ _ o2,h _ _ o3]
 |.rnd _ _,⟨_,o2⟩=>by show _*f _=_*g _;rw[h _ _ o2]
 |.call _ p _,⟨_,q,o2,_,_,_,_,o7,_⟩=>by
  show(match fnd ps p with|none=>0|some q=>1+_+f q.rs)=(match fnd ps p with|none=>0|some q=>1+_+g q.rs);rw[o2];show 1+_+f q.rs=1+_+g q.rs;rw[h _ _ o7]
theorem m7(h:∀K rows,o K rows->f rows=g rows):∀{rows:List Wr}{K:qB},okR pool ps o K rows->csR pool ps f rows=csR pool ps g rows
 | [],_,_=>rfl
 |_::_,_,⟨o1,o2⟩=>by unfold csR;rw[ww h o1,m7 h o2]
theorem m8:∀(d:Nat) {K:qB}{rows:List Wr},okD pool ps d K rows->csD pool ps (d+1) rows=csD pool ps d rows
 |0,_,_,h=>h.elim
 |d+1,_,_,h=>m7 (o:=okD pool ps d) (λ_ _ o=>m8 d o) h
def aA{d e:Nat}(l:d<=e){K:qB}{rows:List Wr}(h:okD pool ps d K rows):csD pool ps e rows=csD pool ps d rows:=by
 induction l with
 |refl=>rfl
 |step l ih=>rw[m8 _ (Z1 l h),ih]
def m9(h:fnd ps p=some q):fnd (ps++[r]) p=some q:=by
 unfold fnd at h ⊢;rw[List.find?_append,h];rfl
theorem wx{f g:qB->List Wr->Prop}{r:Pt}(h:∀K rows,f K rows->g K rows){K:qB}:∀{w:Wr},ok1 pool ps f K w->ok1 pool (ps++[r]) g K w
 |.draw _ _,o=>o
 |.lett _ _,o=>o
 |.seen _,o=>o
 |.ifr _ _ _,⟨o1,o2,o3⟩=>⟨o1,h _ _ o2,h _ _ o3⟩
 |.rnd _ _,⟨o1,o2⟩=>⟨o1,h _ _ o2⟩
 |.call _ _ _,⟨o1,q,o2,o3,o4,o5,o6,o7,o8⟩=>⟨o1,q,m9 o2,o3,o4,o5,o6,h _ _ o7,o8⟩
theorem ma(h:∀K rows,f K rows->g K rows):∀{rows:List Wr}{K:qB},okR pool ps f K rows->okR pool (ps++[r]) g K rows
 | [],_,_=>trivial
 |_::_,_,⟨o1,o2⟩=>⟨wx h o1,ma h o2⟩
theorem d9:∀(d:Nat) {K:qB}{rows:List Wr},okD pool ps d K rows->okD pool (ps++[r]) d K rows
 |0,_,_,h=>h
 |d+1,_,_,h=>ma (λ_ _=>d9 d) h
theorem wz{f g:List Wr->Nat}{o:qB->List Wr->Prop}{r:Pt}(h:∀K rows,o K rows->f rows=g rows){K:qB}:∀{w:Wr},ok1 pool ps o K w->cs1 pool (ps++[r]) f w=cs1 pool ps g w
 |.draw _ _,_=>rfl
 |.lett _ _,_=>rfl
 |.seen _,_=>rfl
 |.ifr _ _ _,⟨_,o2,o3⟩=>by show _+f _+f _=_+g _+g _;rw[h _ _ o2,h _ _ o3]
 |.rnd _ _,⟨_,o2⟩=>by show _*f _=_*g _;rw[h _ _ o2]
 |.call _ p _,⟨_,q,o2,_,_,_,_,o7,_⟩=>by
  show(match fnd (ps++[r]) p with|none=>0|some q=>1+_+f q.rs)=(match fnd ps p with|none=>0|some q=>1+_+g q.rs);rw[o2,m9 o2];show 1+_+f q.rs=1+_+g q.rs;rw[h _ _ o7]
theorem me(h:∀K rows,o K rows->f rows=g rows):∀{rows:List Wr}{K:qB},okR pool ps o K rows->csR pool (ps++[r]) f rows=csR pool ps g rows
 | [],_,_=>rfl
 |_::_,_,⟨o1,o2⟩=>by unfold csR;rw[wz h o1,me h o2]
theorem df:∀(d:Nat) {K:qB}{rows:List Wr},okD pool ps d K rows->csD pool (ps++[r]) d rows=csD pool ps d rows
 |0,_,_,h=>h.elim
 |d+1,_,_,h=>me (o:=okD pool ps d) (λ_ _ o=>df d o) h
end
def ln1(f:List Wr->Prop):Wr->Prop
 |.ifr _ a c=>f a/\f c
 |.rnd _ a=>f a
 |_=>True
def lnD:Nat->List Wr->Prop
 |0=>λ_=>False
 |d+1=>λrows=>rows.length<=600/\∀r∈rows,ln1 (lnD d) r
def aB(d:Nat):lnD (d+1) []:=⟨by decide,λ_ h=>nomatch h⟩
def mh(h:lnD (d+1) a)(l:a.length+1<=600)(hr:ln1 (lnD d) r):lnD (d+1) (a++[r]):=by
 refine⟨by rw[jY];exact l,λx hx=>?_⟩;rcases jI.mp hx with z|z
 . exact h.2 x z
 . rw[jA.mp z];exact hr
structure PqOk (pool:qB) (ps:List Pt) (b:Nat) (pq:List Pi):Prop where
 p6:pool.length=6
 nd:(ps.map (·.nm)).Nodup
 few:ps.length<=2
 ok:∀q∈ps,okD pool ps b q.pa q.rs/\(∀n∈q.pa,n∈pool)/\OkE (q.pa++knR q.rs) q.e/\q.pa.length<=4/\lnD 6 q.rs
 pr:Paired (λ(q:Pt) (i:Pi)=>i.nm=q.nm/\i.np=q.pa.length/\csD pool ps b q.rs<=i.sz/\i.sz<=20/\i.wy<=4) ps pq
section
variable (pool:qB) (ps:List Pt) (b:Nat)
structure FrM (i n:Nat) (m:Fr):Prop where
 n5:n<=5
 s5:∀x∈m.l5,x∈pool
 s6:∀x∈m.l6,x∈pool
 d6:m.l6.Nodup
 o2:okD pool ps (b+(5 - n)+1) m.l5 m.ra
 o3:okD pool ps (b+(5 - n)+1) m.l5 m.rb
 len:m.ra.length+m.rb.length<=i
 num:m.num<=3
 e:m.kd = "if" -> EOk m.l5 3 m.e
 br:(m.els=true/\m.kd = "if" /\ (∀x,x∈m.l7↔x∈m.l5\/x∈knR m.ra)/\∀x,x∈m.l6↔x∈m.l5\/x∈knR m.rb)\/(m.els=false/\m.rb=[]/\∀x,x∈m.l6↔x∈m.l5\/x∈knR m.ra)
 g2:lnD (5 - n+1) m.ra
 g3:lnD (5 - n+1) m.rb
def Chain(K0:qB)(pre:List Wr)(i:Nat):List Fr->Prop
 | []=>False
 | [m]=>FrM pool ps b i 0 m/\m.kd = "" /\ m.els=false/\m.l5=K0/\∃t,m.ra=pre++t
 |m::m'::ms=>FrM pool ps b i (ms.length+1) m/\(m.kd = "if" \/ m.kd = "rounds")/\m.l5=m'.l6/\Chain K0 pre i (m'::ms)
def own(n:Nat)(m:Fr):Nat:=if m.kd = "if" then 9+csD pool ps (b+(5 - n)+1) m.ra+csD pool ps (b+(5 - n)+1) m.rb else if m.kd = "rounds" then m.num*csD pool ps (b+(5 - n)+1) m.ra else csD pool ps (b+(5 - n)+1) m.ra
def wei:List Fr->Nat
 | []=>0
 |m::ms=>turns ms*own pool ps b ms.length m+wei ms
end
structure StM (pool:qB) (ps:List Pt) (b:Nat) (K0:qB) (pre:List Wr) (i:Nat) (s:Sa) (ms:List Fr):Prop where
 nm:s.nm=pool
 pq:PqOk pool ps b s.pq
 ch:Chain pool ps b K0 pre i ms
 w:wei pool ps b ms<=s.size
 sm:Small s ms
section
variable {pool:qB}{ps:List Pt}{b:Nat}{K0:qB}{pre:List Wr}{i:Nat}{s:Sa}{m m':Fr}{ms:List Fr}
def Chain.top(h:Chain pool ps b K0 pre i (m::ms)):FrM pool ps b i ms.length m:=by
 cases ms with
 |nil=>exact h.1
 |cons m' ms=>exact h.1
def FrM.up(h:FrM pool ps b i n m)(l:i<=j):FrM pool ps b j n m:=⟨h.n5,h.s5,h.s6,h.d6,h.o2,h.o3,je h.len l,h.num,h.e,h.br,h.g2,h.g3⟩
theorem Chain.up(l:i<=j):∀{ms:List Fr},Chain pool ps b K0 pre i ms->Chain pool ps b K0 pre j ms
 | [],h=>h.elim
 | [_],⟨h1,h2⟩=>⟨h1.up l,h2⟩
 |_::_::_,⟨h1,h2,h3,h4⟩=>⟨h1.up l,h2,h3,Chain.up l h4⟩
theorem FrM.l6(h:FrM pool ps b i n m)(p6:pool.length=6):m.l6.length<=6:=by
 have:=List.Nodup.length_le_of_subset h.d6 h.s6;omega
def Chain.re(h:Chain pool ps b K0 pre i (m::ms))(l:i<=j)(f:FrM pool ps b j ms.length m1)(kd:m1.kd=m.kd)(l5:m1.l5=m.l5)(el:ms=[]->m1.els=m.els)(pr:ms=[]->∃t,m1.ra=m.ra++t):Chain pool ps b K0 pre j (m1::ms):=by
 cases ms with
 |nil =>
  obtain⟨_,h2,h3,h4,t,h5⟩:=h;obtain⟨t',e'⟩:=pr rfl;exact⟨f,kd.trans h2,(el rfl).trans h3,l5.trans h4,t++t',by rw[e',h5,jw]⟩
 |cons m' ms =>
  obtain⟨_,h2,h3,h4⟩:=h;exact⟨f,by rw[kd];exact h2,l5.trans h3,h4.up l⟩
def Fr.cur(m:Fr):List Wr:=if m.els=true then m.rb else m.ra
def FrM.kn(h:FrM pool ps b i n m)(x:Str):x∈m.l6↔x∈m.l5++knR m.cur:=by
 rw[jI];unfold Fr.cur;rcases h.br with ⟨e,_,_,h1⟩|⟨e,_,h1⟩
 . rw[ke e];exact h1 x
 . rw[k9 (by rw[e];decide)];exact h1 x
def Fr.nxt(m:Fr)(r:Wr)(x:V)(a:xb)(l:qB):Fr:={ m.put r x with n6:=a,l6:=l }
def di(m:Fr)(r:Wr)(x:V):m.app r x=m.nxt r x m.n6 (adO m.l6 r.gv):=by
 unfold Fr.app Fr.nxt Fr.put;split<;>rfl
def dj(e:m.els=true):m.nxt r x a l={ m with rb:=m.rb++[r],x3:=m.x3++[x],n6:=a,l6:=l }:=by unfold Fr.nxt Fr.put;rw[ke e]
def Z2(e:m.els=false):m.nxt r x a l={ m with ra:=m.ra++[r],x2:=m.x2++[x],n6:=a,l6:=l }:=by unfold Fr.nxt Fr.put;rw[k9 (by rw[e];decide)]
def mj(a:List Wr)(r:Wr):knR (a++[r])=knR a++kn1 r:=by rw[iO];show knR a++(kn1 r++[])=_;rw[jR]
def ml{d:Nat}{K:qB}{a:List Wr}{r:Wr}(h:okD pool ps (d+1) K a)(o:ok1 pool ps (okD pool ps d) (K++knR a) r):okD pool ps (d+1) K (a++[r]):=(ae pool ps _ a [r] K).mpr ⟨h,o,trivial⟩
def mn(a:List Wr)(r:Wr):csD pool ps (d+1) (a++[r])=csD pool ps (d+1) a+cs1 pool ps (csD pool ps d) r:=by
 show csR pool ps (csD pool ps d) (a++[r])=csR pool ps (csD pool ps d) a+_;rw[ac];rfl
def FrM.add(h:FrM pool ps b i n m)(o:ok1 pool ps (okD pool ps (b+(5 - n))) (m.l5++knR m.cur) r)(hl:∀y,y∈l↔y∈m.l6\/y∈kn1 r)(s6:∀y∈l,y∈pool)(d6:l.Nodup)(i5:i<=500)(hg:ln1 (lnD (5 - n)) r):FrM pool ps b (i+1) n (m.nxt r x a l):=by
 have len:=h.len;rcases h.br with ⟨e,e1,e2,e3⟩|⟨e,e1,e2⟩
 . rw[dj e];unfold Fr.cur at o;rw[ke e]at o;refine⟨h.n5,h.s5,s6,d6,h.o2,ml h.o3 o,by show m.ra.length+(m.rb++[r]).length<=i+1;rw[jY,List.length_singleton];omega,h.num,h.e,.inl ⟨e,e1,e2,λy=>?_⟩,h.g2,mh h.g3 'd' hg⟩;show y∈l↔y∈m.l5\/y∈knR (m.rb++[r]);rw[mj,jI,hl,e3,or_assoc]
 . rw[Z2 e];unfold Fr.cur at o;rw[k9 (by rw[e];decide)]at o;refine⟨h.n5,h.s5,s6,d6,ml h.o2 o,h.o3,by show(m.ra++[r]).length+m.rb.length<=i+1;rw[jY,List.length_singleton];omega,h.num,h.e,.inr ⟨e,e1,λy=>?_⟩,mh h.g2 'd' hg,h.g3⟩;show y∈l↔y∈m.l5\/y∈knR (m.ra++[r]);rw[mj,jI,hl,e2,or_assoc]
def mq(h:FrM pool ps b i n m):own pool ps b n (m.nxt r x a l)=own pool ps b n m+m.tn*cs1 pool ps (csD pool ps (b+(5 - n))) r:=by
 rcases h.br with ⟨e,e1,_⟩|⟨e,_⟩
 . rw[dj e];unfold own Fr.tn;dsimp only;rw[ke e1,ke e1,mn,k9 (by rw[e1];decide)];omega
 . rw[Z2 e];unfold own Fr.tn;dsimp only;rw[mn]
   by_cases c:m.kd = "if"
   . rw[ke c,ke c,k9 (by rw[c];decide)];omega
   . rw[k9 c,k9 c]
     by_cases c2:m.kd = "rounds"
     . rw[ke c2,ke c2,ke c2,Nat.mul_add]
     . rw[k9 c2,k9 c2,k9 c2];omega
def mr:(m.nxt r x a l).tn=m.tn/\(m.nxt r x a l).kd=m.kd/\(m.nxt r x a l).l5=m.l5/\(m.nxt r x a l).els=m.els/\(m.nxt r x a l).num=m.num:=by
 unfold Fr.nxt Fr.put;split<;>exact⟨rfl,rfl,rfl,rfl,rfl⟩
theorem StM.put(h:StM pool ps b K0 pre i s (m::ms))(o:ok1 pool ps (okD pool ps (b+(5 - ms.length))) (m.l5++knR m.cur) r)(g:kn1 r=r.gv.toList)(gp:∀y,r.gv=some y->y∈pool)(nm:s'.nm=s.nm)(pq:s'.pq=s.pq)(sz:s.size+turns (m::ms)*cs1 pool ps (csD pool ps (b+(5 - ms.length))) r<=s'.size)(sm:Small s' (m::ms))(i5:i<=500)(hg:∀f,ln1 f r):StM pool ps b K0 pre (i+1) s' (m.app r x::ms):=by
 have t:=h.ch.top;rw[di]
 have hl:∀y,y∈adO m.l6 r.gv↔y∈m.l6\/y∈kn1 r:=λy=>by
  rw[g]
  cases r.gv with
  |none=>exact⟨.inl,λz=>z.elim id λz=>nomatch z⟩
  |some v =>
   show y∈(if v∈m.l6 then m.l6 else m.l6++[v])↔y∈m.l6\/y∈[v];split
   . rename_i c;exact⟨.inl,λz=>z.elim id λz=>by rw[jA.mp z];exact c⟩
   . exact jI
 have f:=t.add (x:=x) (a:=m.n6) o hl (λy hy=>by
  rcases(hl y).mp hy with z|z
  . exact t.s6 y z
  . rw[g]at z;exact gp y (Option.mem_toList.mp z)) (by
  cases r.gv with
  |none=>exact t.d6
  |some v =>
   show(if v∈m.l6 then m.l6 else m.l6++[v]).Nodup;split
   . exact t.d6
   . rename_i c;rw[j3];exact⟨t.d6,by simp,λa ha b hb z=>c (by rw[<- jA.mp hb,<- z];exact ha)⟩) i5 (hg _)
 obtain⟨e1,e2,e3,e4,e5⟩:=mr (m:=m) (r:=r) (x:=x) (a:=m.n6) (l:=adO m.l6 r.gv);refine⟨nm.trans h.nm,by rw[pq];exact h.pq,h.ch.re (j7 i) f e2 e3 (λ_=>e4) λz=>?_,?_,⟨sm.few,λx hx=>?_,sm.ways,sm.limit,sm.size,sm.room⟩⟩
 . subst z;have el:m.els=false:=h.ch.2.2.1;rw[Z2 el];exact⟨[r],rfl⟩
 . have w:=h.w;unfold wei at w ⊢;rw[mq t,Nat.mul_add,<- Nat.mul_assoc];have:turns (m::ms)=turns ms*m.tn:=rfl;rw[this]at sz;omega
 . rcases jB.mp hx with rfl | hx
   . rw[e5];exact sm.num m (jH ..)
   . exact sm.num x (jE _ hx)
def StM.pop(h:StM pool ps b K0 pre i s (m::m'::ms))(hr:(m.kd = "if" /\ r=.ifr m.e m.ra m.rb)\/(m.kd = "rounds" /\ r=.rnd m.num m.ra))(hl:∀y,y∈l↔y∈m'.l6\/y∈kn1 r)(d6:l.Nodup)(i5:i<=500):StM pool ps b K0 pre (i+1) s (m'.nxt r x a l::ms):=by
 obtain⟨t,kd,l5,ch⟩:=h.ch;have t':=ch.top;have n5:=t.n5;have ed:b+(5 - (ms.length+1))+1=b+(5 - ms.length):=by omega
 have o2:=t.o2;have o3:=t.o3;rw[ed]at o2 o3;have sub:∀y∈m.l5,y∈m'.l5++knR m'.cur:=λy hy=>(t'.kn y).mp (by rw[<- l5];exact hy);have o2':=Qy pool ps _ _ _ _ sub o2;have o3':=Qy pool ps _ _ _ _ sub o3
 have o:ok1 pool ps (okD pool ps (b+(5 - ms.length))) (m'.l5++knR m'.cur) r:=by
  rcases hr with ⟨c,rfl⟩|⟨c,rfl⟩
  . have e:=t.e c;exact⟨⟨e.1,by have:=e.2.1;omega,λn hn=>sub n (e.2.2 n hn)⟩,o2',o3'⟩
  . exact⟨by have:=t.num;omega,o2'⟩
 have k1:∀y∈kn1 r,y∈pool:=λy hy=>by
  have s2:=(Qc pool ps _ m.l5 m.ra none ⟨[],λn=>if n∈m.l5 then some "" else none⟩ o2 (λn=>by by_cases c:n∈m.l5<;>simp[c]) t.s5).2;rcases hr with ⟨c,rfl⟩|⟨c,rfl⟩
  . exact s2 y (j6.mp hy).1
  . have hy:y∈if 0 < m.num then knR m.ra else []:=hy;split at hy
    . exact s2 y hy
    . cases hy
 have g2:=t.g2;have g3:=t.g3;rw[show 5 - (ms.length+1)+1=5 - ms.length by omega]at g2 g3
 have f:=t'.add (x:=x) (a:=a) o hl (λy hy=>((hl y).mp hy).elim (t'.s6 y) (k1 y)) d6 i5 (by
  rcases hr with ⟨_,rfl⟩|⟨_,rfl⟩
  . exact⟨g2,g3⟩
  . exact g2)
 obtain⟨e1,e2,e3,e4,e5⟩:=mr (m:=m') (r:=r) (x:=x) (a:=a) (l:=l);have sm:=h.sm;refine⟨h.nm,h.pq,ch.re (j7 i) f e2 e3 (λ_=>e4) λz=>?_,?_,⟨by have:=sm.few;simp only[jU]at this ⊢;omega,λx hx=>?_,sm.ways,sm.limit,sm.size,sm.room⟩⟩
 . subst z;have el:m'.els=false:=ch.2.2.1;rw[Z2 el];exact⟨[r],rfl⟩
 . have w:=h.w;unfold wei at w;rw[show wei pool ps b (m' :: ms)=turns ms * own pool ps b ms.length m' + wei pool ps b ms from rfl]at w;unfold wei;rw[mq t',Nat.mul_add,<- Nat.mul_assoc]
   have ec:own pool ps b (m'::ms).length m=cs1 pool ps (csD pool ps (b+(5 - ms.length))) r:=by
    unfold own;rw[jU,ed];rcases hr with ⟨c,rfl⟩|⟨c,rfl⟩
    . rw[ke c];show _=3+pool.length+_+_;rw[h.pq.p6]
    . rw[k9 (by rw[c];decide),ke c];rfl
   rw[ec,show turns (m'::ms)=turns ms*m'.tn from rfl]at w;omega
 . rcases jB.mp hx with rfl | hx
   . rw[e5];exact sm.num m' 'j'
   . exact sm.num x (jE _ (jE _ hx))
theorem StM.push{s':Sa}{m1:Fr}(h:StM pool ps b K0 pre i s (m::ms))(few:(m::ms).length<6)(ra:m1.ra=[])(rb:m1.rb=[])(el:m1.els=false)(l5:m1.l5=m.l6)(l6:m1.l6=m.l6)(kd:(m1.kd = "if" /\ EOk m.l6 3 m1.e/\s.size+turns (m::ms)*9<=s'.size)\/(m1.kd = "rounds" /\ s.size<=s'.size))(num:m1.num<=3)(nm:s'.nm=s.nm)(pq:s'.pq=s.pq)(sm:Small s' (m::ms)):StM pool ps b K0 pre (i+1) s' (m1::m::ms):=by
 have t:=h.ch.top;have len:ms.length+1<6:=few
 have ow:own pool ps b (m::ms).length m1=if m1.kd = "if" then 9 else 0:=by
  unfold own;rw[ra,rb];rcases kd with ⟨c,_⟩|⟨c,_⟩
  . rw[ke c,ke c];rfl
  . rw[k9 (by rw[c];decide),ke c,k9 (by rw[c];decide)];exact Nat.mul_zero _
 refine⟨nm.trans h.nm,by rw[pq];exact h.pq,⟨⟨by omega,by rw[l5];exact t.s6,by rw[l6];exact t.s6,by rw[l6];exact t.d6,by rw[ra];trivial,by rw[rb];trivial,by rw[ra,rb];exact jS _,num,λc=>?_,.inr ⟨el,rb,λy=>?_⟩,by rw[ra];exact aB _,by rw[rb];exact aB _⟩,kd.imp (·.1) (·.1),l5,h.ch.up (j7 i)⟩,?_,⟨by rw[jU];exact few,λx hx=>?_,sm.ways,sm.limit,sm.size,sm.room⟩⟩
 . rcases kd with ⟨_,e,_⟩ | ⟨c',_⟩
   . rw[l5];exact e
   . rw[c']at c;exact absurd c 'f'
 . rw[l6,l5,ra];exact⟨.inl,λz=>z.elim id λz=>nomatch z⟩
 . have w:=h.w;unfold wei;rw[ow];rcases kd with ⟨c,_,e⟩ | ⟨c,e⟩
   . rw[ke c];omega
   . rw[k9 (by rw[c];decide)];omega
 . rcases jB.mp hx with rfl | hx
   . exact num
   . exact sm.num x hx
theorem StM.turn(h:StM pool ps b K0 pre i s (m::ms))(c:m.kd = "if")(el:m.els=false)(e1:m1.els=true)(ra:m1.ra=m.ra)(rb:m1.rb=m.rb)(kd:m1.kd=m.kd)(num:m1.num=m.num)(ee:m1.e=m.e)(l5:m1.l5=m.l5)(l6:m1.l6=m.l5)(l7:m1.l7=m.l6)(nd:m.l5.Nodup):StM pool ps b K0 pre (i+1) s (m1::ms):=by
 have t:=h.ch.top;rcases t.br with ⟨z,_⟩|⟨_,z1,z2⟩
 . rw[el]at z;cases z
 have f:FrM pool ps b (i+1) ms.length m1:=⟨t.n5,by rw[l5];exact t.s5,by rw[l6];exact t.s5,by rw[l6];exact nd,by rw[ra,l5];exact t.o2,by rw[rb,l5];exact t.o3,by rw[ra,rb];exact Nat.le_succ_of_le t.len,by rw[num];exact t.num,by rw[kd,l5,ee];exact t.e,.inl ⟨e1,kd.trans c,by rw[l7,l5,ra];exact z2,λy=>by rw[l6,l5,rb,z1];exact⟨.inl,λz=>z.elim id λz=>nomatch z⟩⟩,by rw[ra];exact t.g2,by rw[rb];exact t.g3⟩
 have ne:ms≠[]:=λz=>by
  subst z;have:=h.ch.2.1;rw[c]at this;exact absurd this 'f'
 refine⟨h.nm,h.pq,h.ch.re (j7 i) f kd l5 (λz=>absurd z ne) (λz=>absurd z ne),?_,⟨h.sm.few,λx hx=>?_,h.sm.ways,h.sm.limit,h.sm.size,h.sm.room⟩⟩
 . have w:=h.w;unfold wei at w ⊢;have:own pool ps b ms.length m1=own pool ps b ms.length m:=by unfold own;rw[kd,ra,rb,num]
   rw[this];exact w
 . rcases jB.mp hx with rfl | hx
   . rw[num];exact h.sm.num m (jH ..)
   . exact h.sm.num x (jE _ hx)
def StM.nd5(h:StM pool ps b K0 pre i s (m::m'::ms)):m.l5.Nodup:=by rw[h.ch.2.2.1];exact h.ch.2.2.2.top.d6
end
section
variable {H0 H H':Hp}{s:Sa}{m m':Fr}{ms:List Fr}{r:Wr}{x:V}{a:xb}{l:qB}
def aC:(m'.nxt r x a l).adr=[m'.f,m'.r2,m'.r3,a]:=by
 unfold Fr.nxt Fr.put;split<;>rfl
def aD(hm:MkH K H0 H s (m::m'::ms))(ha:a=m'.n6\/a=m.n6\/H a=none):a≠m'.f/\a≠m'.r2/\a≠m'.r3/\a≠m.r2/\a≠m.r3/\a≠m.f/\a∉adrs s ms:=by
 obtain⟨a1,a2,a3,a4,a5,a6⟩:=JU hm.nd;obtain⟨b1,b2,b3,b4,b5,b6⟩:=JU a6;obtain⟨x1,x2,x3,x4,x5,x6⟩:=Xa a1;obtain⟨y1,y2,y3,y4,y5,y6⟩:=Xa b1;have mm:∀z∈m.adr,z∉m'.adr:=λz hz=>a5 z hz m' (jH ..);have t:=hm.fr m (jH ..);have t':=hm.fr m' (jE _ (jH ..))
 have nin:∀z,z∈m.adr\/z∈m'.adr->z∉adrs s ms:=λz hz w=>by
  simp only[adrs,jB]at w;rcases hz with hz|hz
  . rcases w with w | w | w | w
    . exact a2 (w ▸ hz)
    . exact a3 (w ▸ hz)
    . exact a4 (w ▸ hz)
    obtain⟨y,hy,w⟩:=jr.mp w;exact a5 z hz y (jE _ hy) w
  . rcases w with w | w | w | w
    . exact b2 (w ▸ hz)
    . exact b3 (w ▸ hz)
    . exact b4 (w ▸ hz)
    obtain⟨y,hy,w⟩:=jr.mp w;exact b5 z hz y hy w
 rcases ha with rfl|rfl|n
 . exact⟨y3.symm,y5.symm,y6.symm,λz=>mm m.r2 (by simp[Fr.adr]) (by rw[<- z];simp[Fr.adr]),λz=>mm m.r3 (by simp[Fr.adr]) (by rw[<- z];simp[Fr.adr]),λz=>mm m.f (by simp[Fr.adr]) (by rw[<- z];simp[Fr.adr]),nin _ (.inr (by simp[Fr.adr]))⟩
 . exact⟨λz=>mm m.n6 (by simp[Fr.adr]) (by rw[z];simp[Fr.adr]),λz=>mm m.n6 (by simp[Fr.adr]) (by rw[z];simp[Fr.adr]),λz=>mm m.n6 (by simp[Fr.adr]) (by rw[z];simp[Fr.adr]),x5.symm,x6.symm,x3.symm,nin _ (.inl (by simp[Fr.adr]))⟩
 . refine⟨λz=>?_,λz=>?_,λz=>?_,λz=>?_,λz=>?_,λz=>?_,λz=>?_⟩
   . rw[z,t'.f]at n;cases n
   . rw[z,t'.r2]at n;cases n
   . rw[z,t'.r3]at n;cases n
   . rw[z,t.r2]at n;cases n
   . rw[z,t.r3]at n;cases n
   . rw[z,t.f]at n;cases n
   . obtain⟨o,e⟩:=hm.ex a (by
      simp only[adrs,jB,jc,jI]at z ⊢;rcases z with z|z|z|z
      . exact .inl z
      . exact .inr (.inl z)
      . exact .inr (.inr (.inl z))
      . exact .inr (.inr (.inr (.inr (.inr z)))))
     rw[e]at n;cases n
def wA(hm:MkH K H0 H s (m::m'::ms))(ha:a=m'.n6\/a=m.n6\/H a=none)(hy:(H y=none/\y≠a)\/y=m.r2\/y=m.r3):y∉adrs s (m'.nxt r x a l::ms):=λz=>by
 obtain⟨c1,c2,c3,c4,c5,c6,c7⟩:=aD hm ha;obtain⟨a1,a2,a3,a4,a5,a6⟩:=JU hm.nd;have mm:∀z∈m.adr,z∉m'.adr:=λz hz=>a5 z hz m' (jH ..);simp only[adrs,jB,jc,jI,aC,jb,kP]at z
 have inA:y=s.st\/y=s.pl\/y=s.fl\/(y=m'.f\/y=m'.r2\/y=m'.r3)\/y∈ms.flatMap Fr.adr->y∈adrs s (m::m'::ms):=λw=>by
  simp only[adrs,jB,jc,jI,Fr.adr,jb,kP];rcases w with w|w|w|(w|w|w)|w
  . exact .inl w
  . exact .inr (.inl w)
  . exact .inr (.inr (.inl w))
  . exact .inr (.inr (.inr (.inr (.inl (.inl w)))))
  . exact .inr (.inr (.inr (.inr (.inl (.inr (.inl w))))))
  . exact .inr (.inr (.inr (.inr (.inl (.inr (.inr (.inl w)))))))
  . exact .inr (.inr (.inr (.inr (.inr w))))
 have cs:y=a\/(y=s.st\/y=s.pl\/y=s.fl\/(y=m'.f\/y=m'.r2\/y=m'.r3)\/y∈ms.flatMap Fr.adr):=by
  rcases z with z|z|z|(z|z|z|z)|z
  . exact .inr (.inl z)
  . exact .inr (.inr (.inl z))
  . exact .inr (.inr (.inr (.inl z)))
  . exact .inr (.inr (.inr (.inr (.inl (.inl z)))))
  . exact .inr (.inr (.inr (.inr (.inl (.inr (.inl z))))))
  . exact .inr (.inr (.inr (.inr (.inl (.inr (.inr z))))))
  . exact .inl z
  . exact .inr (.inr (.inr (.inr (.inr z))))
 rcases hy with ⟨n,ne⟩|hy
 . rcases cs with c | c
   . exact ne c
   . obtain⟨o,e⟩:=hm.ex y (inA c);rw[e]at n;cases n
 . have yi:y∈m.adr:=by rcases hy with rfl | rfl<;>simp[Fr.adr]
   rcases cs with c|c|c|c|c|c
   . rcases hy with rfl | rfl
     . exact c4 c.symm
     . exact c5 c.symm
   . exact a2 (c ▸ yi)
   . exact a3 (c ▸ yi)
   . exact a4 (c ▸ yi)
   . exact mm y yi (by rcases c with c|c|c<;>simp[Fr.adr,c])
   . obtain⟨v,hv,c⟩:=jr.mp c;exact a5 y yi v (jE _ hv) c
def aE(h:y∈m.adr)(hm:m∈ms):y∈s.fl::ms.flatMap Fr.adr:=jE _ (jr.mpr ⟨m,hm,h⟩)
def Xp(hm:MkH K H0 H s (m::m'::ms))(ha:a=m'.n6\/a=m.n6\/H a=none)(hy:(H y=none/\y≠a)\/y=m.r2\/y=m.r3):y∉had s (m'.nxt r x a l::ms):=av (wA hm ha hy) (by
 rcases hy with ⟨n,_⟩|hy
 . exact λz=>by
    obtain⟨o,e⟩:=hm.exh y (jM _ z);rw[e]at n;cases n
 . exact hm.nex (aE (m:=m) (by rcases hy with rfl|rfl<;>simp[Fr.adr]) (jH ..)))
def MkH.close(hm:MkH K H0 H s (m::m'::ms))(ha:a=m'.n6\/a=m.n6\/H a=none)(k:∀b o,b∉s.fl::m'.adr->H b=some o->H' b=some o)(fl:H' s.fl=some (.lst ((m'::ms).reverse.map λm=>V.ref m.f)))
 (f:H' m'.f=some (.dK (m'.nxt r x a l).kv)) (r2:H' m'.r2=some (.lst (m'.nxt r x a l).x2)) (r3:H' m'.r3=some (.lst (m'.nxt r x a l).x3)) (n6:H' a=some (.lst (l.map V.str)))
 (row:Same (hid (had s (m::m'::ms)) H) (hid (had s (m'.nxt r x a l::ms)) H')->IsD K (hid (had s (m'.nxt r x a l::ms)) H') (dW r) x):MkH K H0 H' s (m'.nxt r x a l::ms):=by
 obtain⟨c1,c2,c3,c4,c5,c6,c7⟩:=aD hm ha;obtain⟨b1,_⟩:=JU (JU hm.nd).2.2.2.2.2;obtain⟨y1,y2,y3,y4,y5,y6⟩:=Xa b1;have t:=hm.fr m' (jE _ (jH ..));have ef:(m'.nxt r x a l).f=m'.f:=by unfold Fr.nxt Fr.put;split<;>rfl
 refine hm.pop k (by rw[fl,jx,jx,jd,jd,List.map_singleton,List.map_singleton,ef]) (λb hb=>?_) ?_ λre=>?_
 . rw[aC]at hb;simp only[jB,jb,kP]at hb;rcases hb with rfl | rfl | rfl | rfl
   . exact .inl (by simp[Fr.adr])
   . exact .inl (by simp[Fr.adr])
   . exact .inl (by simp[Fr.adr])
   . rcases ha with rfl | rfl | n
     . exact .inl (by simp[Fr.adr])
     . exact .inr (.inl (by simp[Fr.adr]))
     . exact .inr (.inr n)
 . rw[aC];simp[y1,y2,y4,c1.symm,c2.symm,c3.symm]
 . have rw_:=row re
   cases e:m'.els with
   |true =>
    rw[dj e]at f r2 r3 re rw_ ⊢;exact⟨f,r2,r3,n6,t.d2.same re,by rw[QL];exact(t.d3.same re).append ⟨x,[],rfl,rw_,rfl⟩,t.h.same re,t.n5.same re,t.n7.same re⟩
   |false =>
    rw[Z2 e]at f r2 r3 re rw_ ⊢;exact⟨f,r2,r3,n6,by rw[QL];exact(t.d2.same re).append ⟨x,[],rfl,rw_,rfl⟩,t.d3.same re,t.h.same re,t.n5.same re,t.n7.same re⟩
end
def dk(m':Fr)(r:Wr)(x:V)(a:xb)(l:qB):(m'.nxt r x a l).kv=xH m'.kv (.inr "now") (.ref a):=by
 unfold Fr.nxt Fr.put;split<;>rfl
def mw(m:Fr)(r:Wr)(x:V):(m.put r x).r2=m.r2/\(m.put r x).r3=m.r3:=by
 unfold Fr.put;split<;>exact⟨rfl,rfl⟩
def wB{ix:qC}{wi:TI}{tt:TT}{te td tk:TE}{D:Ends}(h:wi σ H (XJ ix tt te σ λv H1=>td σ H1 λd H2=>tk σ H2 λk H3=>∃a H',d=.ref a/\DPut H3 a k v H'/\D.nx σ H')):fY td tk (JL ix wi tt te) D σ H:=h
def dw(K:qu):Sp:=λvs H Q _=>∃(H0:Hp) (pool:qB) (ps:List Pt) (b:Nat) (K0:qB) (pre:List Wr) (i:Nat) (s:Sa) (m m':Fr) (ms:List Fr),vs=[.ref s.st]/\MkH K H0 H s (m::m'::ms)/\StM pool ps b K0 pre i s (m::m'::ms)/\i<=500/\∀(H':Hp) (m1:Fr),MkH K H0 H' s (m1::ms)->StM pool ps b K0 pre (i+1) s (m1::ms)->Q .non H'
theorem wC(B:Bl mg)(QD:Def P w K mg base "_law_put" 1 ["_law_state", "_law_row"] (az K))(F:Fn K mg "_law_closed" YF ["_law_state"]):Def P w K mg base "_law_closed" 2 ["_law_state"] (dw K):=by
 refine F.ok ZB (λvs H Q E h=>?_) (λf qF A outer s H vs Q E hr h=>?_)
 . obtain⟨H0,pool,ps,b,K0,pre,i,s,m,m',ms,rfl,_⟩:=h;rfl
 obtain⟨H0,pool,ps,b,K0,pre,i,s,m,m',ms,rfl,hm,sM,i500,q⟩:=h
 refine⟨_,(@xu _ _ _ _ _ (xM (i:=1) ZB.nd rfl 'b' (fP PySem.F.plainAttrs_list PySem.F.slot_list_pop PySem.F.type_list_pop r8 (xL (xG hr) (pv 0) xt (λ_ _=>rfl))))
  (@xu _ _ _ _ _ (xM (i:=2) ZB.nd rfl 'b' (xD (xE K rfl) (xL (xG hr) (pv 0) xt (λ_ _=>rfl)) (Xw Xx xi) (λ_ _=>rfl)))
  (@xu _ _ _ _ _ (xO (xK Jb (xL (xG hr) (pv 1) xt (λ_ _=>rfl)) xt (xN _)) (@xu _ _ _ _ _ (J1 (xI QD hr rfl (@xj _ _ _ _ _ (pv 0) (@xj _ _ _ _ _ (@Jq _ _ _ _ _ _ _ _ _ xt (xL (xG hr) (pv 1) xt (λ_ _=>rfl)) (xL (xG hr) (pv 1) xt (λ_ _=>rfl)) rfl rfl rfl) xk rfl) rfl)))
  (@xu _ _ _ _ _ (xO (xK QI (xL (xG hr) (pv 1) xt (λ_ _=>rfl)) xi (xN _)) (@xw _ _ _ (Je (xG hr) (pv 2) xt (xL (xG hr) (pv 1) xt (λ_ _=>rfl)) rfl)) xX)
  (@xw _ _ _ nO))) xX)
  (@xu _ _ _ _ _ (xM (i:=3) ZB.nd rfl 'b' (xL (xG hr) (pv 1) xt (λ_ _=>rfl)))
  (@xu _ _ _ _ _ (xO (JC (xL (xG hr) (pv 1) xt (λ_ _=>rfl))) (@xw _ _ _ (xM (i:=3) ZB.nd rfl 'b' (xL (xG hr) (pv 1) xt (λ_ _=>rfl)))) xX)
  (@xu _ _ _ _ _ (J1 (xI QD hr rfl (@xj _ _ _ _ _ (pv 0) (@xj _ _ _ _ _ (@Xg _ _ _ _ _ _ _ _ _ _ _ xt (xL (xG hr) (pv 1) xt (λ_ _=>rfl)) (xL (xG hr) (pv 1) xt (λ_ _=>rfl)) (xL (xG hr) (pv 1) xt (λ_ _=>rfl)) rfl rfl rfl rfl) xk rfl) rfl)))
  (@xw _ _ _ (Je (xG hr) (pv 2) xt (Qa (CompOk.of (x := "_law_name") (M:=["_law_other"]) (ix:=[3]) rfl rfl (by decide +kernel) (by decide +kernel) rfl ⟨rfl,trivial⟩ 'g' ⟨⟨rfl,rfl,rfl,rfl⟩,trivial⟩) rfl (by decide +kernel) (JK (xL (xG hr) (pv 1) xt (λ_ _=>rfl))) (λ_ _ _ _ _=>(Yb (xK (Yg K rfl) (pv 0) (pv 1) 'g'))) (λ_ _ _ _ _=>(pv 0))) rfl)))))))),?_⟩
 have ym:m∈m::m'::ms:=jH ..;have ym':m'∈m::m'::ms:=jE _ (jH ..);have t:=hm.fr m ym;have t':=hm.fr m' ym';obtain⟨a1,a2,a3,a4,a5,a6⟩:=JU hm.nd;obtain⟨b1,b2,b3,b4,b5,b6⟩:=JU a6;have mm:∀z∈m.adr,z∉m'.adr:=λz hz=>a5 z hz m' (jH ..);obtain⟨fM,ck,cl5,cch⟩:=sM.ch;have fM':=cch.top;have big:(100000:Nat)<sizeLine:=by decide
 have l6':=fM'.l6 sM.pq.p6;have l6:=fM.l6 sM.pq.p6;have len':=fM'.len;have xl2:=t'.d2.length;have xl3:=t'.d3.length;rw[Jj,jC]at xl2 xl3;have cxl:m'.cx.length<=1000:=by unfold Fr.cx;split<;>omega
 obtain⟨ys,hys⟩:∃ys,ys=ms.reverse.map (λm=>V.ref m.f):=⟨_,rfl⟩;have eys:ys++[V.ref m'.f]=(m'::ms).reverse.map λm=>V.ref m.f:=by rw[jx,jd,hys];rfl
 have eL:H s.fl=some (.lst ((ys++[V.ref m'.f])++[V.ref m.f])):=by rw[hm.fl,jx,jd,eys];rfl
 refine⟨_,rfl,s.st,_,rfl,xT hm.st hm.v.frames,.inl ⟨rfl,_,.of eL⟩,s.fl,_,.ref m.f,rfl,rfl,eL,by simp,?_⟩;rw[List.dropLast_concat];have k1:∀b o,b≠s.fl->H b=some o->(upd H s.fl (.lst (ys++[V.ref m'.f]))) b=some o:=λb o hb e=>by rw[xz hb];exact e
 have e1:(upd H s.fl (.lst (ys++[V.ref m'.f]))) s.fl=some (.lst (ys++[V.ref m'.f])):=xm
 have fr1:∀p,(upd H s.fl (.lst (ys++[V.ref m'.f]))) p=none->H p=none:=λp hp=>by
  by_cases z:p=s.fl
  . rw[z,xm]at hp;cases hp
  . rwa [xz z]at hp
 generalize upd H s.fl (.lst (ys++[V.ref m'.f]))=H1 at k1 e1 fr1 ⊢;have h1:MkH K H0 H1 s (m'::ms):=hm.pop (λb o hb e=>k1 b o (λz=>hb (by rw[z];simp)) e) (by rw[e1,eys]) (λa ha => .inl ha) b1 λre=>t'.keep re λa ha o e=>k1 a o (λz=>b4 (z ▸ ha)) e;have nf:∀z∈m.adr,z≠s.fl:=λz hz w=>a4 (w ▸ hz);have mf:m.f∈m.adr:=by simp[Fr.adr]
 have mr2:m.r2∈m.adr:=by simp[Fr.adr]
 have mr3:m.r3∈m.adr:=by simp[Fr.adr]
 have mn6:m.n6∈m.adr:=by simp[Fr.adr]
 have nin:∀z∈m.adr,z∉adrs s (m'::ms):=λz hz w=>by
  simp only[adrs,jB]at w;rcases w with w|w|w|w
  . exact a2 (w ▸ hz)
  . exact a3 (w ▸ hz)
  . exact a4 (w ▸ hz)
  obtain⟨y,hy,w⟩:=jr.mp w;exact a5 z hz y hy w
 have ninh:∀z∈m.adr,z∉had s (m'::ms):=λz hz=>av (nin z hz) (hm.nex (aE hz ym))
 have re1:Same (hid (had s (m::m'::ms)) H) (hid (had s (m'::ms)) H1):=ZL (λb o hb e=>k1 b o (λz=>hb (JJ (by rw[z];simp[adrs]))) e) λa ha => .inl (by
  rcases jI.mp ha with ha|ha
  . refine JJ ?_;simp only[adrs,jB,jc,jI]at ha ⊢;rcases ha with z | z | z | z
    . exact .inl z
    . exact .inr (.inl z)
    . exact .inr (.inr (.inl z))
    . exact .inr (.inr (.inr (.inr z)))
  . exact jM _ ha)
 have ef1:=k1 _ _ (nf _ mf) t.f;have d2:IsD K (hid (had s (m'::ms)) H1) (.lst (dWs m.ra)) (.ref m.r2):=⟨m.r2,m.x2,rfl,.of (xQ (ninh _ mr2) (k1 _ _ (nf _ mr2) t.r2)),t.d2.same re1⟩;have d3:IsD K (hid (had s (m'::ms)) H1) (.lst (dWs m.rb)) (.ref m.r3):=⟨m.r3,m.x3,rfl,.of (xQ (ninh _ mr3) (k1 _ _ (nf _ mr3) t.r3)),t.d3.same re1⟩;have dh:=t.h.same re1;dsimp only[xF,List.set,L2.J2,jR];refine⟨_,rfl,s.st,_,rfl,xT h1.st h1.v.frames,1,rfl,.inl ⟨s.fl,_,-1,.ref m'.f,rfl,rfl,.of e1,ZJ _ _,?_⟩⟩;dsimp only[xF,List.set];refine⟨_,rfl,m.f,_,rfl,xT ef1 rfl,_,_,rfl,rfl,_,rfl,xU (λhk=>?_) (λhk=>nxt ?_)⟩
 . have hx:m.hx = .int (m.num:Nat):=by
    have:=t.h;unfold Fr.hd at this;rw[k9 (by rw[hk];decide)]at this;exact this
   refine⟨_,rfl,_,rfl,m.f,_,rfl,xT ef1 rfl,_,rfl,m.f,_,rfl,xT ef1 rfl,by show 3<=sizeLine;decide,λp np=>?_⟩;have u:=xy np (.tup [.str "rounds",m.hx,.ref m.r2]);have ep:upd H1 p (.tup [.str "rounds",m.hx,.ref m.r2]) p=some (.tup [.str "rounds",m.hx,.ref m.r2]):=xm;have npH:=fr1 p np;have npA:p∉had s (m'::ms):=λz=>by obtain⟨o,e⟩:=h1.exh p z;rw[e]at np;cases np
   generalize upd H1 p (.tup [.str "rounds",m.hx,.ref m.r2])=H2 at u ep ⊢;refine⟨H0,s,m',ms,.rnd m.num m.ra,.ref p,rfl,h1.same u,⟨p,_,rfl,.of (xQ npA ep),_,_,rfl,rfl,_,_,rfl,hx,_,_,rfl,d2.same (J3 u),rfl⟩,cxl,by omega,λH3 h3 xc3=>?_⟩;have k3:∀b o,b∉s.fl::m'.adr->H b=some o->H3 b=some o:=λb o hb e=>xc3 b o (λz=>hb (jE _ z)) (u _ _ (k1 b o (λz=>hb (by rw[z];simp)) e));have k3m:∀z∈m.adr,∀o,H z=some o->H3 z=some o:=λz hz o e=>xc3 z o (mm z hz) (u _ _ (k1 z o (nf z hz) e));have e3f:=k3m _ mf _ t.f;have e3p:H3 p=some (.tup [.str "rounds",m.hx,.ref m.r2]):=xc3 _ _ (λz=>npA (JJ (by simp only[adrs,jB,jc,jI];exact .inr (.inr (.inr (.inl z)))))) ep;have t3:=h3.fr _ (jH ..);obtain⟨pr2,pr3⟩:=mw m' (.rnd m.num m.ra) (.ref p);obtain⟨_,pf,pl6,pn6,pkv⟩:=aw m' (.rnd m.num m.ra) (.ref p)
   have t3f:H3 m'.f=some (.dK m'.kv):=by
    have:=t3.f;rw[show(m'.app (.rnd m.num m.ra) (.ref p)).f=(m'.put (.rnd m.num m.ra) (.ref p)).f from rfl,show(m'.app (.rnd m.num m.ra) (.ref p)).kv=(m'.put (.rnd m.num m.ra) (.ref p)).kv from rfl,pf,pkv]at this;exact this
   have t3r2:H3 m'.r2=some (.lst (m'.put (.rnd m.num m.ra) (.ref p)).x2):=by rw[<- pr2];exact t3.r2
   have t3r3:H3 m'.r3=some (.lst (m'.put (.rnd m.num m.ra) (.ref p)).x3):=by rw[<- pr3];exact t3.r3
   have e3L:H3 s.fl=some (.lst ((m'::ms).reverse.map λm=>V.ref m.f)):=by rw[<- eys];exact xc3 _ _ b4 (u _ _ e1)
   obtain⟨y1,y2,y3,y4,y5,y6⟩:=Xa b1
   have el:m.els=false:=by
    rcases fM.br with ⟨_,z,_⟩|⟨z,_⟩
    . rw[hk]at z;exact absurd z 'f'
    . exact z
   have l6k:∀y,y∈m.l6↔y∈m'.l6\/y∈knR m.ra:=λy=>by
    rcases fM.br with ⟨z,_⟩|⟨_,_,z⟩
    . rw[el]at z;cases z
    . rw[<- cl5];exact z y
   refine⟨_,rfl,m.f,_,rfl,xT e3f rfl,_,_,hx,rfl,_,rfl,xU (λc=>?_) (λc=>nxt ?_)⟩
   . have ha:m.n6=m'.n6\/m.n6=m.n6\/H m.n6=none := .inr (.inl rfl);obtain⟨c1,c2,c3,c4,c5,c6,c7⟩:=aD hm ha;refine⟨_,rfl,m.f,_,rfl,xT e3f rfl,_,rfl,m'.f,_,rfl,DPut.k (k := .inr "now") t3f (by show 8 < sizeLine;decide),?_⟩;have pf':p≠m'.f:=λz=>by rw[z,t'.f]at npH;cases npH
     refine q _ (m'.nxt (.rnd m.num m.ra) (.ref p) m.n6 m.l6) (hm.close ha (λb o hb e=>?_) ?_ ?_ ?_ ?_ ?_ λre=>?_) (sM.pop (.inr ⟨hk,rfl⟩) (λy=>?_) fM.d6 i500)
     . rw[xz (λz:b=m'.f=>hb (by rw[z];simp[Fr.adr]))];exact k3 b o hb e
     . rw[xz (λz:s.fl=m'.f=>b4 (by rw[z];simp[Fr.adr]))];exact e3L
     . rw[dk];exact xm
     . rw[xz y1.symm];exact t3r2
     . rw[xz y2.symm];exact t3r3
     . rw[xz c1];exact k3m _ mn6 _ t.n6
     . exact⟨p,_,rfl,.of (xQ (Xp hm ha (.inl ⟨npH,λz=>by rw[z,t.n6]at npH;cases npH⟩)) (by rw[xz pf'];exact e3p)),_,_,rfl,rfl,_,_,rfl,hx,_,_,rfl,⟨m.r2,m.x2,rfl,.of (xQ (Xp hm ha (.inr (.inl rfl))) (by rw[xz (λz:m.r2=m'.f=>mm _ mr2 (by rw[z];simp[Fr.adr]))];exact k3m _ mr2 _ t.r2)),t.d2.same re⟩,rfl⟩
     . show y∈m.l6↔y∈m'.l6\/y∈if 0<m.num then knR m.ra else [];rw[ke 'd'];exact l6k y
   . have ha:m'.n6=m'.n6\/m'.n6=m.n6\/H m'.n6=none := .inl rfl;have t36:H3 m'.n6=some (.lst (m'.l6.map V.str)):=by rw[<- pn6];exact t3.n6
     refine q _ (m'.nxt (.rnd m.num m.ra) (.ref p) m'.n6 m'.l6) (hm.close ha k3 e3L (by rw[dk];exact t3f) t3r2 t3r3 t36 λre=>?_) (sM.pop (.inr ⟨hk,rfl⟩) (λy=>?_) fM'.d6 i500)
     . exact⟨p,_,rfl,.of (xQ (Xp hm ha (.inl ⟨npH,λz=>by rw[z,t'.n6]at npH;cases npH⟩)) e3p),_,_,rfl,rfl,_,_,rfl,hx,_,_,rfl,⟨m.r2,m.x2,rfl,.of (xQ (Xp hm ha (.inr (.inl rfl))) (k3m _ mr2 _ t.r2)),t.d2.same re⟩,rfl⟩
     . show y∈m'.l6↔y∈m'.l6\/y∈if 0<m.num then knR m.ra else [];rw[k9 'd'];exact⟨.inl,λz=>z.elim id λz=>nomatch z⟩
 . have hif:m.kd = "if" := ck.resolve_right hk
   have hd:IsD K (hid (had s (m'::ms)) H1) (dE m.e) m.hx:=by
    unfold Fr.hd at dh;rw[ke hif]at dh;exact dh
   obtain⟨no,lo,eno,elo,dno,lm⟩:∃(no:xb) (lo:qB),(no=if m.els=true then m.n7 else m.n5)/\(lo=if m.els=true then m.l7 else m.l5)/\IsD K (hid (had s (m::m'::ms)) H) (.lst (lo.map D.str)) (.ref no)/\∀y,(y∈m.l6/\y∈lo)↔y∈m'.l6\/y∈(knR m.ra).filter λx=>decide (x∈knR m.rb):=by
    refine⟨_,_,rfl,rfl,?_,λy=>?_⟩
    . split
      . exact t.n7
      . exact t.n5
    . rw[j6,qg];rcases fM.br with ⟨e,_,h7,h6⟩ | ⟨e,erb,h6⟩
      . rw[ke e,h6,h7,cl5];constructor
        . rintro⟨z1 | z1,z2 | z2⟩
          . exact .inl z1
          . exact .inl z1
          . exact .inl z2
          . exact .inr ⟨z2,z1⟩
        . rintro (z | ⟨z1,z2⟩)
          . exact⟨.inl z,.inl z⟩
          . exact⟨.inr z2,.inr z1⟩
      . rw[k9 (by rw[e];decide),h6,erb,cl5];constructor
        . rintro⟨_,z⟩;exact .inl z
        . rintro (z | ⟨_,z⟩)
          . exact⟨.inl z,z⟩
          . cases z
   refine⟨_,rfl,m.f,_,rfl,xT ef1 rfl,?_⟩;dsimp only[xF,List.set];refine lW (λσ H'=>σ=[some (.ref s.st),some (.ref m.f),some (.ref m'.f),some (.ref no)]/\H'=H1) (λb=>b=m.els) (λQ' hQ=>⟨_,rfl,m.f,_,rfl,xT ef1 rfl,_,rfl,hQ _ rfl⟩) (λqI H1' h1'=>?_) (λc R hR=>?_) (λc R hR=>?_)
   . obtain⟨rfl,rfl⟩:=h1';refine⟨_,rfl,_,rfl,m.f,_,rfl,xT ef1 rfl,_,rfl,m.f,_,rfl,xT ef1 rfl,_,rfl,m.f,_,rfl,xT ef1 rfl,by show 4<=sizeLine;decide,λp np=>?_⟩;have u:=xy np (.tup [.str "if",m.hx,.ref m.r2,.ref m.r3]);have ep:upd H1' p (.tup [.str "if",m.hx,.ref m.r2,.ref m.r3]) p=some (.tup [.str "if",m.hx,.ref m.r2,.ref m.r3]):=xm;have npH:=fr1 p np;have npA:p∉had s (m' :: ms):=λz=>by obtain⟨o,e⟩:=h1.exh p z;rw[e]at np;cases np
     generalize upd H1' p (.tup [.str "if",m.hx,.ref m.r2,.ref m.r3])=H2 at u ep ⊢;refine⟨H0,s,m',ms,.ifr m.e m.ra m.rb,.ref p,rfl,h1.same u,⟨p,_,rfl,.of (xQ npA ep),_,_,rfl,rfl,_,_,rfl,hd.same (J3 u),_,_,rfl,d2.same (J3 u),_,_,rfl,d3.same (J3 u),rfl⟩,cxl,by omega,λH3 h3 xc3=>?_⟩;have k3:∀b o,b∉s.fl::m'.adr->H b=some o->H3 b=some o:=λb o hb e=>xc3 b o (λz=>hb (jE _ z)) (u _ _ (k1 b o (λz=>hb (by rw[z];simp)) e));have k3m:∀z∈m.adr,∀o,H z=some o->H3 z=some o:=λz hz o e=>xc3 z o (mm z hz) (u _ _ (k1 z o (nf z hz) e));have e3f:=k3m _ mf _ t.f;have e3p:H3 p=some (.tup [.str "if",m.hx,.ref m.r2,.ref m.r3]):=xc3 _ _ (λz=>npA (JJ (by simp only[adrs,jB,jc,jI];exact .inr (.inr (.inr (.inl z)))))) ep;have t3:=h3.fr _ (jH ..);obtain⟨pr2,pr3⟩:=mw m' (.ifr m.e m.ra m.rb) (.ref p);obtain⟨_,pf,pl6,pn6,pkv⟩:=aw m' (.ifr m.e m.ra m.rb) (.ref p)
     have t3f:H3 m'.f=some (.dK m'.kv):=by
      have:=t3.f;rw[show(m'.app (.ifr m.e m.ra m.rb) (.ref p)).f=(m'.put (.ifr m.e m.ra m.rb) (.ref p)).f from rfl,show(m'.app (.ifr m.e m.ra m.rb) (.ref p)).kv=(m'.put (.ifr m.e m.ra m.rb) (.ref p)).kv from rfl,pf,pkv]at this;exact this
     have t3r2:H3 m'.r2=some (.lst (m'.put (.ifr m.e m.ra m.rb) (.ref p)).x2):=by rw[<- pr2];exact t3.r2
     have t3r3:H3 m'.r3=some (.lst (m'.put (.ifr m.e m.ra m.rb) (.ref p)).x3):=by rw[<- pr3];exact t3.r3
     have e3L:H3 s.fl=some (.lst ((m'::ms).reverse.map λm=>V.ref m.f)):=by rw[<- eys];exact xc3 _ _ b4 (u _ _ e1)
     obtain⟨y1,y2,y3,y4,y5,y6⟩:=Xa b1
     have re3:Same (hid (had s (m::m'::ms)) H) H3:=λb o e=>by
      have nb:b∉had s (m::m'::ms):=λz=>by unfold hid at e;rw[ke z]at e;cases e
      unfold hid at e;rw[k9 nb]at e;refine k3 b o (λz=>nb (JJ ?_)) e;simp only[adrs,jB,jc,jI]at z ⊢;rcases z with z|z
      . exact .inr (.inr (.inl z))
      . exact .inr (.inr (.inr (.inr (.inl z))))
     obtain⟨_,zz,ez,qno,dlo⟩:=dno
     cases ez
     obtain rfl:=Qv dlo;have qno3:∀{HH:Hp},Same H3 HH->SqL K HH no (lo.map V.str):=λs=>s.seq (re3.seq qno);dsimp only;refine wB ?_;refine⟨_,rfl,m.f,_,rfl,xT e3f rfl,m.n6,rfl,⟨_,.of (k3m _ mn6 _ t.n6)⟩,su (λy=>decide (y∈lo)) (.of (k3m _ mn6 _ t.n6)) 'd' (λy H' R sm hR=>?_) (λy H' R hR=>⟨_,rfl,hR⟩) (λqa H4 nq s4 eq4=>?_)⟩
     . refine⟨_,rfl,_,rfl,no,_,rfl,.inl (qno3 sm),rfl,bF _,_,rfl,?_⟩;show R (inV (.str y) (lo.map V.str)) H';rw[Yh];exact hR
     . have nqH:H qa=none:=by
        cases e:H qa with
        |none=>rfl
        |some o =>
         by_cases z:qa∈s.fl::m'.adr
         . have:∃o,H3 qa=some o:=by
            rcases jB.mp z with z|z
            . exact⟨_,by rw[z];exact e3L⟩
            . obtain⟨o,eo⟩:=h3.ex qa (by
               simp only[adrs,jB,jc,jI];refine .inr (.inr (.inr (.inl ?_)));rw[di,aC];exact z)
              exact⟨o,eo⟩
           obtain⟨o,eo⟩:=this;rw[eo]at nq;cases nq
         . rw[k3 qa o z e]at nq;cases nq
       have ha:qa=m'.n6\/qa=m.n6\/H qa=none := .inr (.inr nqH);obtain⟨c1,c2,c3,c4,c5,c6,c7⟩:=aD hm ha;refine⟨_,rfl,m'.f,_,rfl,DPut.k (k := .inr "now") (s4 _ _ t3f) (by show 8<sizeLine;decide),?_⟩;have pf':p≠m'.f:=λz=>by rw[z,t'.f]at npH;cases npH
       have pq':p≠qa:=λz=>by rw[z,nq]at e3p;cases e3p
       refine q _ (m'.nxt (.ifr m.e m.ra m.rb) (.ref p) qa (m.l6.filter λy=>decide (y∈lo))) (hm.close ha (λb o hb e=>?_) ?_ ?_ ?_ ?_ ?_ λre=>?_) (sM.pop (.inl ⟨hif,rfl⟩) (λy=>?_) (fM.d6.filter _) i500)
       . rw[xz (λz:b=m'.f=>hb (by rw[z];simp[Fr.adr]))];exact s4 _ _ (k3 b o hb e)
       . rw[xz (λz:s.fl=m'.f=>b4 (by rw[z];simp[Fr.adr]))];exact s4 _ _ e3L
       . rw[dk];exact xm
       . rw[xz y1.symm];exact s4 _ _ t3r2
       . rw[xz y2.symm];exact s4 _ _ t3r3
       . rw[xz c1];exact eq4
       . have dH:IsD K (hid (had s (m :: m' :: ms)) H) (dE m.e) m.hx:=by
          have:=t.h;unfold Fr.hd at this;rw[ke hif]at this;exact this
         exact⟨p,_,rfl,.of (xQ (Xp hm ha (.inl ⟨npH,pq'⟩)) (by rw[xz pf'];exact s4 _ _ e3p)),_,_,rfl,rfl,_,_,rfl,dH.same re,_,_,rfl,⟨m.r2,m.x2,rfl,.of (xQ (Xp hm ha (.inr (.inl rfl))) (by rw[xz (λz:m.r2=m'.f=>mm _ mr2 (by rw[z];simp[Fr.adr]))];exact s4 _ _ (k3m _ mr2 _ t.r2))),t.d2.same re⟩,_,_,rfl,⟨m.r3,m.x3,rfl,.of (xQ (Xp hm ha (.inr (.inr rfl))) (by rw[xz (λz:m.r3=m'.f=>mm _ mr3 (by rw[z];simp[Fr.adr]))];exact s4 _ _ (k3m _ mr3 _ t.r3))),t.d3.same re⟩,rfl⟩
       . rw[j6,qg];exact lm y
   . refine⟨_,rfl,m.f,_,rfl,xT ef1 rfl,hR _ _ ⟨?_,rfl⟩⟩;rw[eno,ke c.symm];rfl
   . refine hR _ _ ⟨?_,rfl⟩;rw[eno,k9 (by rw[<- c];decide)];rfl
def Sa.up(s:Sa)(kvs:List (Key×V))(w z:Nat):Sa:={ s with kvs:=kvs,ways:=w,size:=z }
def ZM(s:Sa)(c:Int)(m:Fr)(ms:List Fr):Prop:=ms=[]/\c % 12<4/\s.ways*4<=s.limit/\s.size+1<=s.room/\m.els=false
def Xq{N B G:Prop}(hB:N->B)(h:(N->B)->G):G:=h hB
theorem mx:∀{ps:List Pt},(ps.map (·.nm)).Nodup->q∈ps->fnd ps q.nm=some q
 | [],_,h=>nomatch h
 |a::ps,nd,h=>by
  obtain⟨h1,h2⟩:=jP.mp nd;unfold fnd;rw[jy]
  by_cases c:a.nm=q.nm
  . rw[kf c];rcases jB.mp h with e | e
    . rw[e]
    . exact absurd (jn.mpr ⟨q,e,c.symm⟩) h1
  . rw[kg c];rcases jB.mp h with e | e
    . exact absurd (by rw[e]) c
    . exact mx h2 e
def StM.stay(h:StM pool ps b K0 pre i s ms):StM pool ps b K0 pre (i+1) s ms:=⟨h.nm,h.pq,h.ch.up (j7 i),h.w,h.sm⟩
def my(K:qu):Sp:=λvs H Q _=>∃(H0:Hp) (pool:qB) (ps:List Pt) (b:Nat) (K0:qB) (pre:List Wr) (i:Nat) (s:Sa) (c:Int) (m:Fr) (ms:List Fr),vs=[.ref s.st,.int c]/\MkH K H0 H s (m::ms)/\StM pool ps b K0 pre i s (m::ms)/\i<=500/\∀(H':Hp) (kvs:List (Key×V)) (w z:Nat) (m1:Fr),MkH K H0 H' (s.up kvs w z) (m1::ms)->StM pool ps b K0 pre (i+1) (s.up kvs w z) (m1::ms)->(ZM s c m ms->∃x os,m1.ra=m.ra++[.draw x os])->Q .non H'
theorem mz:∀{ys:List V},(∀y∈ys,∃e,EOk now 3 e/\IsD K (hid A H) (dE e) y)->∃es:List Ex,IsDs K (hid A H) (es.map dE) ys/\∀e∈es,EOk now 3 e
 | [],_=>⟨[],rfl,λ_ h=>nomatch h⟩
 |y::ys,h=>by
  obtain⟨e,h1,h2⟩:=h y (jH ..);obtain⟨es,h3,h4⟩:=mz (ys:=ys) λz hz=>h z (jE _ hz);exact⟨e::es,⟨y,ys,rfl,h2,h3⟩,λz hz=>(jB.mp hz).elim (λw=>w ▸ h1) (h4 z)⟩
def mB:Same (hid (Da::A) H) (hid A (Jz Da H)):=λb o e=>by
 unfold hid at e ⊢;split at e
 . cases e
 . rename_i hb;rw[k9 (λz=>hb (jE _ z)),hU (λz=>hb (by rw[z];simp))];exact e
theorem mC{α β:Type}{P:α->β->Prop}:∀{l:List α}{m:List β}{k:Nat}{y:β},Paired P l m->m[k]?=some y->∃x,l[k]?=some x/\P x y
 |_,_,_,_,.nil,e=>by simp at e
 |_,_,0,_,.cons h _,e=>by cases e;exact⟨_,rfl,h⟩
 |_,_,k+1,_,.cons _ t,e=>by
  obtain⟨x,h1,h2⟩:=mC t (k:=k) (by simpa using e);exact⟨x,by simpa using h1,h2⟩
def wD(B:Bl mg)(QD:Def P w K mg base "_law_put" 1 ["_law_state", "_law_row"] (az K))(QE:Def P w K mg base "_law_fits" 1 ["_law_state", "_law_size", "_law_many"] (d7 K))(dA:Def P w K mg base "_law_outcomes" 2 ["_law_state", "_law_cell", "_law_many"] (lZ K))(dB:Def P w K mg base "_law_seen" 4 ["_law_state", "_law_cell"] (QO K 4))(JN:Def P w K mg base "_law_expr" 3 ["_law_state", "_law_cell"] (QO K 3))(F:Fn K mg "_law_plain" YD ["_law_state", "_law_cell"]):Def P w K mg base "_law_plain" 5 ["_law_state", "_law_cell"] (my K):=by
 refine F.ok XR (λvs H Q E h=>?_) (λf qF A outer s H vs Q E hr h=>?_)
 . obtain⟨H0,pool,ps,b,K0,pre,i,s,c,m,ms,rfl,_⟩:=h;rfl
 obtain⟨H0,pool,ps,b,K0,pre,i,s,c,m,ms,rfl,hm,sM,i500,q⟩:=h
 refine⟨_,(@xu _ _ _ _ _ (xM (i:=2) XR.nd rfl 'b' (xD (xE K rfl) (xL (xG hr) (pv 0) xt (λ_ _=>rfl)) (xx xV (xx J6 (pv 1) xi) xi) (λ_ _=>rfl)))
  (@xu _ _ _ _ _ (xM (i:=3) XR.nd rfl 'b' (xx xV (xx JE (xx xV (pv 1) xi) xi) xi))
  (@xu _ _ _ _ _ (xM (i:=4) XR.nd rfl 'b' (xx J7 (xx J7 xi (xx xV (pv 3) xi)) (xx xV (xx J6 (pv 3) xi) xi)))
  (@xw _ _ _ (xO (PW.pt (JW (xK Z8 (xx xV (pv 1) xi) xi (xN _)) (Qq (JC (xI QE hr rfl (@xj _ _ _ _ _ (pv 0) (@xj _ _ _ _ _ xi (@xj _ _ _ _ _ (J5 (ou rfl) rfl B.max PyProof.Rows.boot_max (@xj _ _ _ _ _ xi (@xj _ _ _ _ _ (pv 4) xk rfl) rfl)) xk rfl) rfl) rfl)))))) (@xw _ _ _ (J1 (xI QD hr rfl (@xj _ _ _ _ _ (pv 0) (@xj _ _ _ _ _ (@Jq _ _ _ _ _ _ _ _ _ xt (pv 2) (xI dA hr rfl (@xj _ _ _ _ _ (pv 0) (@xj _ _ _ _ _ (pv 1) (@xj _ _ _ _ _ (pv 4) xk rfl) rfl) rfl)) rfl rfl rfl) xk rfl) rfl)))) (@xw _ _ _ (xO (PW.pt (JW (xK Ji (xx xV (pv 1) xi) xi (xN _)) (Qq (JC (xI QE hr rfl (@xj _ _ _ _ _ (pv 0) (@xj _ _ _ _ _ xi (@xj _ _ _ _ _ xi xk rfl) rfl) rfl)))))) (@xw _ _ _ (J1 (xI QD hr rfl (@xj _ _ _ _ _ (pv 0) (@xj _ _ _ _ _ (@xZ _ _ _ _ _ _ _ xt (xI dB hr rfl (@xj _ _ _ _ _ (pv 0) (@xj _ _ _ _ _ (xx J6 (pv 1) xi) xk rfl) rfl)) rfl rfl) xk rfl) rfl)))) (@xw _ _ _ (xO (PW.pt (JW (xK (Yg K rfl) (xx xV (pv 1) xi) (@xZ _ _ _ _ _ _ _ xi xi rfl rfl) 'g') (Qq (xK QI (J5 (JF K rfl) rfl B.len PySem.boot_len (@xj _ _ _ _ _ (xL (xG hr) (pv 0) xt (λ_ _=>rfl)) xk rfl)) xi (xN _))))) (@xu _ _ _ _ _ (xM (i:=5) XR.nd rfl 'b' (xD (xE K rfl) (xL (xG hr) (pv 0) xt (λ_ _=>rfl)) (xx xV (pv 3) (J5 (JF K rfl) rfl B.len PySem.boot_len (@xj _ _ _ _ _ (xL (xG hr) (pv 0) xt (λ_ _=>rfl)) xk rfl))) (λ_ _=>rfl)))
  (@xw _ _ _ (xO (JC (xI QE hr rfl (@xj _ _ _ _ _ (pv 0) (@xj _ _ _ _ _ (xx J7 (xx J7 xi (xD (xE K rfl) (pv 5) xi (λ_ _=>rfl))) (xD (xE K rfl) (pv 5) xi (λ_ _=>rfl))) (@xj _ _ _ _ _ (xD (xE K rfl) (pv 5) xi (λ_ _=>rfl)) xk rfl) rfl) rfl))) (@xu _ _ _ _ _ (XF (j:=6) XR.nd rfl rfl (CompOk.of (x := "_law_k") (M:=["_law_state", "_law_cell"]) (ix:=[0,1]) rfl rfl (by decide +kernel) (by decide +kernel) rfl ⟨rfl,⟨rfl,trivial⟩⟩ 'g' ⟨⟨rfl,rfl,rfl,rfl⟩,⟨⟨rfl,rfl,rfl,rfl⟩,trivial⟩⟩) rfl (by decide +kernel) (Q5 rfl B.range (@xj _ _ _ _ _ (xD (xE K rfl) (pv 5) xi (λ_ _=>rfl)) xk rfl)) (λ_ _ _ _ _=>JP) (λ_ _ _ _ _=>(xI JN hr rfl (@xj _ _ _ _ _ (pv 1) (@xj _ _ _ _ _ (xx J6 (pv 2) (xx J7 (pv 0) xi)) xk rfl) rfl))))
  (@xw _ _ _ (J1 (xI QD hr rfl (@xj _ _ _ _ _ (pv 0) (@xj _ _ _ _ _ (@Xg _ _ _ _ _ _ _ _ _ _ _ xt (pv 2) (xD (xE K rfl) (pv 5) xi (λ_ _=>rfl)) (pv 6) rfl rfl rfl rfl) xk rfl) rfl))))) xX))) (@xw _ _ _ (xO (JC (xI QE hr rfl (@xj _ _ _ _ _ (pv 0) (@xj _ _ _ _ _ xi (@xj _ _ _ _ _ xi xk rfl) rfl) rfl))) (@xw _ _ _ (J1 (xI QD hr rfl (@xj _ _ _ _ _ (pv 0) (@xj _ _ _ _ _ (@Jq _ _ _ _ _ _ _ _ _ xt (pv 2) (xI JN hr rfl (@xj _ _ _ _ _ (pv 0) (@xj _ _ _ _ _ (xx J6 (pv 1) xi) xk rfl) rfl)) rfl rfl rfl) xk rfl) rfl)))) xX))))))))))),?_⟩
 have big:(100000:Nat)<sizeLine:=by decide
 have t:=hm.fr m (jH ..);have fM:=sM.ch.top;have l6:=fM.l6 sM.pq.p6;have len:=fM.len;have xl2:=t.d2.length;have xl3:=t.d3.length;rw[Jj,jC]at xl2 xl3;have cxl:m.cx.length<=1000:=by unfold Fr.cx;split<;>omega
 have sm:=sM.sm;have nmp:=sM.nm;obtain⟨_,zz,e,qn,dn⟩:=hm.nl
 cases e
 obtain rfl:=Qv dn;have qn:=(xJ _ _).seq qn;have out:∀{HH:Hp}{p:xb},(∀a∈had s (m::ms),∃o,HH a=some o)->HH p=none->p∉had s (m::ms):=λh np z=>by obtain⟨o,e⟩:=h _ z;rw[e]at np;cases np
 have qJ:∀{kvs:List (Key×V)}{w z:Nat}{H3:Hp}{r:Wr}{x:V},MkH K H0 H3 (s.up kvs w z) (m::ms)->IsD K (hid (had s (m::ms)) H3) (dW r) x->ok1 pool ps (okD pool ps (b+(5 - ms.length))) (m.l5++knR m.cur) r->kn1 r=r.gv.toList->(∀y,r.gv=some y->y∈pool)->s.size+turns (m::ms)*cs1 pool ps (csD pool ps (b+(5 - ms.length))) r<=z->w<=s.limit->z<=s.room->(∀f,ln1 f r)->(ZM s c m ms->∃x os,r=.draw x os)->az K [.ref s.st,x] H3 (λ_ H'=>Q .non H') E:=by
  intro kvs w z H3 r x h3 d o g gp cs wl zr hg dr;refine⟨H0,s.up kvs w z,m,ms,r,x,rfl,h3,d,cxl,by omega,λH5 h5 _=>q H5 kvs w z _ h5 (sM.put o g gp rfl rfl cs ⟨sm.few,sm.num,wl,sm.limit,zr,sm.room⟩ i500 hg) λhd=>?_⟩;obtain⟨x',os,rfl⟩:=dr hd;refine⟨x',os,?_⟩;rw[di,Z2 hd.2.2.2.2]
 have one:ms=[]->turns (m::ms)=1:=λe=>by
  subst e;have:=sM.ch.2.1;show 1*m.tn=1;unfold Fr.tn;rw[k9 (by rw[this];decide)]
 have xn:∃x,atI (s.nm.map V.str) (c / 12 % 6)=some (.str x)/\x∈pool:=by
  have l:(s.nm.map V.str).length=6:=by rw[jC,nmp];exact sM.pq.p6
  obtain⟨v,ev,hv⟩:=au (s.nm.map V.str) (c / 12) 'd';rw[l]at ev;obtain⟨x,hx,rfl⟩:=jn.mp hv;exact⟨x,ev,by rw[<- nmp];exact hx⟩
 obtain⟨x,ex,xp⟩:=xn;refine⟨_,rfl,s.st,_,rfl,xT hm.st hm.v.names,_,rfl,_,_,rfl,rfl,⟨by decide,by decide⟩,_,_,rfl,rfl,(by show(0:Int)<6;decide),.inl ⟨s.nl,_,_,.str x,rfl,rfl,qn,ex,?_⟩⟩;dsimp only[xF,List.set,L2.J2,jR];refine⟨_,rfl,_,_,rfl,rfl,(by show(0:Int)<65521;decide),_,_,rfl,rfl,IntMulOk.of_right 'f',_,_,rfl,rfl,(by show(0:Int)<65519;decide),?_⟩;dsimp only[xF,List.set];generalize c % 65521*48271 % 65519=mi;refine⟨_,rfl,_,_,rfl,rfl,(by show(0:Int)<3;decide),_,_,rfl,rfl,_,rfl,_,_,rfl,rfl,⟨by decide,by decide⟩,_,_,rfl,rfl,(by show(0:Int)<2;decide),_,_,rfl,rfl,?_⟩;obtain⟨n,en,n1,n4⟩:∃n:Nat,1+mi % 3+mi / 3 % 2=(n:Int)/\1<=n/\n<=4:=⟨(1+mi % 3+mi / 3 % 2).toNat,by omega,by omega,by omega⟩;dsimp only[xF,List.set];rw[en]
 obtain⟨y,ey,y4⟩:∃y:Nat,(if (n:Int) > 2 then(n:Int) else 2)=(y:Int)/\y<=4:=by
  by_cases z:(n:Int) > 2
  . exact⟨n,by rw[ke z],n4⟩
  . exact⟨2,by rw[k9 z];rfl,by decide⟩
 have sub6:∀n∈m.l6,n∈m.l5++knR m.cur:=λn hn=>(fM.kn n).mp hn;have okE:∀{e:Ex}{h:Nat},EOk m.l6 h e->h<10->OkE (m.l5++knR m.cur) e:=λo l=>⟨o.1,jk o.2.1 l,λn hn=>sub6 n (o.2.2 n hn)⟩;apply Xq (N:=¬ZM s c m ms)
 rotate_left
 . intro hB;refine⟨_,rfl,_,_,rfl,rfl,(by show(0:Int)<12;decide),_,_,rfl,rfl,_,rfl,xU (λc4=>?_) (λc4=>xY (hB λz=>c4 z.2.1))⟩;refine⟨_,rfl,_,rfl,_,_,rfl,?_⟩;rw[ey];refine⟨H0,s,m::ms,1,y,rfl,hm,sm,by decide,by omega,λnf=>⟨_,rfl,xY (hB λz=>nf ⟨one z.1,je (Nat.mul_le_mul_left _ y4) z.2.2.1,z.2.2.2.1⟩)⟩,λw H2 wl zr h2 x2=>⟨_,rfl,Jc ?_⟩⟩;refine⟨_,rfl,_,rfl,_,rfl,_,rfl,_,rfl,H0,s.fit w _,m,ms,c,n,rfl,h2,n1,n4,λp os kvs H3 h3 d3 oq ol=>⟨by show 3<=sizeLine;decide,λpt qM=>?_⟩⟩;have u:=xy qM (.tup [.str "draw",.str x,.ref p]);exact qJ (kvs:=kvs) (w:=w) (r := .draw x os) (h3.same u) ⟨pt,_,rfl,.of (xQ (out h3.exh qM) xm),_,_,rfl,rfl,_,_,rfl,rfl,_,_,rfl,d3.same (J3 u),rfl⟩ ⟨xp,by omega,oq⟩ rfl (λy' e=>by cases e;exact xp) (jG _) wl zr (λ_=>trivial) (λ_=>⟨x,os,rfl⟩)
 intro ndr;apply Xq (N:=True)
 rotate_left
 . intro hB;refine⟨_,rfl,_,_,rfl,rfl,(by show(0:Int)<12;decide),_,_,rfl,rfl,_,rfl,xU (λc4=>?_) (λc4=>xY (hB trivial))⟩;refine⟨_,rfl,H0,s,m::ms,2,1,rfl,hm,sm,by decide,by decide,λnf=>⟨_,rfl,xY (hB trivial)⟩,λw H2 wl zr h2 x2=>⟨_,rfl,Jc ?_⟩⟩;refine⟨_,rfl,_,rfl,_,rfl,_,_,rfl,rfl,⟨by decide,by decide⟩,s.st,_,m.l6,rfl,h2.rd 'd',λp e H3 s3 a3 o3=>⟨by show 2<=sizeLine;decide,λpt qM=>?_⟩⟩;have h3:=h2.same s3;have u:=xy qM (.tup [.str "seen",.ref p]);exact qJ (r := .seen e) (h3.same u) ⟨pt,_,rfl,.of (xQ (out h3.exh qM) xm),_,_,rfl,rfl,_,_,rfl,(a3 _ h2.exh).same (J3 u),rfl⟩ (okE o3 'f') rfl (λy' e=>nomatch e) (jG _) wl zr (λ_=>trivial) (λz=>absurd z ndr)
 intro _;refine⟨_,rfl,_,_,rfl,rfl,(by show(0:Int)<12;decide),by show 2<=sizeLine;decide,λp0 np0=>⟨p0,_,rfl,.inr (.of xm),rfl,rfl,_,rfl,?_⟩⟩;show if (inV (.int (c % 12)) [.int 5,.int 6])=true then _ else _;have h1:=hm.same (xy np0 (.tup [.int 5,.int 6]));generalize upd H p0 (.tup [.int 5,.int 6])=H1 at h1 ⊢;dsimp only[xF,List.set,L2.J2,jR];apply Xq (N:=True)
 rotate_left
 . intro hB
   cases inV (V.int (c % 12)) [V.int 5,V.int 6] with
   |false=>exact xY (xY (hB trivial))
   |true =>
    refine Jc ⟨_,rfl,s.st,_,rfl,xT h1.st h1.v.parts,_,_,rfl,JZ (.of h1.pl),_,_,rfl,rfl,_,rfl,xU (λc0=>?_) (λ_=>hB trivial)⟩;obtain⟨v,ev,hv⟩:=au s.px mi 'd';refine⟨_,rfl,s.st,_,rfl,xT h1.st h1.v.parts,_,rfl,_,rfl,s.st,_,rfl,xT h1.st h1.v.parts,_,_,rfl,JZ (.of h1.pl),_,_,rfl,rfl,(by omega),.inl ⟨s.pl,_,_,v,rfl,rfl,.of h1.pl,ev,?_⟩⟩;obtain⟨k,hk⟩:=List.mem_iff_getElem?.mp hv
    obtain⟨pi,epi,dpi⟩:∃pi,s.pq[k]?=some pi/\IsD K (hid (had s (m::ms)) H1) (dPi pi) v:=by
     have kl:=(jV.mp hk).1;have pl:=h1.pd.length;rw[jC]at pl;have hp:s.pq[k]?=some (s.pq[k]'(by omega)):=jD _;obtain⟨v',e',d'⟩:=h1.pd.get (i:=k) (d:=dPi (s.pq[k]'(by omega))) (by rw[jJ,hp];rfl);rw[hk]at e'
     cases e'
     exact⟨_,hp,d'⟩
    obtain⟨tp,zz,rfl,qp,_,_,rfl,rfl,_,_,rfl,rfl,_,_,rfl,rfl,_,_,rfl,rfl,rfl⟩:=dpi
    obtain⟨pt,hpt,enm,enp,ecs,esz,ewy⟩:∃pt∈ps,pi.nm=pt.nm/\pi.np=pt.pa.length/\csD pool ps b pt.rs<=pi.sz/\pi.sz<=20/\pi.wy<=4:=by
     obtain⟨pt,e1,h⟩:=mC sM.pq.pr epi;exact⟨pt,jq e1,h⟩
    obtain⟨oD,oS,oE,o4,_⟩:=sM.pq.ok pt hpt;have qp1:∀{HH:Hp},Same (hid (had s (m::ms)) H1) HH->SqT K HH tp [.str pi.nm,.int (pi.np:Nat),.int (pi.sz:Nat),.int (pi.wy:Nat)]:=λs=>s.tupq qp;have qpH:=qp1 (xJ _ _);dsimp only[xF,List.set];refine⟨_,rfl,_,rfl,.inr (.inl ⟨tp,_,1,.int (pi.np:Nat),rfl,rfl,qpH,J9,_,_,rfl,rfl,_,rfl,.inr (.inl ⟨tp,_,2,.int (pi.sz:Nat),rfl,rfl,qpH,JA,_,_,rfl,rfl,_,rfl,.inr (.inl ⟨tp,_,3,.int (pi.wy:Nat),rfl,rfl,qpH,Xl,?_⟩)⟩)⟩)⟩;refine⟨H0,s,m::ms,1+pi.np+pi.sz,pi.wy,(by show [V.ref s.st,V.int (1+(pi.np:Nat)+(pi.sz:Nat)),V.int (pi.wy:Nat)]=_;rw[show(1:Int)+(pi.np:Nat)+(pi.sz:Nat)=((1+pi.np+pi.sz:Nat):Int) by omega]),h1,sm,by omega,by omega,λnf=>⟨_,rfl,xY (nxt ?_)⟩,λw H2 wl zr h2 x2=>⟨_,rfl,Jc ?_⟩⟩
    . exact q H1 s.kvs s.ways s.size m h1 sM.stay (λz=>absurd z ndr)
    . have re2:Same (hid (had s (m :: ms)) H1) (hid (had s (m :: ms)) H2):=ZL (λb o hb e=>x2 b o (λz=>hb (JJ (by rw[jA.mp z];simp[adrs]))) e) λa ha => .inl ha;have qp2:=qp1 (re2.trans (xJ _ _));refine Zl ?_;refine⟨_,rfl,.inr (.inl ⟨tp,_,1,.int (pi.np:Nat),rfl,rfl,qp2,J9,_,rfl,by omega,by omega,?_⟩)⟩;rw[ja];refine cC (λHH v=>∃e,EOk m.l6 3 e/\IsD K (hid (had s (m :: ms)) HH) (dE e) v) (λs h=>by obtain⟨e,h1,h2⟩:=h;exact⟨e,h1,h2.same (J3 s)⟩) 'd' (λi' Da H' R hi sm' nD oD hR=>?_) (λp7 H3 ys s3 np7 ep7 yl yh=>?_)
      . refine⟨_,rfl,_,rfl,_,rfl,_,_,rfl,rfl,_,_,rfl,rfl,⟨by omega,jX ((Nat.log2_lt 'd').mpr (show(0 + (i':Int) + 2).natAbs < 2 ^ 10 by omega)) 'f'⟩,s.st,_,m.l6,rfl,(h2.same sm').rd 'd',λp e qH s'' a o=>hR _ _ s'' ⟨e,o,(a (Da :: had s (m :: ms)) λz hz=>?_).same mB⟩⟩;rcases jB.mp hz with rfl | hz
        . exact oD
        . exact(h2.same sm').exh z hz
      . have h3:=h2.same s3;obtain⟨es,des,oes⟩:=mz yh;have el:=des.length;rw[jC]at el;have qp3:=qp1 (re2.trans ((xJ _ _).trans s3));refine⟨_,rfl,_,rfl,_,rfl,.inr (.inl ⟨tp,_,0,.str pi.nm,rfl,rfl,qp3,J0,_,rfl,by show 4<=sizeLine;decide,λpt' qM=>?_⟩)⟩;have u:=xy qM (.tup [.str "call",.str x,.str pi.nm,.ref p7]);have fq:fnd ps pi.nm=some pt:=by rw[enm];exact mx sM.pq.nd hpt
        have ecs':cs1 pool ps (csD pool ps (b+(5 - ms.length))) (.call x pi.nm es)<=1+pi.np+pi.sz:=by
         show(match fnd ps pi.nm with|none=>0|some q=>1+es.length+csD pool ps (b+(5 - ms.length)) q.rs)<=_;rw[fq];show 1+es.length+csD pool ps (b+(5 - ms.length)) pt.rs<=_;rw[aA (ju b _) oD];omega
        have nA7:p7∉had s (m::ms):=out h2.exh np7;exact qJ (r := .call x pi.nm es) (h3.same u) ⟨pt',_,rfl,.of (xQ (out h3.exh qM) xm),_,_,rfl,rfl,_,_,rfl,rfl,_,_,rfl,rfl,_,_,rfl,⟨p7,ys,rfl,.of (xQ nA7 (u _ _ ep7)),des.same (J3 u)⟩,rfl⟩ ⟨xp,pt,fq,by omega,by omega,λe he=>okE (oes e he) 'f',oS,Z1 (ju b _) oD,oE⟩ rfl (λy' e=>by cases e;exact xp) (Nat.add_le_add_left (Nat.mul_le_mul_left _ ecs') _) wl zr (λ_=>trivial) (λz=>absurd z ndr)
 intro _;refine⟨_,rfl,H0,s,m::ms,1,1,rfl,h1,sm,by decide,by decide,λnf=>⟨_,rfl,xY (nxt ?_)⟩,λw H2 wl zr h2 x2=>⟨_,rfl,Jc ?_⟩⟩
 . exact q H1 s.kvs s.ways s.size m h1 sM.stay (λz=>absurd z ndr)
 . refine⟨_,rfl,_,rfl,_,rfl,_,rfl,_,_,rfl,rfl,⟨by decide,by decide⟩,s.st,_,m.l6,rfl,h2.rd 'd',λp e H3 s3 a3 o3=>⟨by show 3<=sizeLine;decide,λpt qM=>?_⟩⟩;have h3:=h2.same s3;have u:=xy qM (.tup [.str "let",.str x,.ref p]);exact qJ (r := .lett x e) (h3.same u) ⟨pt,_,rfl,.of (xQ (out h3.exh qM) xm),_,_,rfl,rfl,_,_,rfl,rfl,_,_,rfl,(a3 _ h2.exh).same (J3 u),rfl⟩ ⟨xp,okE o3 'f'⟩ rfl (λy' e=>by cases e;exact xp) (jG _) wl zr (λ_=>trivial) (λz=>absurd z ndr)
theorem QQ:∀l:qB,IsDs K H (l.map D.str) (l.map V.str)
 | []=>rfl
 |_::l=>⟨_,_,rfl,rfl,QQ l⟩
def mD(K:qu):Sp:=λvs H Q _=>∃(H0:Hp) (pool:qB) (ps:List Pt) (b:Nat) (K0:qB) (pre:List Wr) (i:Nat) (s:Sa) (c:Int) (m:Fr) (ms:List Fr),vs=[.ref s.st,.int c]/\MkH K H0 H s (m::ms)/\StM pool ps b K0 pre i s (m::ms)/\i<=500/\∀(H':Hp) (kvs:List (Key×V)) (w z:Nat) (m1:Fr) (ms1:List Fr),MkH K H0 H' (s.up kvs w z) (m1::ms1)->StM pool ps b K0 pre (i+1) (s.up kvs w z) (m1::ms1)->(ZM s c m ms->ms1=[]/\∃x os,m1.ra=m.ra++[.draw x os])->Q .non H'
def wE(B:Bl mg)(JN:Def P w K mg base "_law_expr" 3 ["_law_state", "_law_cell"] (QO K 3))(Xr:Def P w K mg base "_law_new" 1 ["_law_word", "_law_head", "_law_now"] (cZ K))(QE:Def P w K mg base "_law_fits" 1 ["_law_state", "_law_size", "_law_many"] (d7 K))(dC:Def P w K mg base "_law_plain" 5 ["_law_state", "_law_cell"] (my K))(Z3:Def P w K mg base "_law_closed" 2 ["_law_state"] (dw K))(F:Fn K mg "_law_one" YG ["_law_state", "_law_cell"]):Def P w K mg base "_law_one" 6 ["_law_state", "_law_cell"] (mD K):=by
 refine F.ok bX (λvs H Q E h=>?_) (λf qF A outer s H vs Q E hr h=>?_)
 . obtain⟨H0,pool,ps,b,K0,pre,i,s,c,m,ms,rfl,_⟩:=h;rfl
 obtain⟨H0,pool,ps,b,K0,pre,i,s,c,m,ms,rfl,hm,sM,i500,q⟩:=h
 refine⟨_,(@xu _ _ _ _ _ (xM (i:=2) bX.nd rfl 'b' (xL (xG hr) (pv 0) xt (λ_ _=>rfl)))
  (@xu _ _ _ _ _ (xM (i:=3) bX.nd rfl 'b' (xD (xE K rfl) (pv 2) (Xw Xx xi) (λ_ _=>rfl)))
  (@xw _ _ _ (xO (PW.pt (JW (xK (Ji.or Jb) (xx xV (pv 1) xi) xi (xN _)) (JW (xK Z8 (J5 (JF K rfl) rfl B.len PySem.boot_len (@xj _ _ _ _ _ (pv 2) xk rfl)) xi (xN _)) (Qq (JC (xI QE hr rfl (@xj _ _ _ _ _ (pv 0) (@xj _ _ _ _ _ xi (@xj _ _ _ _ _ xi xk rfl) rfl) rfl))))))) (@xw _ _ _ (J1 (JD PySem.F.plainAttrs_list PySem.F.slot_list_append PySem.F.type_list_append Jy (pv 2) (@xj _ _ _ _ _ (xI Xr hr rfl (@xj _ _ _ _ _ xt (@xj _ _ _ _ _ (xI JN hr rfl (@xj _ _ _ _ _ (pv 0) (@xj _ _ _ _ _ (xx J6 (pv 1) xi) xk rfl) rfl)) (@xj _ _ _ _ _ (xL (xG hr) (pv 3) xt (λ_ _=>rfl)) xk rfl) rfl) rfl)) xk rfl)))) (@xw _ _ _ (xO (PW.pt (JW (xK (Ji.or Jb) (xx xV (pv 1) xi) xi (xN _)) (JW (xK Z8 (J5 (JF K rfl) rfl B.len PySem.boot_len (@xj _ _ _ _ _ (pv 2) xk rfl)) xi (xN _)) (Qq (JC (xI QE hr rfl (@xj _ _ _ _ _ (pv 0) (@xj _ _ _ _ _ xi (@xj _ _ _ _ _ xi xk rfl) rfl) rfl))))))) (@xw _ _ _ (J1 (JD PySem.F.plainAttrs_list PySem.F.slot_list_append PySem.F.type_list_append Jy (pv 2) (@xj _ _ _ _ _ (xI Xr hr rfl (@xj _ _ _ _ _ xt (@xj _ _ _ _ _ (xx xV (xx J7 xi (xx J6 (pv 1) xi)) xi) (@xj _ _ _ _ _ (xL (xG hr) (pv 3) xt (λ_ _=>rfl)) xk rfl) rfl) rfl)) xk rfl)))) (@xw _ _ _ (xO (PW.pt (JW (xK (Ji.or Jb) (xx xV (pv 1) xi) xi (xN _)) (JW (xK (Ji.or Jb) (xL (xG hr) (pv 3) xt (λ_ _=>rfl)) xt (xN _)) (Qq (ZT (JC (xL (xG hr) (pv 3) xt (λ_ _=>rfl)))))))) (@xu _ _ _ _ _ (Je (xG hr) (pv 3) xt Qp rfl)
  (@xu _ _ _ _ _ (Je (xG hr) (pv 3) xt (xL (xG hr) (pv 3) xt (λ_ _=>rfl)) rfl)
  (@xw _ _ _ (Je (xG hr) (pv 3) xt (JY (Zm K rfl) rfl B.list PyProof.Rows.boot_list (@xj _ _ _ _ _ (xL (xG hr) (pv 3) xt (λ_ _=>rfl)) xk rfl)) rfl)))) (@xw _ _ _ (xO (PW.pt (JW (xK (Yg K rfl) (xx xV (pv 1) xi) (@xZ _ _ _ _ _ _ _ xi xi rfl rfl) 'g') (Qq (xK QI (J5 (JF K rfl) rfl B.len PySem.boot_len (@xj _ _ _ _ _ (pv 2) xk rfl)) xi (xN _))))) (@xw _ _ _ (J1 (xI Z3 hr rfl (@xj _ _ _ _ _ (pv 0) xk rfl)))) (@xw _ _ _ (J1 (xI dC hr rfl (@xj _ _ _ _ _ (pv 0) (@xj _ _ _ _ _ (pv 1) xk rfl) rfl)))))))))))))),?_⟩
 have big:(100000:Nat)<sizeLine:=by decide
 have t:=hm.fr m (jH ..);have fM:=sM.ch.top;have l6:=fM.l6 sM.pq.p6;have sm:=sM.sm;have few:=sm.few;rw[jU]at few;obtain⟨pre',epre⟩:∃pre',pre'=ms.reverse.map (λm=>V.ref m.f):=⟨_,rfl⟩;have efl:∀{HH:Hp}{s':Sa},s'.fl=s.fl->MkH K H0 HH s' (m::ms)->HH s.fl=some (.lst (pre'++[V.ref m.f])):=λe h=>by rw[<- e,h.fl,jx,jd,epre];rfl
 have pl:(pre'++[V.ref m.f]).length=ms.length+1:=by rw[jY,epre,jC,List.length_reverse];rfl
 refine⟨_,rfl,s.st,_,rfl,xT hm.st hm.v.frames,?_⟩;dsimp only[xF,List.set,L2.J2,jR];refine⟨_,rfl,1,rfl,.inl ⟨s.fl,_,-1,.ref m.f,rfl,rfl,.of (efl rfl hm),ZJ _ _,?_⟩⟩;dsimp only[xF,List.set];have z12:(0:Int)<12:=by decide
 -- a frame more
 have grow:∀{kvs:List (Key×V)}{w z:Nat}{H2 H3:Hp}{kd:Str}{num:Nat}{e:Ex}{hx:V}{f r2 r3 n5 n6 n7:xb},MkH K H0 H2 (s.up kvs w z) (m::ms)->ms.length+1<6->Small (s.up kvs w z) (m::ms)->(kd = "if" /\ EOk m.l6 3 e/\s.size+turns (m::ms)*9<=z)\/(kd = "rounds" /\ s.size<=z)->num<=3->IsD K (hid (had s (m::ms)) H2) (if kd = "if" then dE e else .int (num:Nat)) hx->¬ZM s c m ms ->
  Same H2 H3->H2 f=none->H2 r2=none->H2 r3=none->H2 n6=none->[f,r2,r3,n6].Nodup->n5∉[f,r2,r3,n6]->n7∉[f,r2,r3,n6]->H3 f=some (.dK [(.inr "word",.str kd),(.inr "head",hx),(.inr "first",.ref r2),(.inr "second",.ref r3),(.inr "turned",.bl false),(.inr "start",.ref n5),(.inr "now",.ref n6),(.inr "other",.ref n7)])->H3 r2=some (.lst [])->H3 r3=some (.lst [])->H3 n5=some (.lst (m.l6.map V.str))->H3 n6=some (.lst (m.l6.map V.str))->H3 n7=some (.lst [])->H2 n5=none->H2 n7=none->Q .non (upd H3 s.fl (.lst (pre'++[V.ref m.f]++[.ref f]))):=by
  intro kvs w z H2 H3 kd num e hx f r2 r3 n5 n6 n7 h2 few6 sm2 kd' num3 dh nd s3 q1 q2 q3 q6 nda i5 i7 e1 e2 e3 e5 e6 e7 f5 f7;have efl2:=efl (s':=s.up kvs w z) rfl h2;have nfl:∀{a:xb},H2 a=none->a≠s.fl:=λn z=>by rw[z,efl2]at n;cases n
  have outA:∀{a:xb},H2 a=none->a∉adrs s (m::ms):=λn z=>by obtain⟨o,e⟩:=h2.ex _ z;rw[e]at n;cases n
  have outE:∀{a:xb},H2 a=none->a∉s.ex:=λn z=>by obtain⟨o,e⟩:=h2.exh _ (jM _ z);rw[e]at n;cases n
  have out:∀{a:xb},H2 a=none->a∉[f,r2,r3,n6]->a∉had s ((⟨f,r2,r3,n6,n5,n7,kd,num,e,false,[],[],hx,[],[],m.l6,m.l6,[]⟩:Fr)::m::ms):=λn na=>av (λz=>by
   have o:=outA n;simp only[adrs,jB,jc,jI,Fr.adr,jb,kP]at z o na;rcases z with z|z|z|z|z
   . exact o (.inl z)
   . exact o (.inr (.inl z))
   . exact o (.inr (.inr (.inl z)))
   . exact na z
   . exact o (.inr (.inr (.inr z)))) (outE n)
  refine q _ kvs w z ⟨f,r2,r3,n6,n5,n7,kd,num,e,false,[],[],hx,[],[],m.l6,m.l6,[]⟩ (m::ms) (h2.push (λb o hb e=>by rw[xz (show b≠s.fl from hb)];exact s3 _ _ e) ?_ (λa ha=>?_) nda λre=>?_) (sM.push (by rw[jU];exact few6) rfl rfl rfl rfl rfl kd' num3 rfl rfl sm2) (λz=>absurd z nd)
  . show upd H3 s.fl _ s.fl=_;rw[xm,jx,jd,jx,jd,epre];rfl
  . simp only[Fr.adr,jB,jb,kP]at ha;rcases ha with rfl | rfl | rfl | rfl
    . exact q1
    . exact q2
    . exact q3
    . exact q6
  . exact⟨by rw[xz (nfl q1)];exact e1,by rw[xz (nfl q2)];exact e2,by rw[xz (nfl q3)];exact e3,by rw[xz (nfl q6)];exact e6,rfl,rfl,dh.same re,⟨n5,_,rfl,.of (xQ (out f5 i5) (by rw[xz (nfl f5)];exact e5)),QQ _⟩,⟨n7,_,rfl,.of (xQ (out f7 i7) (by rw[xz (nfl f7)];exact e7)),rfl⟩⟩
 apply Xq (N:=True)
 rotate_left
 . intro hB;refine⟨_,rfl,_,_,rfl,rfl,z12,.inl ⟨_,_,rfl,rfl,_,rfl,xU (λc7=>?_) (λ_=>xY (hB trivial))⟩⟩;refine⟨_,rfl,_,_,rfl,JZ (.of (efl rfl hm)),_,_,rfl,rfl,_,rfl,xU (λc6=>?_) (λ_=>xY (hB trivial))⟩;refine⟨_,rfl,H0,s,m::ms,9,1,rfl,hm,sm,by decide,by decide,λnf=>⟨_,rfl,xY (hB trivial)⟩,λw H2 wl zr h2 x2=>⟨_,rfl,Jc ?_⟩⟩;have t2:=h2.fr m (jH ..);refine⟨_,rfl,.inl ⟨rfl,_,.of (efl (s':=s.fit w _) rfl h2)⟩,_,rfl,_,rfl,_,_,rfl,rfl,⟨by decide,by decide⟩,s.st,_,m.l6,rfl,h2.rd 'd',λp e H3 s3 a3 o3=>?_⟩;have h3:=h2.same s3;have t3:=h3.fr m (jH ..);refine⟨_,rfl,m.f,_,rfl,xT t3.f rfl, "if",.ref p,m.n6,m.l6,rfl,.of t3.n6,by omega,λf r2 r3 n5 n6 n7 H4 s4 q1 q2 q3 q6 nda i5 i7 e1 e2 e3 e5 e6 e7 f5 f7=>?_⟩;refine⟨s.fl,_,.ref f,rfl,rfl,s4 _ _ (efl (s':=s.fit w _) rfl h3),by rw[pl];omega,?_⟩;exact grow (num:=0) (e:=e) h3 'd' ⟨sm.few,sm.num,wl,sm.limit,zr,sm.room⟩ (.inl ⟨rfl,o3,jG _⟩) 'f' (a3 _ h2.exh) (λz=>by have:=z.2.1;omega) s4 q1 q2 q3 q6 nda i5 i7 e1 e2 e3 e5 e6 e7 f5 f7
 intro _;apply Xq (N:=True)
 rotate_left
 . intro hB;refine⟨_,rfl,_,_,rfl,rfl,z12,.inl ⟨_,_,rfl,rfl,_,rfl,xU (λc7=>?_) (λ_=>xY (hB trivial))⟩⟩;refine⟨_,rfl,_,_,rfl,JZ (.of (efl rfl hm)),_,_,rfl,rfl,_,rfl,xU (λc6=>?_) (λ_=>xY (hB trivial))⟩;refine⟨_,rfl,H0,s,m::ms,3,1,rfl,hm,sm,by decide,by decide,λnf=>⟨_,rfl,xY (hB trivial)⟩,λw H2 wl zr h2 x2=>⟨_,rfl,Jc ?_⟩⟩;have t2:=h2.fr m (jH ..);refine⟨_,rfl,.inl ⟨rfl,_,.of (efl (s':=s.fit w _) rfl h2)⟩,_,rfl,_,_,rfl,rfl,⟨by decide,by decide⟩,_,_,rfl,rfl,_,_,rfl,rfl,(by show(0:Int)<4;decide),?_⟩;refine⟨_,rfl,m.f,_,rfl,xT t2.f rfl, "rounds",.int ((1+c / 12) % 4),m.n6,m.l6,rfl,.of t2.n6,by omega,λf r2 r3 n5 n6 n7 H4 s4 q1 q2 q3 q6 nda i5 i7 e1 e2 e3 e5 e6 e7 f5 f7=>?_⟩;refine⟨s.fl,_,.ref f,rfl,rfl,s4 _ _ (efl (s':=s.fit w _) rfl h2),by rw[pl];omega,?_⟩;exact grow (num:=((1+c / 12) % 4).toNat) (e := .num 0) h2 'd' ⟨sm.few,sm.num,wl,sm.limit,zr,sm.room⟩ (.inr ⟨rfl,ju _ _⟩) 'd' (by rw[k9 'f'];show V.int _=V.int _;congr 1;omega) (λz=>by have:=z.2.1;omega) s4 q1 q2 q3 q6 nda i5 i7 e1 e2 e3 e5 e6 e7 f5 f7
 intro _;apply Xq (N:=True)
 rotate_left
 . intro hB;refine⟨_,rfl,_,_,rfl,rfl,z12,.inl ⟨_,_,rfl,rfl,_,rfl,xU (λc9=>?_) (λ_=>xY (hB trivial))⟩⟩;refine⟨_,rfl,m.f,_,rfl,xT t.f rfl,.inr ⟨_,_,rfl,rfl,_,rfl,xU (λck=>?_) (λ_=>xY (hB trivial))⟩⟩;refine⟨_,rfl,m.f,_,rfl,xT t.f rfl,_,rfl,?_⟩
   cases el:m.els with
   |true=>exact xY (hB trivial)
   |false =>
    refine Jc ?_;obtain⟨a1,a2,a3,a4,a5,a6⟩:=JU hm.nd;obtain⟨y1,y2,y3,y4,y5,y6⟩:=Xa a1;obtain⟨_,zz,e5,q5,d5⟩:=t.n5
    cases e5
    obtain rfl:=Qv d5;refine⟨_,rfl,m.f,_,rfl,DPut.k (k := .inr "turned") t.f (by show 8<sizeLine;decide),?_⟩;have e1:upd H m.f (.dK (xH m.kv (.inr "turned") (.bl true))) m.f=some (.dK (xH m.kv (.inr "turned") (.bl true))):=xm;have k1:∀b o,b≠m.f->H b=some o->upd H m.f (.dK (xH m.kv (.inr "turned") (.bl true))) b=some o:=λb o hb e=>by rw[xz hb];exact e
    have f1:∀p,upd H m.f (.dK (xH m.kv (.inr "turned") (.bl true))) p=none->H p=none:=λp hp=>by
     by_cases z:p=m.f
     . rw[z,xm]at hp;cases hp
     . rwa [xz z]at hp
    generalize upd H m.f (.dK (xH m.kv (.inr "turned") (.bl true)))=H1 at e1 k1 f1 ⊢;refine⟨_,rfl,m.f,.ref m.n6,rfl,xT e1 rfl,_,rfl,m.f,_,rfl,DPut.k (k := .inr "other") e1 (by show 8<sizeLine;decide),?_⟩;have e2:upd H1 m.f (.dK (xH (xH m.kv (.inr "turned") (.bl true)) (.inr "other") (.ref m.n6))) m.f=some (.dK (xH (xH m.kv (.inr "turned") (.bl true)) (.inr "other") (.ref m.n6))):=xm;have k2:∀b o,b≠m.f->H b=some o->upd H1 m.f (.dK (xH (xH m.kv (.inr "turned") (.bl true)) (.inr "other") (.ref m.n6))) b=some o:=λb o hb e=>by rw[xz hb];exact k1 b o hb e
    have f2:∀p,upd H1 m.f (.dK (xH (xH m.kv (.inr "turned") (.bl true)) (.inr "other") (.ref m.n6))) p=none->H p=none:=λp hp=>by
     by_cases z:p=m.f
     . rw[z,xm]at hp;cases hp
     . rw[xz z]at hp;exact f1 p hp
    generalize upd H1 m.f (.dK (xH (xH m.kv (.inr "turned") (.bl true)) (.inr "other") (.ref m.n6)))=H2 at e2 k2 f2 ⊢
    have q52:SqL K H2 m.n5 (m.l5.map V.str):=Same.seq (λb o e=>k2 b o (λz=>by
     unfold hid at e;rw[ke (JJ (by rw[z];simp[adrs,Fr.adr]))]at e;cases e) ((xJ _ _) b o e)) q5
    refine⟨_,rfl,m.f,.ref m.n5,rfl,xT e2 rfl,m.n5,_,rfl,.inl q52,λl nl=>?_⟩;have u:=xy nl (.lst (m.l5.map V.str));have nlH:=f2 l nl;have lf:l≠m.f:=λz=>by rw[z,e2]at nl;cases nl
    refine⟨_,rfl,m.f,_,rfl,DPut.k (k := .inr "now") (u _ _ e2) (by show 8<sizeLine;decide),?_⟩;have ex:∀a∈adrs s (m::ms),∃o,H a=some o:=hm.ex;have lA:l∉adrs s (m::ms):=λz=>by obtain⟨o,e⟩:=ex _ z;rw[e]at nlH;cases nlH
    have l2:l≠m.r2:=λz=>by rw[z,t.r2]at nlH;cases nlH
    have l3:l≠m.r3:=λz=>by rw[z,t.r3]at nlH;cases nlH
    have l6':l≠m.n6:=λz=>by rw[z,t.n6]at nlH;cases nlH
    have k4:∀b o,b≠m.f->H b=some o->upd (upd H2 l (.lst (m.l5.map V.str))) m.f (.dK (xH (xH (xH m.kv (.inr "turned") (.bl true)) (.inr "other") (.ref m.n6)) (.inr "now") (.ref l))) b=some o:=λb o hb e=>by rw[xz hb];exact u _ _ (k2 b o hb e)
    refine q _ s.kvs s.ways s.size { m with els:=true,n7:=m.n6,l7:=m.l6,n6:=l,l6:=m.l5 } ms (hm.top (λb o hb e=>k4 b o (λz=>hb (by rw[z];simp[Fr.adr])) e) (λa ha=>?_) ?_ rfl λre=>?_) (sM.turn ck el rfl rfl rfl rfl rfl rfl rfl rfl rfl ?_) (λz=>by have:=z.2.1;omega)
    . simp only[Fr.adr,jB,jb,kP]at ha ⊢;rcases ha with rfl | rfl | rfl | rfl
      . exact .inl (.inl rfl)
      . exact .inl (.inr (.inl rfl))
      . exact .inl (.inr (.inr (.inl rfl)))
      . exact .inr nlH
    . simp[Fr.adr,y1,y2,y4,lf.symm,l2.symm,l3.symm]
    . have n6A:m.n6∉had s (({ m with els:=true,n7:=m.n6,l7:=m.l6,n6:=l,l6:=m.l5 }:Fr) :: ms):=av (λz=>by
       simp only[adrs,jB,jc,jI,Fr.adr,jb,kP]at z;have mi:m.n6∈m.adr:=by simp[Fr.adr]
       rcases z with z|z|z|(z|z|z|z)|z
       . exact a2 (z ▸ mi)
       . exact a3 (z ▸ mi)
       . exact a4 (z ▸ mi)
       . exact y3 z.symm
       . exact y5 z.symm
       . exact y6 z.symm
       . exact l6' z.symm
       . obtain⟨m',hm',z⟩:=jr.mp z;exact a5 _ mi m' hm' z) (hm.nex (aE (m:=m) (by simp[Fr.adr]) (jH ..)))
      exact⟨xm,k4 _ _ y1.symm t.r2,k4 _ _ y2.symm t.r3,by rw[xz lf];exact xm,t.d2.same re,t.d3.same re,t.h.same re,t.n5.same re,⟨m.n6,_,rfl,.of (xQ n6A (k4 _ _ y3.symm t.n6)),QQ _⟩⟩
    . cases ms with
      |nil =>
       have:=sM.ch.2.1;rw[ck]at this;exact absurd this 'f'
      |cons m' ms=>exact sM.nd5
 intro _;refine⟨_,rfl,_,_,rfl,rfl,z12,by show 2<=sizeLine;decide,λp0 np0=>⟨p0,_,rfl,.inr (.of xm),rfl,rfl,_,rfl,?_⟩⟩;show if (inV (.int (c % 12)) [.int 9,.int 10])=true then _ else _;have h1:=hm.same (xy np0 (.tup [.int 9,.int 10]));generalize upd H p0 (.tup [.int 9,.int 10])=H1 at h1 ⊢;dsimp only[xF,List.set,L2.J2,jR];apply Xq (N:=True)
 rotate_left
 . intro hB
   cases inV (V.int (c % 12)) [V.int 9,V.int 10] with
   |false=>exact xY (xY (hB trivial))
   |true =>
    refine Jc ⟨_,rfl,_,_,rfl,JZ (.of (efl rfl h1)),_,_,rfl,rfl,_,rfl,xU (λc0=>?_) (λ_=>hB trivial)⟩;rw[pl]at c0
    cases ms with
    |nil=>simp at c0
    |cons m' ms=>exact⟨_,rfl,H0,pool,ps,b,K0,pre,i,s,m,m',ms,rfl,h1,sM,i500,λH' m1 h' s'=>q H' s.kvs s.ways s.size m1 ms h' s' (λz=>by have:=z.1;cases this)⟩
 intro _;exact⟨_,rfl,_,rfl,H0,pool,ps,b,K0,pre,i,s,c,m,ms,rfl,h1,sM,i500,λH' kvs w z m1 h' s' d=>q H' kvs w z m1 ms h' s' (λz=>⟨z.1,d z⟩)⟩
def Sa.rw(s:Sa)(fl:xb)(kvs:List (Key×V))(w z li ro:Nat):Sa:={ s with fl:=fl,kvs:=kvs,ways:=w,size:=z,limit:=li,room:=ro }
structure Bs (K:qu) (H:Hp) (s:Sa):Prop where
 ne:s.st≠s.pl
 st:H s.st=some (.dK s.kvs)
 v:Sb s
 pl:H s.pl=some (.lst s.px)
 nl:IsD K (hid (s.st::s.pl::s.ex) H) (.lst (s.nm.map D.str)) (.ref s.nl)
 lg:IsD K (hid (s.st::s.pl::s.ex) H) (.lst [.int s.l0,.int s.l1]) (.ref s.lg)
 pd:IsDs K (hid (s.st::s.pl::s.ex) H) (s.pq.map dPi) s.px
 exl:∀a∈s.ex,∃o,H a=some o
def dD(K:qu):Sp:=λvs H Q _=>∃(pool:qB) (ps:List Pt) (b:Nat) (K0:qB) (s:Sa) (cl nw:xb) (cs:qD) (li ro:Nat),vs=[.ref s.st,.ref cl,.ref nw,.int (li:Nat),.int (ro:Nat)]/\Bs K H s/\SqL K (hid [s.st,s.pl] H) cl (cs.map V.int)/\SqL K (hid [s.st,s.pl] H) nw (K0.map V.str)/\PqOk pool ps b s.pq/\s.nm=pool/\(∀n∈K0,n∈pool)/\K0.Nodup/\cs.length<=70/\4<=li/\li<=4096/\1<=ro/\ro<=1000 /\
 ∀(H':Hp) (fl:xb) (kvs:List (Key×V)) (w z i:Nat) (m:Fr) (pre:List Wr),MkH K H H' (s.rw fl kvs w z li ro) [m]->StM pool ps b K0 pre i (s.rw fl kvs w z li ro) [m]->(cs.head?=some 434->∃x os,pre=[.draw x os])->Q (.ref m.f) H'
theorem wF(B:Bl mg)(Xr:Def P w K mg base "_law_new" 1 ["_law_word", "_law_head", "_law_now"] (cZ K))(dF:Def P w K mg base "_law_one" 6 ["_law_state", "_law_cell"] (mD K))(Z3:Def P w K mg base "_law_closed" 2 ["_law_state"] (dw K))(F:Fn K mg "_law_rows" YH ["_law_state", "_law_cells", "_law_now", "_law_limit", "_law_room"]):Def P w K mg base "_law_rows" 7 ["_law_state", "_law_cells", "_law_now", "_law_limit", "_law_room"] (dD K):=by
 refine F.ok iz (λvs H Q E h=>?_) (λf qF A outer s H vs Q E hr h=>?_)
 . obtain⟨pool,ps,b,K0,s,cl,nw,cs,li,ro,rfl,_⟩:=h;rfl
 obtain⟨pool,ps,b,K0,s,cl,nw,cs,li,ro,rfl,bs,qc,qn,pq,nmp,ksub,knd,c70,li4,lil,ro1,rol,q⟩:=h
 refine⟨_,(@xu _ _ _ _ _ (Je (xG hr) (pv 0) xt (@gw _ _ _ _ (xI Xr hr rfl (@xj _ _ _ _ _ xt (@xj _ _ _ _ _ xi (@xj _ _ _ _ _ (pv 2) xk rfl) rfl) rfl)) rfl) rfl)
  (@xu _ _ _ _ _ (Je (xG hr) (pv 0) xt xi rfl)
  (@xu _ _ _ _ _ (Je (xG hr) (pv 0) xt xi rfl)
  (@xu _ _ _ _ _ (Je (xG hr) (pv 0) xt (pv 3) rfl)
  (@xu _ _ _ _ _ (Je (xG hr) (pv 0) xt (pv 4) rfl)
  (@xu _ _ _ _ _ (Q6 PassesOwn.never rfl (JK (pv 1)) (Ju (i:=5) iz.nd rfl 'b') (@xw _ _ _ (J1 (xI dF hr rfl (@xj _ _ _ _ _ (pv 0) (@xj _ _ _ _ _ (pv 5) xk rfl) rfl)))))
  (@xu _ _ _ _ _ (eM PassesOwn.never (xK QI (J5 (JF K rfl) rfl B.len PySem.boot_len (@xj _ _ _ _ _ (xL (xG hr) (pv 0) xt (λ_ _=>rfl)) xk rfl)) xi (xN _)) (@xw _ _ _ (J1 (xI Z3 hr rfl (@xj _ _ _ _ _ (pv 0) xk rfl)))))
  (@xw _ _ _ (xP (xD (xE K rfl) (xL (xG hr) (pv 0) xt (λ_ _=>rfl)) xi (λ_ _=>rfl))))))))))),?_⟩
 have big:(100000:Nat)<sizeLine:=by decide
 have p6:=pq.p6;have kl:K0.length<=6:=by have:=List.Nodup.length_le_of_subset knd ksub;omega
 have hsub:∀{HH:Hp},Xc [s.st,s.pl] H HH->Same (hid [s.st,s.pl] H) HH:=λx b o e=>by
  have nb:b∉[s.st,s.pl]:=λz=>by unfold hid at e;rw[ke z]at e;cases e
  unfold hid at e;rw[k9 nb]at e;exact x b o nb e
 refine⟨_,rfl, "",.int 0,nw,K0,rfl,(xJ _ _).seq qn,by omega,λf r2 r3 n5 n6 n7 H1 s1 q1 q2 q3 q6 nda i5 i7 e1 e2 e3 e5 e6 e7 f5 f7=>⟨by show 1<=sizeLine;decide,λfl nfl=>?_⟩⟩;have u:=xy nfl (.lst [V.ref f]);have efl:upd H1 fl (.lst [V.ref f]) fl=some (.lst [V.ref f]):=xm;have s2:=s1.trans u;generalize upd H1 fl (.lst [V.ref f])=H2 at u efl s2 ⊢;have gfl:=s1.free nfl;have ko:=bs.v.ko
 have lo:∀{kv:List (Key×V)},KeyOk kv->kv.length<sizeLine:=λh=>by
  have:=List.Nodup.length_le_of_subset h.nd h.sub;rw[jC]at this;exact jk (je this (by decide:_<=20)) 'd'
 have put:∀{HH:Hp}{kv:List (Key×V)}{k:Str}{v:V},HH s.st=some (.dK kv)->(∀b,b≠s.st->HH b=H2 b)->(upd HH s.st (.dK (xH kv (.inr k) v))) s.st=some (.dK (xH kv (.inr k) v))/\∀b,b≠s.st->(upd HH s.st (.dK (xH kv (.inr k) v))) b=H2 b:=λ_ h=>⟨xm,λb hb=>by rw[xz hb];exact h b hb⟩;have ko1:KeyOk (xH s.kvs (.inr "frames") (.ref fl)):=ko.put (by simp[stK]);have ko2:KeyOk (xH (xH s.kvs (.inr "frames") (.ref fl)) (.inr "ways") (.int 1)):=ko1.put (by simp[stK]);have ko3:KeyOk (xH (xH (xH s.kvs (.inr "frames") (.ref fl)) (.inr "ways") (.int 1)) (.inr "size") (.int 0)):=ko2.put (by simp[stK]);have ko4:KeyOk (xH (xH (xH (xH s.kvs (.inr "frames") (.ref fl)) (.inr "ways") (.int 1)) (.inr "size") (.int 0)) (.inr "limit") (.int (li:Nat))):=ko3.put (by simp[stK]);refine⟨_,rfl,s.st,_,rfl,DPut.k (k := .inr "frames") (s2 _ _ bs.st) (lo ko),?_⟩;obtain⟨p1,k1⟩:=put (k := "frames") (v := .ref fl) (s2 _ _ bs.st) (λ_ _=>rfl);generalize upd H2 s.st (.dK (xH s.kvs (.inr "frames") (.ref fl)))=H3 at p1 k1 ⊢;refine⟨_,rfl,s.st,_,rfl,DPut.k (k := .inr "ways") p1 (lo ko1),?_⟩;obtain⟨p2,k2⟩:=put (k := "ways") (v := .int 1) p1 k1;generalize upd H3 s.st (.dK (xH (xH s.kvs (.inr "frames") (.ref fl)) (.inr "ways") (.int 1)))=H4 at p2 k2 ⊢;refine⟨_,rfl,s.st,_,rfl,DPut.k (k := .inr "size") p2 (lo ko2),?_⟩;obtain⟨p3,k3⟩:=put (k := "size") (v := .int 0) p2 k2;generalize upd H4 s.st _=H5 at p3 k3 ⊢;refine⟨_,rfl,_,rfl,s.st,_,rfl,DPut.k (k := .inr "limit") p3 (lo ko3),?_⟩;obtain⟨p4,k4⟩:=put (k := "limit") (v := .int (li:Nat)) p3 k3;generalize upd H5 s.st _=H6 at p4 k4 ⊢;refine⟨_,rfl,_,rfl,s.st,_,rfl,DPut.k (k := .inr "room") p4 (lo ko4),?_⟩;obtain⟨p5,k5⟩:=put (k := "room") (v := .int (ro:Nat)) p4 k4;generalize upd H6 s.st _=H7 at p5 k5 ⊢;obtain⟨m0,em0⟩:∃m0:Fr,m0=⟨f,r2,r3,n6,n5,n7, "",0,.num 0,false,[],[],.int 0,[],[],K0,K0,[]⟩:=⟨_,rfl⟩;obtain⟨kv,ekv⟩:∃kv,kv=xH (xH (xH (xH (xH s.kvs (.inr "frames") (.ref fl)) (.inr "ways") (.int 1)) (.inr "size") (.int 0)) (.inr "limit") (.int (li:Nat))) (.inr "room") (.int (ro:Nat)):=⟨_,rfl⟩;rw[<- ekv]at p5;have old:∀{a:xb},H a=none->a≠s.st/\a≠s.pl:=λn=>⟨(λz=>by rw[z,bs.st]at n;cases n),(λz=>by rw[z,bs.pl]at n;cases n)⟩;have get:∀{a:xb}{o:HO},H a=none->H2 a=some o->H7 a=some o:=λn e=>by rw[k5 _ (old n).1];exact e
 have x07:Xc [s.st,s.pl] H H7:=λb o nb e=>by rw[k5 b (λz=>nb (by rw[z];simp))];exact s2 _ _ e
 have nfl':∀{a:xb}{o:HO},H1 a=some o->a≠fl:=λe z=>by rw[z,nfl]at e;cases e
 have v0:Sv (s.rw fl kv 1 0 li ro):=by
  subst ekv;refine⟨⟨ko4.put (by simp[stK]),?_,?_,?_,?_⟩,?_,?_,?_,?_,?_⟩
  . unfold Sa.rw;dsimp only;rw[xR 'f',xR 'f',xR 'f',xR 'f',xR 'f'];exact bs.v.names
  . unfold Sa.rw;dsimp only;rw[xR 'f',xR 'f',xR 'f',xR 'f',xR 'f'];exact bs.v.large
  . unfold Sa.rw;dsimp only;rw[xR 'f',xR 'f',xR 'f',xR 'f',xR 'f'];exact bs.v.parts
  . obtain⟨g,hg⟩:=bs.v.great;refine⟨g,?_⟩;unfold Sa.rw;dsimp only;rw[xR 'f',xR 'f',xR 'f',xR 'f',xR 'f'];exact hg
  . unfold Sa.rw;dsimp only;rw[xR 'f',xR 'f',xR 'f',xR 'f'];exact QP
  . unfold Sa.rw;dsimp only;rw[xR 'f',xR 'f',xR 'f'];exact QP
  . unfold Sa.rw;dsimp only;rw[xR 'f',xR 'f'];exact QP
  . unfold Sa.rw;dsimp only;rw[xR 'f'];exact QP
  . exact QP
 have af:m0.adr=[f,r2,r3,n6]:=by rw[em0];rfl
 have ad:adrs (s.rw fl kv 1 0 li ro) [m0]=[s.st,s.pl,fl,f,r2,r3,n6]:=by show _::_::_::(m0.adr++[])=_;rw[af];rfl
 have adh:had (s.rw fl kv 1 0 li ro) [m0]=[s.st,s.pl,fl,f,r2,r3,n6]++s.ex:=by show adrs (s.rw fl kv 1 0 li ro) [m0]++s.ex=_;rw[ad]
 have nin:∀{a:xb},H a=none->a≠fl->a∉[f,r2,r3,n6]->a∉[s.st,s.pl,fl,f,r2,r3,n6]++s.ex:=λn n1 n2 z=>by
  rcases jI.mp z with z|z
  rotate_left
  . obtain⟨o,e⟩:=bs.exl _ z;rw[e]at n;cases n
  rcases jB.mp z with z|z
  . exact(old n).1 z
  rcases jB.mp z with z|z
  . exact(old n).2 z
  rcases jB.mp z with z|z
  . exact n1 z
  exact n2 z
 have nda':[s.st,s.pl,fl,f,r2,r3,n6].Nodup:=by
  have o1:=old gfl;have o2:=old q1;have o3:=old q2;have o4:=old q3;have o5:=old q6;have a1:=nfl' e1;have a2:=nfl' e2;have a3:=nfl' e3;have a4:=nfl' e6;refine jP.mpr ⟨?_,jP.mpr ⟨?_,jP.mpr ⟨?_,nda⟩⟩⟩
  . simp[bs.ne,o1.1.symm,o2.1.symm,o3.1.symm,o4.1.symm,o5.1.symm]
  . simp[o1.2.symm,o2.2.symm,o3.2.symm,o4.2.symm,o5.2.symm]
  . simp[a1.symm,a2.symm,a3.symm,a4.symm]
 have re:Same (hid (s.st::s.pl::s.ex) H) (hid ([s.st,s.pl,fl,f,r2,r3,n6]++s.ex) H7):=ZL (λb o nb e=>x07 b o (λz=>nb (by rcases jB.mp z with z|z;(rw[z];simp);(rw[jA.mp z];simp))) e) λa ha=>by
  rcases jI.mp ha with ha|ha
  rotate_left
  . exact .inl (jE _ (jE _ ha))
  simp only[jB,jb,kP]at ha ⊢;rcases ha with rfl|rfl|rfl|rfl|rfl|rfl|rfl
  . exact .inl (.inl rfl)
  . exact .inl (.inr (.inl rfl))
  . exact .inr gfl
  . exact .inr q1
  . exact .inr q2
  . exact .inr q3
  . exact .inr q6
 have M0:MkH K H H7 (s.rw fl kv 1 0 li ro) [m0]:=by
  refine⟨x07,λa ha=>?_,by rw[ad];exact nda',p5,v0,?_,?_,λm hm=>?_,by rw[adh];exact bs.nl.same re,by rw[adh];exact bs.lg.same re,by rw[adh];exact bs.pd.same re,bs.exl⟩
  . have ha:a∈fl :: (m0.adr ++ []):=ha;rw[af]at ha;simp only[jB,jR,jb,kP]at ha;rcases ha with rfl | rfl | rfl | rfl | rfl
    . exact gfl
    . exact q1
    . exact q2
    . exact q3
    . exact q6
  . show H7 s.pl=_;rw[k5 _ bs.ne.symm];exact s2 _ _ bs.pl
  . show H7 fl=_;rw[get gfl efl,em0];rfl
  . rw[jA.mp hm,adh,em0];exact⟨get q1 (u _ _ e1),get q2 (u _ _ e2),get q3 (u _ _ e3),get q6 (u _ _ e6),rfl,rfl,rfl,⟨n5,_,rfl,.of (xQ (nin f5 (nfl' e5) i5) (get f5 (u _ _ e5))),QQ _⟩,⟨n7,_,rfl,.of (xQ (nin f7 (nfl' e7) i7) (get f7 (u _ _ e7))),rfl⟩⟩
 have S0:StM pool ps b K0 [] 0 (s.rw fl kv 1 0 li ro) [m0]:=by
  refine⟨nmp,pq,?_,?_,⟨by show 1<=6;decide,λm hm=>by rw[jA.mp hm,em0];show 0<=3;decide,by show 1<=li;omega,lil,jS _,rol⟩⟩
  . rw[em0];exact⟨⟨jS _,ksub,ksub,knd,trivial,trivial,jG _,by show 0<=3;decide,λz=>absurd z (by show ¬(("" : Str) = "if");decide),.inr ⟨rfl,rfl,λx=>⟨.inl,λz=>z.elim id λz=>nomatch z⟩⟩,aB _,aB _⟩,rfl,rfl,rfl,[],rfl⟩
  . rw[em0];exact jG _
 have h0:m0.ra=[]/\m0.els=false:=by rw[em0];exact⟨rfl,rfl⟩
 clear em0 v0 af ad adh nda' re get k5 p5 ekv k4 k3 k2 k1 p1 p2 p3 p4;dsimp only[xF,List.set,L2.J2,jR];refine⟨_,rfl,cl,rfl,⟨_,(hsub x07).seq qc⟩,Xf (K:=K) (xs:=cs.map V.int) (λi σ H'=>∃(kvs:List (Key×V)) (w z:Nat) (m:Fr) (ms:List Fr) (pre:List Wr) (c5:Option V),σ=[some (.ref s.st),some (.ref cl),some (.ref nw),some (.int (li:Nat)),some (.int (ro:Nat)),c5]/\MkH K H H' (s.rw fl kvs w z li ro) (m::ms)/\StM pool ps b K0 pre i (s.rw fl kvs w z li ro) (m::ms)/\(i=0->ms=[]/\m.ra=[]/\m.els=false/\w=1/\z=0)/\(0<i->cs.head?=some 434->∃x os,pre=[.draw x os])) ⟨kv,1,0,m0,[],[],none,rfl,M0,S0,λ_=>⟨rfl,h0.1,h0.2,rfl,rfl⟩,λz=>absurd z (js 0)⟩ (λi σ H' _ h=>?_) ?_ ?_⟩
 . obtain⟨_,_,_,_,_,_,_,_,hm,_⟩:=h;exact(hsub hm.sm).seq qc
 . rintro i x σ H' hx ⟨kvs,w,z,m,ms,pre,c5,rfl,hm,sM,hz,hp⟩;rw[jJ]at hx;obtain⟨c,ec,rfl⟩:=jT.mp hx;have hi:=(jV.mp ec).1;dsimp only[xF,List.set];refine⟨_,rfl,_,rfl,H,pool,ps,b,K0,pre,i,s.rw fl kvs w z li ro,c,m,ms,rfl,hm,sM,by omega,λH' kvs' w' z' m1 ms1 hm1 sM1 dr=>?_⟩
   by_cases i0:i=0
   . by_cases c0:cs.head? = some 434
     . obtain⟨z1,z2,z3,z4,z5⟩:=hz i0
       have cc:c=434:=by
        rw[i0,<- List.head?_eq_getElem?,c0]at ec;exact(Option.some.inj ec).symm
       obtain⟨d1,x',os,d2⟩:=dr ⟨z1,by rw[cc];decide,by show w*4<=li;rw[z4];omega,by show z+1<=ro;rw[z5];omega,z3⟩;rw[z2,j0]at d2;refine⟨kvs',w',z',m1,ms1,[.draw x' os],_,rfl,hm1,?_,λz=>absurd z (Nat.succ_ne_zero i),λ_ _=>⟨x',os,rfl⟩⟩;subst d1;obtain⟨g1,g2,g3,g4,g5⟩:=sM1;obtain⟨g6,g7,g8,g9,_⟩:=g3;exact⟨g1,g2,⟨g6,g7,g8,g9,[],by rw[d2];rfl⟩,g4,g5⟩
     . exact⟨kvs',w',z',m1,ms1,pre,_,rfl,hm1,sM1,λz=>absurd z (Nat.succ_ne_zero i),λ_ z=>absurd z c0⟩
   . exact⟨kvs',w',z',m1,ms1,pre,_,rfl,hm1,sM1,λz=>absurd z (Nat.succ_ne_zero i),λ_=>hp 'd'⟩
 . rintro σ H' ⟨kvs,w,z,m,ms,pre,c5,rfl,hm,sM,hz,hp⟩;rw[jC]at sM hp hz
   have hp':cs.head?=some 434->∃x os,pre=[.draw x os]:=λc0=>hp (by
    cases cs with
    |nil=>cases c0
    |cons _ _=>simp) c0
   dsimp only[xF,List.set];refine eO (λσ H2=>∃(m:Fr) (ms:List Fr) (i:Nat),σ=[some (.ref s.st),some (.ref cl),some (.ref nw),some (.int (li:Nat)),some (.int (ro:Nat)),c5]/\MkH K H H2 (s.rw fl kvs w z li ro) (m::ms)/\StM pool ps b K0 pre i (s.rw fl kvs w z li ro) (m::ms)/\i+ms.length<=200) (λ_ H2=>match H2 fl with|some (.lst xs)=>xs.length|_=>0) ⟨m,ms,_,rfl,hm,sM,by have:=sM.sm.few;rw[jU]at this;omega⟩ ?_ ?_
   . rintro σ H2 ⟨m,ms,i,rfl,hm,sM,il⟩;have eL:H2 fl=some (.lst ((m :: ms).reverse.map λm=>V.ref m.f)):=hm.fl;have ll:((m :: ms).reverse.map λm=>V.ref m.f).length=ms.length + 1:=by rw[jC,List.length_reverse,jU]
     refine⟨_,rfl,s.st,_,rfl,xT hm.st hm.v.frames,_,_,rfl,JZ (.of eL),_,_,rfl,rfl,_,rfl,xU (λh1=>?_) (λh1=>?_)⟩
     . rw[ll]at h1
       cases ms with
       |nil=>simp at h1
       |cons m' ms =>
        refine⟨_,rfl,H,pool,ps,b,K0,pre,i,s.rw fl kvs w z li ro,m,m',ms,rfl,hm,sM,by simp only[jU]at il;omega,λH3 m1 hm1 sM1=>⟨⟨m1,ms,i+1,rfl,hm1,sM1,by simp only[jU]at il;omega⟩,?_⟩⟩;have eL3:H3 fl=some (.lst ((m1::ms).reverse.map λm=>V.ref m.f)):=hm1.fl;rw[eL3,eL];show((m1::ms).reverse.map λm=>V.ref m.f).length<((m::m'::ms).reverse.map λm=>V.ref m.f).length;simp
     . rw[ll]at h1
       cases ms with
       |cons m' ms=>simp only[jU]at h1;omega
       |nil =>
        exact⟨_,rfl,s.st,_,rfl,xT hm.st hm.v.frames,.inl ⟨fl,_,0,.ref m.f,rfl,rfl,.of eL,J0,q H2 fl kvs w z i m pre hm sM hp'⟩⟩
   . rintro σ H2 R R' mo ⟨v,e,a,w',e1,dg,x',n',e2,lv,i',j',e3,e4,k',e5,h⟩;exact⟨v,e,a,w',e1,dg,x',n',e2,lv,i',j',e3,e4,k',e5,mo _ _ h⟩
theorem dG{α β:Type}{P Q:α->β->Prop}:∀{l:List α}{m:List β},Paired P l m->(∀x y,x∈l->P x y->Q x y)->Paired Q l m
 |_,_,.nil,_ => .nil
 |_,_,.cons h t,f => .cons (f _ _ (jH ..) h) (dG t λx y hx=>f x y (jE _ hx))
theorem Bs.same(h:Bs K H s)(x:Same H H'):Bs K H' s:=⟨h.ne,x _ _ h.st,h.v,x _ _ h.pl,h.nl.same (J3 x),h.lg.same (J3 x),h.pd.same (J3 x),λa ha=>by
 obtain⟨o,e⟩:=h.exl a ha;exact⟨o,x _ _ e⟩⟩
def wG(h:∀a∈B,a∈A):Same (hid A H) (hid B H):=λb o e=>by
 unfold hid at e ⊢;split at e
 . cases e
 . rename_i hb;rw[k9 (λz=>hb (h b z))];exact e
def dI(s:Sa)(ms:List Fr):∀a∈s.st::s.pl::s.ex,a∈had s ms:=λa ha=>by
 rcases jB.mp ha with z|z
 . rw[z];exact JJ (by simp[adrs])
 rcases jB.mp z with z|z
 . rw[z];exact JJ (by simp[adrs])
 . exact jM _ z
def PqOk.add{b:Nat}(h:PqOk pool ps b pq){z w:Nat}(few:ps.length<=1)(nd:∀p∈ps,p.nm≠q.nm)(ok:okD pool ps (b+6) q.pa q.rs)(sub:∀n∈q.pa,n∈pool)(e:OkE (q.pa++knR q.rs) q.e)(len:q.pa.length<=4)(ln:lnD 6 q.rs)(cs:csD pool ps (b+6) q.rs<=z)(z20:z<=20)(w4:w<=4):PqOk pool (ps++[q]) (b+6) (pq++[⟨q.nm,q.pa.length,z,w⟩]):=by
 refine⟨h.p6,?_,by rw[jY];show _+1<=2;omega,λp hp=>?_,?_⟩
 . rw[jd,j3]
   exact⟨h.nd,by simp,λa ha c hc z=>by
    obtain⟨p,hp,rfl⟩:=jn.mp ha;simp only[jg,List.map_nil,jA]at hc;exact nd p hp (z.trans hc)⟩
 . rcases jI.mp hp with hp | hp
   . obtain⟨a1,a2,a3,a4⟩:=h.ok p hp;exact⟨d9 _ (Z1 (ju b 6) a1),a2,a3,a4⟩
   . rw[jA.mp hp];exact⟨d9 _ ok,sub,e,len,ln⟩
 . refine Paired.snoc (dG h.pr λp i hp hi=>?_) ⟨rfl,rfl,by rw[df _ ok];exact cs,z20,w4⟩;obtain⟨a1,_⟩:=h.ok p hp;obtain⟨b1,b2,b3,b4⟩:=hi;exact⟨b1,b2,by rw[df _ (Z1 (ju b 6) a1),aA (ju b 6) a1];exact b3,b4⟩
def Sa.add(s:Sa)(fl:xb)(kvs:List (Key×V))(w z li ro:Nat)(x:V)(i:Pi):Sa:={ s with fl:=fl,kvs:=kvs,ways:=w,size:=z,limit:=li,room:=ro,px:=s.px++[x],pq:=s.pq++[i] }
def mE(K:qu):Sp:=λvs H Q _=>∃(pool:qB) (ps:List Pt) (b:Nat) (s:Sa) (cl:xb) (cs:qD) (k:Nat),vs=[.ref s.st,.ref cl,.int (k:Nat)]/\Bs K H s/\SqL K (hid [s.st,s.pl] H) cl (cs.map V.int)/\PqOk pool ps b s.pq/\lR pool/\s.nm=pool/\cs.length<=66/\k=ps.length/\k<=1/\(∀q∈ps,q.nm = "f" \/ q.nm=pool.getD 0 "") /\
 ∀(H':Hp) (s':Sa) (p:xb) (q:Pt),s'.st=s.st->s'.pl=s.pl->s'.nm=s.nm->s'.nl=s.nl->s'.lg=s.lg->s'.l0=s.l0->s'.l1=s.l1->s'.ex=s.ex->Xc [s.st,s.pl] H H'->Bs K H' s'->PqOk pool (ps++[q]) (b+6) s'.pq->IsD K (hid (s.st::s.pl::s.ex) H') (dPt q) (.ref p)->(q.nm = "f" \/ q.nm=pool.getD 0 "" \/ 0<k)->Q (.ref p) H'
def wH(B:Bl mg)(QF:Def P w K mg base "_law_cell_at" 1 ["_law_script", "_law_k"] (cE (K:=K)))(Z4:Def P w K mg base "_law_rows" 7 ["_law_state", "_law_cells", "_law_now", "_law_limit", "_law_room"] (dD K))(JN:Def P w K mg base "_law_expr" 3 ["_law_state", "_law_cell"] (QO K 3))(F:Fn K mg "_law_part" YI ["_law_state", "_law_cells", "_law_k"]):Def P w K mg base "_law_part" 8 ["_law_state", "_law_cells", "_law_k"] (mE K):=by
 refine F.ok XS (λvs H Q E h=>?_) (λf qF A outer s H vs Q E hr h=>?_)
 . obtain⟨pool,ps,b,s,cl,cs,k,rfl,_⟩:=h;rfl
 obtain⟨pool,ps,b,s,cl,cs,k,rfl,bs,qc,pq,nok,nmp,c60,kl,k1,pnm,q⟩:=h
 refine⟨_,(@xu _ _ _ _ _ (xM (i:=3) XS.nd rfl 'b' (xL (xG hr) (pv 0) xt (λ_ _=>rfl)))
  (@xu _ _ _ _ _ (xM (i:=4) XS.nd rfl 'b' (xI QF hr rfl (@xj _ _ _ _ _ (pv 1) (@xj _ _ _ _ _ xi xk rfl) rfl)))
  (@xu _ _ _ _ _ (XF (j:=5) XS.nd rfl rfl (CompOk.of (x := "_law_j") (M:=["_law_names_here", "_law_k"]) (ix:=[3,2]) rfl rfl (by decide +kernel) (by decide +kernel) rfl ⟨rfl,⟨rfl,trivial⟩⟩ 'g' ⟨⟨rfl,rfl,rfl,rfl⟩,⟨⟨rfl,rfl,rfl,rfl⟩,trivial⟩⟩) rfl (by decide +kernel) (Q5 rfl B.range (@xj _ _ _ _ _ (xx xV (pv 4) xi) xk rfl)) (λ_ _ _ _ _=>JP) (λ_ _ _ _ _=>(xD (xE K rfl) (pv 1) (xx xV (xx (J7.or QT) (pv 2) (pv 0)) xi) (λ_ _=>rfl))))
  (@xu _ _ _ _ _ (xM (i:=6) XS.nd rfl 'b' (xI Z4 hr rfl (@xj _ _ _ _ _ (pv 0) (@xj _ _ _ _ _ (XC ((XG K rfl).or (XH K rfl)) (pv 1) (QV xi) Y2) (@xj _ _ _ _ _ (pv 5) (@xj _ _ _ _ _ xi (@xj _ _ _ _ _ xi xk rfl) rfl) rfl) rfl) rfl)))
  (@xu _ _ _ _ _ (@Q0 _ 7 _ _ _ _ _ XS.nd rfl 'b' (@Xg _ _ _ _ _ _ _ _ _ _ _ (xD (xE K rfl) (@gy _ _ _ _ _ _ (xx (J7.or QT) xt (xx bD (xD (xE K rfl) xt (xx xV (pv 2) xi) (λ_ _=>rfl)) (pv 2))) (xD (xE K rfl) (pv 3) (pv 2) (λ_ _=>rfl)) rfl rfl) (xx xV (xx J6 (pv 4) xi) xi) (λ_ _=>rfl)) (pv 5) (xL (xG hr) (pv 6) xt (λ_ _=>rfl)) (xI JN hr rfl (@xj _ _ _ _ _ (pv 0) (@xj _ _ _ _ _ (xx J6 (pv 4) xi) xk rfl) rfl)) rfl rfl rfl rfl) rfl (by first|exact .inl rfl|exact .inr rfl))
  (@xu _ _ _ _ _ (J1 (JD PySem.F.plainAttrs_list PySem.F.slot_list_append PySem.F.type_list_append Jy (xL (xG hr) (pv 0) xt (λ_ _=>rfl)) (@xj _ _ _ _ _ (@Xg _ _ _ _ _ _ _ _ _ _ _ (xD (xE K rfl) (pv 7) xi (λ_ _=>rfl)) (J5 (JF K rfl) rfl B.len PySem.boot_len (@xj _ _ _ _ _ (pv 5) xk rfl)) (xL (xG hr) (pv 0) xt (λ_ _=>rfl)) (xL (xG hr) (pv 0) xt (λ_ _=>rfl)) rfl rfl rfl rfl) xk rfl)))
  (@xw _ _ _ (xP (pv 7))))))))),?_⟩
 have big:(100000:Nat)<sizeLine:=by decide
 have p6:=pq.p6;obtain⟨_,zz,e,qn0,dn⟩:=bs.nl
 cases e
 obtain rfl:=Qv dn;have qnH:∀{HH:Hp},Same H HH->SqL K HH s.nl (pool.map V.str):=λx=>by rw[<- nmp];exact((xJ _ _).trans x).seq qn0
 have qcH:=(xJ _ _).seq qc;refine⟨_,rfl,s.st,_,rfl,xT bs.st bs.v.names,?_⟩;dsimp only[xF,List.set,L2.J2,jR];refine⟨_,rfl,cl,cs,0,rfl,qcH,Int.le_refl _,?_⟩;generalize cell cs 0=c;dsimp only[xF,List.set];obtain⟨n,en,n4⟩:∃n:Nat,c % 5=(n:Int)/\n<=4:=⟨(c % 5).toNat,by omega,by omega⟩;obtain⟨K0,eK⟩:∃K0,K0=(pool.drop k).take n:=⟨_,rfl⟩;have kle:K0.length=n:=by rw[eK,jo,j8];omega
 have ksub:∀x∈K0,x∈pool:=λx hx=>by rw[eK]at hx;exact List.mem_of_mem_drop (List.mem_of_mem_take hx)
 have knd:K0.Nodup:=by rw[eK];exact(nok.2.1.sublist (List.drop_sublist k pool)).sublist (List.take_sublist n _)
 refine Zl ⟨_,rfl,_,_,rfl,rfl,(by show(0:Int)<5;decide),_,rfl,by omega,by omega,?_⟩;rw[en,ja];refine QY (λ(_:Hp) (x:Str) v=>v=V.str x) (λ_ h=>h) n (λi => .int (0+(i:Nat))) K0 kle 'd' (λ_ _=>jG _) (λi H' hi sm=>⟨hi,λx qH hy=>⟨hy.2,hy.1⟩⟩) (λi x Da H' R hi ei s' nD oD hR=>?_) (λpp H1 ys s1 npp epp prp=>?_)
 . have ex:pool[k + i]? = some x:=by
    rw[eK,List.getElem?_take_of_lt hi,List.getElem?_drop]at ei;exact ei
   have at_:atI (pool.map V.str) ((k+(0+(i:Nat))) % 6:Int)=some (.str x):=by
    rw[show((k:Int)+(0+(i:Nat))) % 6=((k+i:Nat):Int) by omega];exact Jx (by rw[jJ,ex];rfl)
   exact⟨_,rfl,_,rfl,_,rfl,.inl ⟨_,_,rfl,rfl,_,_,rfl,rfl,(by show(0:Int)<6;decide),.inl ⟨s.nl,_,_,.str x,rfl,rfl,qnH s',at_,hR _ _ (Same.refl _) rfl⟩⟩⟩
 obtain rfl:=ZH prp;have bs1:=bs.same s1
 have old:∀{a:xb},H a=none->a∉[s.st,s.pl]:=λn z=>by
  rcases jB.mp z with z|z
  . rw[z,bs.st]at n;cases n
  . rw[jA.mp z,bs.pl]at n;cases n
 dsimp only[xF,List.set];refine⟨_,rfl,_,rfl,_,rfl,.inl ⟨cl,_,rfl,s1.seq qcH,λc1 nc1=>?_⟩⟩;rw[show Jw (cs.map V.int) (some 1) none=(cs.drop 1).map V.int by rw[List.map_drop];exact bz _ 1];have u1:=xy nc1 (.lst ((cs.drop 1).map V.int));have e1:upd H1 c1 (.lst ((cs.drop 1).map V.int)) c1=some (.lst ((cs.drop 1).map V.int)):=xm;generalize upd H1 c1 (.lst ((cs.drop 1).map V.int))=H2 at u1 e1 ⊢;have npp':=old npp;have nc1':=old (s1.free nc1);refine⟨_,rfl,pool,ps,b,K0,s,c1,pp,cs.drop 1,4,20,rfl,bs1.same u1,.of (xQ nc1' e1),.of (xQ npp' (u1 _ _ epp)),pq,nmp,ksub,knd,by rw[j8];omega,by decide,by decide,by decide,by decide,λH3 fl kvs w z i m pre hm sM _=>?_⟩;have t:=hm.fr m (jH ..);obtain⟨fM,mkd,mel,ml5,_⟩:=sM.ch;have l6:=fM.l6 p6;have s12:=s1.trans u1
 have nmS:∀{HH:Hp},Same H3 HH->SqL K HH s.nl (pool.map V.str):=λx=>by
  obtain⟨_,zz,e,qn3,dn3⟩:=hm.nl
  cases e
  have:=Qv dn3;rw[this]at qn3;have:=((xJ _ _).trans x).seq qn3;rw[show(s.rw fl kvs w z 4 20).nm=pool from nmp]at this;exact this
 have epp3:H3 pp=some (.lst (K0.map V.str)):=hm.sm _ _ npp' (u1 _ _ epp)
 obtain⟨ch,ech,enA⟩:∃ch,atI ("zo" : Str).cps.toList ((k:Int) % 2)=some ch/\(("f" : Str)++Txt.mul ⟨#[ch]⟩ (k:Int))=(if k=0 then "f" else "fo"):=by
  have hk:k=0\/k=1:=by omega
  rcases hk with e|e
  . rw[e];exact⟨122,rfl,by decide +kernel⟩
  . rw[e];exact⟨111,rfl,by decide +kernel⟩
 have hkp:k<pool.length:=by omega
 have atk:atI (pool.map V.str) (k:Int)=some (.str pool[k]):=Jx (by rw[jJ,jD hkp];rfl)
 obtain⟨nm',atn,hnm⟩:∃nm',atI [V.str (("f" : Str)++Txt.mul ⟨#[ch]⟩ (k:Int)),.str pool[k]] (c / 25 % 2)=some (.str nm')/\(nm'=(if k=0 then "f" else "fo")\/nm'=pool[k]):=by
  have h:c / 25 % 2=0\/c / 25 % 2=1:=by omega
  rcases h with h|h
  . rw[h];exact⟨_,J0,.inl enA⟩
  . rw[h];exact⟨_,J9,.inr rfl⟩
 have mlen:(Txt.mul (⟨#[ch]⟩:Str) (k:Int)).length<=1000:=bC _ _ (by show(1:Nat)<=10;decide) 'd';dsimp only[xF,List.set];refine⟨_,rfl,_,_,rfl,rfl,(by show(0:Int)<2;decide),.inr (.inr ⟨_,_,ch,rfl,rfl,by decide,ech,_,rfl,_,_,rfl,rfl,(by show(1:Nat)<=10;decide),by omega,by omega,.inr ⟨_,_,rfl,rfl,(by show 1+_<=sizeLine;omega),_,rfl,_,rfl,.inl ⟨s.nl,_,_,.str pool[k],rfl,rfl,nmS (Same.refl _),atk,by show 2<=sizeLine;decide,λp8 n8=>?_⟩⟩⟩)⟩;have u8:=xy n8 (.lst [V.str (("f" : Str)++Txt.mul ⟨#[ch]⟩ (k:Int)),.str pool[k]]);refine⟨_,rfl,_,_,rfl,rfl,⟨by decide,by decide⟩,_,_,rfl,rfl,(by show(0:Int)<2;decide),.inl ⟨p8,_,_,.str nm',rfl,rfl,.of xm,atn,?_⟩⟩;generalize upd H3 p8 (.lst [V.str (("f" : Str)++Txt.mul ⟨#[ch]⟩ (k:Int)),.str pool[k]])=H4 at u8 ⊢;have h4:=hm.same u8;have t4:=h4.fr m (jH ..);refine⟨_,rfl,_,rfl,m.f,_,rfl,xT t4.f rfl,_,rfl,_,rfl,_,_,rfl,rfl,⟨by decide,by decide⟩,s.st,_,m.l6,rfl,h4.rd 'd',λpe e H5 s5 a5 o5=>⟨by show 4<=sizeLine;decide,λpt qM=>?_⟩⟩;have u5:=xy qM (.tup [.str nm',.ref pp,.ref m.r2,.ref pe]);have ept:upd H5 pt (.tup [.str nm',.ref pp,.ref m.r2,.ref pe]) pt=some (.tup [.str nm',.ref pp,.ref m.r2,.ref pe]):=xm;generalize upd H5 pt (.tup [.str nm',.ref pp,.ref m.r2,.ref pe])=H6 at u5 ept ⊢;have s46:=s5.trans u5;have h6:=h4.same s46;have s36:=u8.trans s46;dsimp only[xF,List.set];have st6:H6 s.st=some (.dK kvs):=h6.st;have pl6:H6 s.pl=some (.lst s.px):=h6.pl;have dgz:DGet H6 s.st (.str "size") (some (.int (z:Nat))):=xT st6 h6.v.size;have dgw:DGet H6 s.st (.str "ways") (some (.int (w:Nat))):=xT st6 h6.v.ways;refine⟨_,rfl,s.st,_,rfl,xT h6.st h6.v.parts,.inl ⟨rfl,_,.of h6.pl⟩,_,rfl,.inr (.inl ⟨pt,_,0,.str nm',rfl,rfl,.of ept,J0,_,rfl,_,_,rfl,JZ (.of (s36 _ _ epp3)),_,rfl,s.st,_,rfl,dgz,_,rfl,s.st,_,rfl,dgw,by show 4<=sizeLine;decide,λtq ntq=>?_⟩)⟩;have u6:=xy ntq (.tup [.str nm',.int ((K0.map V.str).length:Nat),.int (z:Nat),.int (w:Nat)]);have etq:upd H6 tq (.tup [.str nm',.int ((K0.map V.str).length:Nat),.int (z:Nat),.int (w:Nat)]) tq=some (.tup [.str nm',.int ((K0.map V.str).length:Nat),.int (z:Nat),.int (w:Nat)]):=xm;generalize upd H6 tq (.tup [.str nm',.int ((K0.map V.str).length:Nat),.int (z:Nat),.int (w:Nat)])=H7 at u6 etq ⊢;have h7:=h6.same u6;have s37:=s36.trans u6;have pxl:=h7.pd.length;rw[jC]at pxl;have pqf:s.pq.length=ps.length:=(pq.pr.length).symm
 have pxl':s.px.length<=2:=by
  have e1:(s.rw fl kvs w z 4 20).px=s.px:=rfl;have e2:(s.rw fl kvs w z 4 20).pq=s.pq:=rfl;rw[e1,e2]at pxl;omega
 refine⟨s.pl,s.px,.ref tq,rfl,rfl,h7.pl,by omega,_,rfl,?_⟩;have tq2:tq∉s.st::s.pl::s.ex:=λhz=>by obtain⟨o,e⟩:=h6.exh _ (dI (s.rw fl kvs w z 4 20) [m] _ hz);rw[e]at ntq;cases ntq
 have pt2:pt∉s.st::s.pl::s.ex:=λhz=>by obtain⟨o,e⟩:=(h4.same s5).exh _ (dI (s.rw fl kvs w z 4 20) [m] _ hz);rw[e]at qM;cases qM
 have sub2:Same (hid (had (s.rw fl kvs w z 4 20) [m]) H7) (hid (s.st::s.pl::s.ex) H7):=wG (dI (s.rw fl kvs w z 4 20) [m]);have eh:hid (s.st::s.pl::s.ex) (upd H7 s.pl (.lst (s.px++[.ref tq])))=hid (s.st::s.pl::s.ex) H7:=Qz 'j';obtain⟨a1,a2,a3,a4,a5',a6⟩:=JU h7.nd
 have mr2:m.r2∉s.st::s.pl::s.ex:=λhz=>by
  have mi:m.r2∈m.adr:=by simp[Fr.adr]
  rcases jB.mp hz with hz|hz
  . rw[hz]at mi;exact a2 mi
  rcases jB.mp hz with hz|hz
  . rw[hz]at mi;exact a3 mi
  . exact h7.nex (aE mi (jH ..)) hz
 have npp2:pp∉s.st::s.pl::s.ex:=λhz=>by
  rcases jB.mp hz with hz|hz
  . exact npp' (by rw[hz];simp)
  rcases jB.mp hz with hz|hz
  . exact npp' (by rw[hz];simp)
  . obtain⟨o,e⟩:=bs.exl _ hz;rw[e]at npp;cases npp
 have t7:=h7.fr m (jH ..)
 have cz:csD pool ps (b+6) m.ra<=z:=by
  have:=sM.w;unfold wei wei own turns at this;rw[k9 (by rw[mkd];decide),k9 (by rw[mkd];decide)]at this;have:1*csD pool ps (b+(5 - 0)+1) m.ra+0<=z:=this;rw[show b+(5 - 0)+1=b+6 from rfl]at this;omega
 have okE:OkE (K0++knR m.ra) e:=by
  have kn:=fM.kn;rw[ml5]at kn;unfold Fr.cur at kn;rw[k9 (by rw[mel];decide)]at kn;exact⟨o5.1,jk o5.2.1 'f',λn hn=>(kn n).mp (o5.2.2 n hn)⟩
 have ndn:∀p∈ps,p.nm≠nm':=λp hp e=>by
  have kk:k=1:=by have:=List.length_pos_of_mem hp;omega
  have h0:0<pool.length:=by omega
  have g0:pool.getD 0 "" = pool[0]:=by rw[jN,jD h0];rfl
  have hp':=pnm p hp;rw[e,g0]at hp';subst kk;have m0:=nok.2.2 _ (jp h0);have m1:=nok.2.2 _ (jp hkp);rcases hnm with e'|e'
  . rw[e',k9 'f']at hp';rcases hp' with z | z
    . exact absurd z 'f'
    . exact m0.2 z.symm
  . rw[e']at hp';rcases hp' with z | z
    . exact m1.1 z
    . exact(List.pairwise_iff_getElem.mp (List.nodup_iff_pairwise_ne.mp nok.2.1)) 0 1 h0 hkp 'f' z.symm
 have pq':=pq.add (q:=⟨nm',K0,m.ra,e⟩) (z:=z) (w:=w) 'd' ndn (by have:=fM.o2;rw[ml5]at this;exact this) ksub okE (by rw[kle];exact n4) fM.g2 cz (by have:=sM.sm.size;exact this) (by have:=sM.sm.ways;exact this);refine q _ (s.add fl kvs w z 4 20 (.ref tq) ⟨nm',K0.length,z,w⟩) pt ⟨nm',K0,m.ra,e⟩ rfl rfl rfl rfl rfl rfl rfl rfl ?_ ?_ pq' ?_ ?_
 . refine λb' o nb e=>?_;rw[xz (λz:b'=s.pl=>nb (by rw[z];simp))];exact s37 _ _ (hm.sm _ _ nb (s12 _ _ e))
 . refine⟨bs.ne,?_,⟨h7.v.ko,h7.v.names,h7.v.large,h7.v.parts,h7.v.great⟩,xm,?_,?_,?_,λa ha=>?_⟩
   . show upd H7 s.pl _ s.st=_;rw[xz bs.ne];exact h7.st
   . show IsD K (hid (s.st::s.pl::s.ex) _) _ _;rw[eh];exact h7.nl.same sub2
   . show IsD K (hid (s.st::s.pl::s.ex) _) _ _;rw[eh];exact h7.lg.same sub2
   . show IsDs K (hid (s.st::s.pl::s.ex) _) ((s.pq++[_]).map dPi) (s.px++[_]);rw[eh,jd];exact(h7.pd.same sub2).append ⟨.ref tq,[],rfl,⟨tq,_,rfl,.of (xQ tq2 etq),_,_,rfl,rfl,_,_,rfl,by rw[jC];rfl,_,_,rfl,rfl,_,_,rfl,rfl,rfl⟩,rfl⟩
   . obtain⟨o,e⟩:=h7.exh a (jM _ ha)
     by_cases c:a=s.pl
     . rw[c];exact⟨_,xm⟩
     . exact⟨o,by rw[xz c];exact e⟩
 . show IsD K (hid (s.st::s.pl::s.ex) _) _ _;rw[eh];have d5:IsD K (hid (had (s.rw fl kvs w z 4 20) [m]) H7) (dE e) (.ref pe):=(a5 _ h4.exh).same (J3 (u5.trans u6));exact⟨pt,_,rfl,.of (xQ pt2 (u6 _ _ ept)),_,_,rfl,rfl,_,_,rfl,⟨pp,_,rfl,.of (xQ npp2 (s37 _ _ epp3)),QQ _⟩,_,_,rfl,⟨m.r2,m.x2,rfl,.of (xQ mr2 t7.r2),t7.d2.same sub2⟩,_,_,rfl,d5.same sub2,rfl⟩
 . show nm' = "f" \/ nm'=pool.getD 0 "" \/ 0 < k
   by_cases kk:0<k
   . exact .inr (.inr kk)
   . have k0:k=0:=by omega
     subst k0;rcases hnm with e'|e'
     . rw[ke rfl]at e';exact .inl e'
     . exact .inr (.inl (by rw[e',jN,jD hkp];rfl))
def mF(K:qu):Sp:=λvs H Q _=>∃(a:xb) (ns:qD),vs=[.ref a,.int 4096,.int 150]/\SqL K H a (ns.map V.int) /\
 ∀(H':Hp) (p:xb) (pool:qB) (ps:List Pt) (pq:List Pi) (rs:List Wr) (as:qB),Same H H'->IsD K H' (dPr ps rs as) (.ref p)->PqOk pool ps 12 pq->okD pool ps 18 [] rs->lnD 6 rs->csD pool ps 18 rs<=150->(∀n∈as,n∈knR rs)->as.length<=3->Q (.ref p) H'
def ko0:KeyOk [(.inr "names",a),(.inr "large",b),(.inr "great",c),(.inr "parts",d)]:=by
 refine⟨?_,λk hk=>?_⟩
 . show [(Sum.inr "names" : Key),.inr "large",.inr "great",.inr "parts"].Nodup;decide
 . have hk:k∈[(Sum.inr "names" : Key),.inr "large",.inr "great",.inr "parts"]:=hk;simp only[stK,jB,jb,kP]at hk ⊢;rcases hk with rfl|rfl|rfl|rfl<;>simp
def wI(ns:qD):∃cs:qD,Jw (ns.map V.int) (some 3) (some 66)=cs.map V.int/\cs.length<=63:=by
 unfold Jw;have e:HT.sIx (ns.map V.int).length 0 (some 3)=min 3 (ns.map V.int).length:=HT.sIx_nat _ _ 3;have e2:HT.sIx (ns.map V.int).length (ns.map V.int).length (some 66)=min 66 (ns.map V.int).length:=HT.sIx_nat _ _ 66;rw[e,e2];refine⟨(ns.drop _).take _,by rw[List.map_take,List.map_drop],?_⟩;rw[jo,j8,jC];omega
def bx(ns:qD)(lo hi:Option Int):∃cs:qD,Jw (ns.map V.int) lo hi=cs.map V.int/\cs.length<=ns.length:=by
 unfold Jw;refine⟨(ns.drop _).take _,by rw[List.map_take,List.map_drop],?_⟩;rw[jo,j8];omega
def wJ(B:Bl mg)(QF:Def P w K mg base "_law_cell_at" 1 ["_law_script", "_law_k"] (cE (K:=K)))(dJ:Def P w K mg base "_law_names" 1 ["_law_cell"] lU)(Z4:Def P w K mg base "_law_rows" 7 ["_law_state", "_law_cells", "_law_now", "_law_limit", "_law_room"] (dD K))(dL:Def P w K mg base "_law_part" 8 ["_law_state", "_law_cells", "_law_k"] (mE K))(F:Fn K mg "_law_program" YJ ["_law_script", "_law_limit", "_law_room"]):Def P w K mg base "_law_program" 9 ["_law_script", "_law_limit", "_law_room"] (mF K):=by
 refine F.ok Ql (λvs H Q E h=>?_) (λf qF A outer s H vs Q E hr h=>?_)
 . obtain⟨a,ns,rfl,_⟩:=h;rfl
 obtain⟨a,ns,rfl,hS,q⟩:=h
 refine⟨_,(@xu _ _ _ _ _ (xM (i:=3) Ql.nd rfl 'b' (xI QF hr rfl (@xj _ _ _ _ _ (pv 0) (@xj _ _ _ _ _ xi xk rfl) rfl)))
  (@xu _ _ _ _ _ (@Q0 _ 4 _ _ _ _ _ Ql.nd rfl 'b' (@gy _ _ _ _ _ _ (xx (J7.or XO) (xx ZY xi xi) (xx xV (xI QF hr rfl (@xj _ _ _ _ _ (pv 0) (@xj _ _ _ _ _ xi xk rfl) rfl)) (xx ZY xi xi))) (xx xV (xI QF hr rfl (@xj _ _ _ _ _ (pv 0) (@xj _ _ _ _ _ xi xk rfl) rfl)) (xx ZY xi xi)) rfl rfl) rfl (by first|exact .inl rfl|exact .inr rfl))
  (@xu _ _ _ _ _ (@Q0 _ 5 _ _ _ _ _ Ql.nd rfl 'b' (@sx _ _ _ _ _ _ _ _ _ _ _ _ _ _ _ _ _ _ xt (xI dJ hr rfl (@xj _ _ _ _ _ (xx J6 (pv 3) xi) xk rfl)) xt (pv 4) xt xi xt (@QK _ _)) rfl (by first|exact .inl rfl|exact .inr rfl))
  (@xu _ _ _ _ _ (xO (xK Ji (xx xV (xI QF hr rfl (@xj _ _ _ _ _ (pv 0) (@xj _ _ _ _ _ xi xk rfl) rfl)) xi) xi (xN _)) (@xw _ _ _ (Je (xG hr) (pv 5) xt xi rfl)) xX)
  (@xu _ _ _ _ _ (xM (i:=6) Ql.nd rfl 'b' (xx xV (pv 3) xi))
  (@xu _ _ _ _ _ (xM (i:=7) Ql.nd rfl 'b' (XC ((XG K rfl).or (XH K rfl)) (pv 0) (QV xi) (QV xi)))
  (@xu _ _ _ _ _ (XF (j:=8) Ql.nd rfl rfl (CompOk.of (x := "_law_k") (M:=["_law_state", "_law_cells"]) (ix:=[5,7]) rfl rfl (by decide +kernel) (by decide +kernel) rfl ⟨rfl,⟨rfl,trivial⟩⟩ 'g' ⟨⟨rfl,rfl,rfl,rfl⟩,⟨⟨rfl,rfl,rfl,rfl⟩,trivial⟩⟩) rfl (by decide +kernel) (Q5 rfl B.range (@xj _ _ _ _ _ (pv 6) xk rfl)) (λ_ _ _ _ _=>JP) (λ_ _ _ _ _=>(xI dL hr rfl (@xj _ _ _ _ _ (pv 1) (@xj _ _ _ _ _ (XC ((XG K rfl).or (XH K rfl)) (pv 2) (QV (xx JE xi (pv 0))) (QV (xx (J7.or XO) (xx JE xi (pv 0)) xi))) (@xj _ _ _ _ _ (pv 0) xk rfl) rfl) rfl))))
  (@xu _ _ _ _ _ (xM (i:=9) Ql.nd rfl 'b' (xI Z4 hr rfl (@xj _ _ _ _ _ (pv 5) (@xj _ _ _ _ _ (xx (J7.or XO) (@gw _ _ _ _ (xx (J7.or XO) (xx JE (xx JE xi xi) xi) xi) rfl) (XC ((XG K rfl).or (XH K rfl)) (pv 7) (QV (xx JE xi (pv 6))) Y2)) (@xj _ _ _ _ _ (@QK _ _) (@xj _ _ _ _ _ (pv 1) (@xj _ _ _ _ _ (pv 2) xk rfl) rfl) rfl) rfl) rfl)))
  (@xu _ _ _ _ _ (@Q0 _ 10 _ _ _ _ _ Ql.nd rfl 'b' (@QK _ _) rfl (by first|exact .inl rfl|exact .inr rfl))
  (@xu _ _ _ _ _ (Q6 PassesOwn.never rfl (Q5 rfl B.range (@xj _ _ _ _ _ (xx (J7.or XO) xi (xx xV (xI QF hr rfl (@xj _ _ _ _ _ (pv 0) (@xj _ _ _ _ _ xi xk rfl) rfl)) xi)) xk rfl)) (Ju (i:=11) Ql.nd rfl 'b') (@xu _ _ _ _ _ (xM (i:=12) Ql.nd rfl 'b' (xD (xE K rfl) (xL (xG hr) (pv 9) xt (λ_ _=>rfl)) (xx xV (xx (J7.or XO) (xx J6 (pv 3) xi) (pv 11)) (J5 (JF K rfl) rfl B.len PySem.boot_len (@xj _ _ _ _ _ (xL (xG hr) (pv 9) xt (λ_ _=>rfl)) xk rfl))) (λ_ _=>rfl)))
  (@xw _ _ _ (xO (xK (gq K rfl) (pv 12) (pv 10) 'g') (@xw _ _ _ (J1 (JD PySem.F.plainAttrs_list PySem.F.slot_list_append PySem.F.type_list_append Jy (pv 10) (@xj _ _ _ _ _ (pv 12) xk rfl)))) xX))))
  (@xw _ _ _ (xP (@Jq _ _ _ _ _ _ _ _ _ (pv 8) (xL (xG hr) (pv 9) xt (λ_ _=>rfl)) (pv 10) rfl rfl rfl))))))))))))),?_⟩
 have big:(100000:Nat)<sizeLine:=by decide
 refine⟨_,rfl,a,ns,0,rfl,hS,Int.le_refl _,?_⟩;generalize cell ns 0=c;dsimp only[xF,List.set,L2.J2,jR];refine⟨_,_,rfl,rfl,⟨by decide,by decide,by decide⟩,_,rfl,a,ns,1,rfl,hS,by decide,_,_,rfl,rfl,⟨by decide,by decide,by decide⟩,_,_,rfl,rfl,(by show(0:Int)<10 ^ 59;decide),.inl ⟨_,_,rfl,rfl,_,rfl,a,ns,2,rfl,hS,by decide,_,_,rfl,rfl,⟨by decide,by decide,by decide⟩,_,_,rfl,rfl,(by show(0:Int)<10 ^ 60;decide),by show 2<=sizeLine;decide,λlg nlg=>?_⟩⟩;generalize eH1:upd H lg _=H1;have s1:Same H H1:=by rw[<- eH1];exact xy nlg _
 obtain⟨l0,l1,elg⟩:∃l0 l1:Int,H1 lg=some (.lst [.int l0,.int l1]):=⟨_,_,by rw[<- eH1];exact xm⟩;clear eH1;dsimp only[xF,List.set];refine λst nst=>?_;have u2:=xy nst (.dK []);have est:upd H1 st (.dK []) st=some (.dK []):=xm;generalize upd H1 st (.dK [])=H2 at u2 est ⊢;refine⟨_,rfl,_,_,rfl,rfl,⟨by decide,by decide⟩,c / 3,rfl,λnl nm H3 s3 nnl enl nok=>⟨_,rfl,jS _,λpl npl=>?_⟩⟩;have u4:=xy npl (.lst []);have epl:upd H3 pl (.lst []) pl=some (.lst []):=xm;generalize upd H3 pl (.lst [])=H4 at u4 epl ⊢;refine⟨(s3.trans u4) _ _ est,[(.inr "names",.ref nl),(.inr "large",.ref lg),(.inr "great",.int 0),(.inr "parts",.ref pl)],rfl,by show 4<=15;decide,?_⟩;obtain⟨kv0,ekv⟩:∃kv0:List (Key×V),kv0=[(.inr "names",.ref nl),(.inr "large",.ref lg),(.inr "great",.int 0),(.inr "parts",.ref pl)]:=⟨_,rfl⟩;rw[show Qi [] [(Sum.inr "names",V.ref nl),(.inr "large",.ref lg),(.inr "great",.int 0),(.inr "parts",.ref pl)]=kv0 from ekv.symm];have n1:pl≠st:=λz=>by rw[z,s3 _ _ est]at npl;cases npl
 have n2:nl≠st:=λz=>by rw[z,est]at nnl;cases nnl
 have n3:lg≠st:=λz=>by rw[z,nst]at elg;cases elg
 have n4:nl≠pl:=λz=>by rw[<- z,enl]at npl;cases npl
 have n5:lg≠pl:=λz=>by rw[<- z,s3 _ _ (u2 _ _ elg)]at npl;cases npl
 have k5:∀b,b≠st->upd H4 st (.dK kv0) b=H4 b:=λb hb=>xz hb;have e5:upd H4 st (.dK kv0) st=some (.dK kv0):=xm;generalize upd H4 st (.dK kv0)=H5 at k5 e5 ⊢;dsimp only[xF,List.set]
 -- more weight at times
 refine cV (λσ H'=>∃kvs:List (Key×V),σ=[some (.ref a),some (.int 4096),some (.int 150),some (.int c),some (.ref lg),some (.ref st),none,none,none,none,none,none,none]/\H' st=some (.dK kvs)/\KeyOk kvs/\valV kvs (.inr "names")=some (.ref nl)/\valV kvs (.inr "large")=some (.ref lg)/\valV kvs (.inr "parts")=some (.ref pl)/\(∃g:Int,valV kvs (.inr "great")=some (.int g))/\∀b o,b≠st->H4 b=some o->H' b=some o) (λQ' hQ=>?_) ?_ (λH6 R s6 hR=>?_) (λH6 R s6 hR=>?_)
 rotate_left 2
 . have ko:KeyOk kv0:=by rw[ekv];exact ko0
   refine⟨_,rfl,st,_,rfl,DPut.k (k := .inr "great") (s6 _ _ e5) (by rw[ekv];show 4<sizeLine;decide),hR _ _ ⟨_,rfl,xm,ko.put (by simp[stK]),by rw[xR 'f',ekv];rfl,by rw[xR 'f',ekv];rfl,by rw[xR 'f',ekv];rfl,⟨2,QP⟩,λb o hb e=>by rw[xz hb];exact s6 _ _ (by rw[k5 b hb];exact e)⟩⟩
 . have ko:KeyOk kv0:=by rw[ekv];exact ko0
   exact hR _ _ ⟨kv0,rfl,s6 _ _ e5,ko,by rw[ekv];rfl,by rw[ekv];rfl,by rw[ekv];rfl,⟨0,by rw[ekv];rfl⟩,λb o hb e=>s6 _ _ (by rw[k5 b hb];exact e)⟩
 . have hS5:SqL K H5 a (ns.map V.int):=Same.seq (λb o e=>by
    rw[k5 b (λz=>by rw[z,s1.free nst]at e;cases e)];exact u4 _ _ (s3 _ _ (u2 _ _ (s1 _ _ e)))) hS
   exact⟨_,rfl,a,ns,1,rfl,hS5,by decide,_,_,rfl,rfl,(by show(0:Int)<8;decide),_,_,rfl,rfl,_,rfl,hQ _ _ (Same.refl _)⟩
 rintro σ H6 ⟨kvs,rfl,e6,ko,v1,v2,v3,v4,k6⟩;clear e5 k5 ekv;have s04:Same H H4:=s1.trans (u2.trans (s3.trans u4));have nstH:=s1.free nst;have s06:Same H H6:=λb o e=>k6 b o (λz=>by rw[z,nstH]at e;cases e) (s04 _ _ e);have e6pl:=k6 _ _ n1 epl;have e6nl:=k6 _ _ n2 (u4 _ _ enl);have e6lg:=k6 _ _ n3 (u4 _ _ (s3 _ _ (u2 _ _ elg)));have nplH:H pl=none:=(s1.trans (u2.trans s3)).free npl;obtain⟨mny,emn,mn2⟩:∃mny:Nat,c % 3=(mny:Int)/\mny<=2:=⟨(c % 3).toNat,by omega,by omega⟩;refine⟨_,rfl,_,_,rfl,rfl,(by show(0:Int)<3;decide),?_⟩;dsimp only[xF,List.set];rw[emn];refine⟨_,rfl,_,rfl,_,rfl,.inl ⟨a,_,rfl,s06.seq hS,λca nca=>?_⟩⟩;obtain⟨cs,ecs,csl⟩:=wI ns;rw[ecs];have u7:=xy nca (.lst (cs.map V.int));have eca:upd H6 ca (.lst (cs.map V.int)) ca=some (.lst (cs.map V.int)):=xm;generalize upd H6 ca (.lst (cs.map V.int))=H7 at u7 eca ⊢;have e7st:=u7 _ _ e6;have e7pl:=u7 _ _ e6pl;have e7nl:=u7 _ _ e6nl;have e7lg:=u7 _ _ e6lg;have s07:=s06.trans u7;have cst:ca≠st:=λz=>by rw[z,e6]at nca;cases nca
 have cpl:ca≠pl:=λz=>by rw[z,e6pl]at nca;cases nca
 dsimp only[xF,List.set];refine Zl ?_;refine⟨_,rfl,_,rfl,by omega,by omega,?_⟩;rw[ja];refine lF mny (λi => .int (0+(i:Nat))) 'd' (λi Da ys H'=>H7 Da=none/\H' Da=some (.lst ys)/\Xc [st,pl,Da] H7 H'/\∃(s:Sa) (ps:List Pt),s.st=st/\s.pl=pl/\s.nm=nm/\s.ex=[Da]/\Bs K H' s/\ps.length=i/\PqOk nm ps (6*i) s.pq/\(i<=1->∀q∈ps,q.nm = "f" \/ q.nm=nm.getD 0 "")/\IsDs K (hid [st,pl,Da] H') (ps.map dPt) ys) (λDa nD=>?_) (λi Da ys H' h=>?_) (λDa ys H' h=>jG _) (λi Da ys H' hi h=>⟨hi,λx qH hy=>⟨hy.2,hy.1⟩⟩) (λi Da ys H' R hi h hR=>?_) (λDa ys H8 h=>?_)
 . have d1:Da≠st:=λz=>by rw[z,e7st]at nD;cases nD
   have d2:Da≠pl:=λz=>by rw[z,e7pl]at nD;cases nD
   have d3:Da≠nl:=λz=>by rw[z,e7nl]at nD;cases nD
   have d4:Da≠lg:=λz=>by rw[z,e7lg]at nD;cases nD
   have u:=xy nD (.lst []);refine⟨nD,xm,.of u,⟨st,pl,st,nl,lg,kvs,nm,l0,l1,[],[],0,0,0,0,[Da]⟩,[],rfl,rfl,rfl,rfl,⟨n1.symm,u _ _ e7st,⟨ko,v1,v2,v3,v4⟩,u _ _ e7pl,⟨nl,_,rfl,.of (xQ (by simp[n2,n4,d3.symm]) (u _ _ e7nl)),QQ _⟩,⟨lg,_,rfl,.of (xQ (by simp[n3,n5,d4.symm]) (u _ _ e7lg)),_,_,rfl,rfl,_,_,rfl,rfl,rfl⟩,rfl,λz hz=>by rw[jA.mp hz];exact⟨_,xm⟩⟩,rfl,⟨nok.1,j4,by decide,λq hq=>(nomatch hq),.nil⟩,λ_ q hq=>(nomatch hq),rfl⟩
 . obtain⟨_,_,_,s,ps,_,_,_,_,_,pl',_,_,ds⟩:=h;have:=ds.length;rw[jC]at this;omega
 . obtain⟨nD,eD,x7,s,ps,hst,qW,hnm,hex,bs,psl,pq,pn,ds⟩:=h
   have dst:Da∉[st,pl]:=λz=>by
    rcases jB.mp z with z|z
    . rw[z,e7st]at nD;cases nD
    . rw[jA.mp z,e7pl]at nD;cases nD
   have hca:H' ca=some (.lst (cs.map V.int)):=x7 _ _ (λz=>by
    rcases jB.mp z with z|z
    . exact cst z
    rcases jB.mp z with z|z
    . exact cpl z
    . rw[<- jA.mp z,eca]at nD;cases nD) eca
   have ok5:IntMulOk 5 (0+(i:Nat)):=QW (m:=3) (n:=10) 'f' 'd' 'f';refine⟨_,rfl,_,rfl,_,rfl,_,_,rfl,rfl,ok5,_,rfl,_,rfl,_,_,rfl,rfl,ok5,.inl ⟨_,_,rfl,rfl,_,rfl,.inl ⟨ca,_,rfl,.of hca,λcb ncb=>?_⟩⟩⟩;obtain⟨cs',ecs',csl'⟩:=bx cs (some (5*(0+(i:Nat)))) (some (5*(0+(i:Nat))+5));rw[ecs'];have u:=xy ncb (.lst (cs'.map V.int));have ecb:upd H' cb (.lst (cs'.map V.int)) cb=some (.lst (cs'.map V.int)):=xm;generalize upd H' cb (.lst (cs'.map V.int))=H9 at u ecb ⊢
   have ncb':cb∉[s.st,s.pl]:=λz=>by
    rcases jB.mp z with z|z
    . rw[z,bs.st]at ncb;cases ncb
    . rw[jA.mp z,bs.pl]at ncb;cases ncb
   refine⟨_,rfl,nm,ps,6*i,s,cb,cs',i,by rw[hst,Int.zero_add];rfl,bs.same u,.of (xQ ncb' ecb),pq,nok,hnm,by omega,psl.symm,by omega,pn 'd',λH3' s' p q' hst' hpl' hnm' _ _ _ _ hex' x' bs' pq' dq nmc=>?_⟩;have eD':H3' Da=some (.lst ys):=x' _ _ (by rw[hst,qW];exact dst) (u _ _ eD);have eh:∀v,hid [st,pl,Da] (upd H3' Da (.lst v))=hid [st,pl,Da] H3':=λv=>Qz 'j';have hs':s'.st::s'.pl::s'.ex=[st,pl,Da]:=by rw[hst',hpl',hex',hst,qW,hex]
   refine hR (.ref p) H3' eD' ⟨nD,xm,λb o nb e=>?_,s',ps++[q'],hst'.trans hst,hpl'.trans qW,hnm'.trans hnm,hex'.trans hex,?_,by rw[jY,psl];rfl,by rw[show 6*(i+1)=6*i+6 by omega];exact pq',λi1 q0 hq0=>?_,?_⟩
   . rw[xz (λz:b=Da=>nb (by rw[z];simp))];refine x' _ _ (λz=>nb ?_) (u _ _ (x7 b o nb e));rw[hst,qW]at z;rcases jB.mp z with z | z
     . rw[z];simp
     . rw[jA.mp z];simp
   . have ns:s'.st≠Da:=λz=>dst (by rw[<- z,hst',hst];simp);have np:s'.pl≠Da:=λz=>dst (by rw[<- z,hpl',qW];simp);obtain⟨b1,b2,b3,b4,b5,b6,b7,b8⟩:=bs';refine⟨b1,by rw[xz ns];exact b2,b3,by rw[xz np];exact b4,?_,?_,?_,λz hz=>?_⟩
     . rw[hs',eh,<- hs'];exact b5
     . rw[hs',eh,<- hs'];exact b6
     . rw[hs',eh,<- hs'];exact b7
     . rw[hex',hex]at hz;rw[jA.mp hz];exact⟨_,xm⟩
   . have i0:i=0:=by omega
     rcases jI.mp hq0 with z|z
     . exact pn 'd' q0 z
     . rw[jA.mp z];rcases nmc with z | z | z
       . exact .inl z
       . exact .inr z
       . omega
   . rw[eh,jd]
     have re:Same (hid [st,pl,Da] H') (hid [st,pl,Da] H3'):=ZL (λb o hb e=>x' b o (λz=>hb (by
      rw[hst,qW]at z;rcases jB.mp z with z|z
      . rw[z];simp
      . rw[jA.mp z];simp)) (u _ _ e)) λa ha => .inl ha
     have dq':IsD K (hid [st,pl,Da] H3') (dPt q') (.ref p):=by
      have e:s.st::s.pl::s.ex=[st,pl,Da]:=by rw[hst,qW,hex]
      rw[e]at dq;exact dq
     exact(ds.same re).append ⟨.ref p,[],rfl,dq',rfl⟩
 obtain⟨nD,eD,x78,s,ps,hst,qW,hnm,hex,bs,psl,pq,_,ds⟩:=h;have dst:Da≠st/\Da≠pl:=⟨(λz=>by rw[z,e7st]at nD;cases nD),(λz=>by rw[z,e7pl]at nD;cases nD)⟩
 have hca:H8 ca=some (.lst (cs.map V.int)):=x78 _ _ (λz=>by
  rcases jB.mp z with z|z
  . exact cst z
  rcases jB.mp z with z|z
  . exact cpl z
  . rw[<- jA.mp z,eca]at nD;cases nD) eca
 have nDH:=s07.free nD
 have s08:Same H H8:=λb o e=>x78 b o (λz=>by
  rcases jB.mp z with z|z
  . rw[z,nstH]at e;cases e
  rcases jB.mp z with z|z
  . rw[z,nplH]at e;cases e
  . rw[jA.mp z,nDH]at e;cases e) (s07 _ _ e)
 have st8:H8 st=some (.dK s.kvs):=by rw[<- hst];exact bs.st
 have pl8:H8 pl=some (.lst s.px):=by rw[<- qW];exact bs.pl
 have ok5:IntMulOk 5 ((mny:Nat):Int):=QW (m:=3) (n:=10) 'f' 'd' 'f';dsimp only[xF,List.set];refine⟨_,rfl,_,_,rfl,rfl,IntMulOk.of_right 'f',_,_,rfl,rfl,IntMulOk.of_right 'f',.inl ⟨_,_,rfl,rfl,by show 1<=sizeLine;decide,λp1 np1=>?_⟩⟩;generalize eP:upd H8 p1 _=Ha;have w1:Same H8 Ha:=by rw[<- eP];exact xy np1 _
 have e1:Ha p1=some (.lst [V.int 434]):=by rw[<- eP];exact xm
 clear eP;refine⟨_,rfl,_,rfl,_,_,rfl,rfl,ok5,_,rfl,.inl ⟨ca,_,rfl,.of (w1 _ _ hca),λp2 np2=>?_⟩⟩;obtain⟨cs2,ecs2,csl2⟩:=bx cs (some (5*(mny:Nat))) none;rw[ecs2];have w2:=xy np2 (.lst (cs2.map V.int));have e2:upd Ha p2 (.lst (cs2.map V.int)) p2=some (.lst (cs2.map V.int)):=xm;generalize upd Ha p2 (.lst (cs2.map V.int))=Hb at w2 e2 ⊢;refine .inr ⟨p1,p2,[V.int 434],cs2.map V.int,rfl,rfl,.of (w2 _ _ e1),.of e2,by rw[jC];show 1+_<=sizeLine;omega,λp3 np3=>?_⟩;have w3:=xy np3 (.lst ([V.int 434]++cs2.map V.int));have e3:upd Hb p3 (.lst ([V.int 434]++cs2.map V.int)) p3=some (.lst ((434::cs2).map V.int)):=xm;generalize upd Hb p3 (.lst ([V.int 434]++cs2.map V.int))=Hc at w3 e3 ⊢;refine⟨jS _,λp4 np4=>?_⟩;have w4:=xy np4 (.lst []);have e4:upd Hc p4 (.lst []) p4=some (.lst []):=xm;have f3:=(w1.trans w2).free np3;have f4:=(w1.trans (w2.trans w3)).free np4;have w14:=w1.trans (w2.trans (w3.trans w4));have e3:=w4 _ _ e3;generalize upd Hc p4 (.lst [])=H9 at w14 e3 e4 ⊢
 have new2:∀{z:xb},H8 z=none->z∉[s.st,s.pl]:=λn z=>by
  rw[hst,qW]at z;rcases jB.mp z with z|z
  . rw[z,st8]at n;cases n
  . rw[jA.mp z,pl8]at n;cases n
 refine⟨_,rfl,_,rfl,nm,ps,6*mny,[],s,p3,p4,434::cs2,4096,150,by rw[hst];rfl,bs.same w14,.of (xQ (new2 f3) e3),.of (xQ (new2 f4) e4),pq,hnm,λn hn=>(nomatch hn),j4,by rw[jU];omega,by decide,by decide,by decide,by decide,λHA fl kvA w z i m pre hm sM hp=>?_⟩;obtain⟨x0,os0,epre⟩:=hp rfl;have tm:=hm.fr m (jH ..);obtain⟨fM,mkd,mel,ml5,tt,mra⟩:=sM.ch;have kn:=fM.kn;rw[ml5]at kn;unfold Fr.cur at kn;rw[k9 (by rw[mel];decide),j0]at kn
 have l6n:m.l6≠[]:=λz=>by
  have:x0∈m.l6:=(kn x0).mpr (by rw[mra,epre];exact jH ..);rw[z]at this;cases this
 have l6l:=fM.l6 sM.pq.p6;have xA:Xc [st,pl] H8 HA:=λb o nb e=>hm.sm b o (by show b∉[s.st,s.pl];rw[hst,qW];exact nb) (w14 _ _ e)
 have s0A:Same H HA:=λb o e=>xA b o (λz=>by
  rcases jB.mp z with z|z
  . rw[z,nstH]at e;cases e
  . rw[jA.mp z,nplH]at e;cases e) (s08 _ _ e)
 have eDA:HA Da=some (.lst ys):=xA _ _ (by simp[dst.1,dst.2]) eD
 have dsA:IsDs K HA (ps.map dPt) ys:=ds.same λb o e=>by
  have nb:b∉[st,pl,Da]:=λz=>by unfold hid at e;rw[ke z]at e;cases e
  unfold hid at e;rw[k9 nb]at e
  exact xA b o (λz=>nb (by
   rcases jB.mp z with z|z
   . rw[z];simp
   . rw[jA.mp z];simp)) e
 have okr:okD nm ps 18 [] m.ra:=by
  have:=fM.o2;rw[ml5]at this;exact Z1 (by omega:6*mny+(5 - 0)+1<=18) this
 have csr:csD nm ps 18 m.ra<=150:=by
  have h1:=fM.o2;have h2:=sM.w;unfold wei wei own turns at h2;rw[k9 (by rw[mkd];decide),k9 (by rw[mkd];decide)]at h2;have h2:1*csD nm ps (6*mny+(5 - 0)+1) m.ra+0<=z:=h2;rw[aA (by omega:6*mny+(5 - 0)+1<=18) h1];have:=sM.sm.size;have:z<=150:=this;omega
 have pq12:PqOk nm ps 12 s.pq:=by
  refine⟨pq.p6,pq.nd,pq.few,λq0 hq=>?_,dG pq.pr λq0 i0 hq hi=>?_⟩
  . obtain⟨a1,a2⟩:=pq.ok q0 hq;exact⟨Z1 'd' a1,a2⟩
  . obtain⟨a1,_⟩:=pq.ok q0 hq;obtain⟨b1,b2,b3,b4⟩:=hi;exact⟨b1,b2,by rw[aA (by omega:6*mny<=12) a1];exact b3,b4⟩
 dsimp only[xF,List.set];refine⟨jS _,λnh nnh=>?_⟩;have wn:=xy nnh (.lst []);have enh:upd HA nh (.lst []) nh=some (.lst []):=xm;generalize upd HA nh (.lst [])=HB at wn enh ⊢;dsimp only[xF,List.set];have sB:=s0A.trans wn;have tf:=wn _ _ tm.f;have t6:=wn _ _ tm.n6;have nhf:nh≠m.f:=λz=>by rw[z,tm.f]at nnh;cases nnh
 have nh6:nh≠m.n6:=λz=>by rw[z,tm.n6]at nnh;cases nnh
 have nhD:nh≠Da:=λz=>by rw[z,eDA]at nnh;cases nnh
 have nh2:nh≠m.r2:=λz=>by rw[z,tm.r2]at nnh;cases nnh
 obtain⟨n3',en3,n33⟩:∃n:Nat,1+cell ns 2 % 3=(n:Int)/\n<=3:=⟨(1+cell ns 2 % 3).toNat,by omega,by omega⟩;refine⟨_,rfl,a,ns,2,rfl,sB.seq hS,by decide,_,_,rfl,rfl,(by show(0:Int)<3;decide),.inl ⟨_,_,rfl,rfl,?_⟩⟩;refine⟨(n3':Nat),by show [V.int (1+cell ns 2 % 3)]=_;rw[en3],by omega,by omega,?_⟩;rw[ja];refine QS (n:=n3') (λi σ H'=>∃(as:qB) (c11 c12:Option V),σ=[some (.ref a),some (.int 4096),some (.int 150),some (.int c),some (.ref lg),some (.ref st),some (.int (mny:Nat)),some (.ref ca),some (.ref Da),some (.ref m.f),some (.ref nh),c11,c12]/\Xc [nh] HB H'/\H' nh=some (.lst (as.map V.str))/\(∀n∈as,n∈m.l6)/\as.length<=i) ⟨[],none,none,rfl,.of (Same.refl _),enh,λn hn=>(nomatch hn),jG _⟩ (λi σ H' hi h=>?_) (λσ H' h=>?_)
 . obtain⟨as,c11,c12,rfl,xB,eas,asub,asl⟩:=h;have tf':=xB _ _ (λz=>nhf (jA.mp z).symm) tf;have t6':=xB _ _ (λz=>nh6 (jA.mp z).symm) t6;have lp:0 < (m.l6.map V.str).length:=by rw[jC];exact List.length_pos_iff.mpr l6n
   obtain⟨v,ev,hv⟩:=au (m.l6.map V.str) (c / 7+(0+(i:Nat))) lp;obtain⟨x,hx,rfl⟩:=jn.mp hv;dsimp only[xF,List.set];refine⟨_,rfl,m.f,_,rfl,xT tf' rfl,_,rfl,_,_,rfl,rfl,⟨by decide,by decide⟩,_,rfl,.inl ⟨_,_,rfl,rfl,_,rfl,m.f,_,rfl,xT tf' rfl,_,_,rfl,JZ (.of t6'),_,_,rfl,rfl,(by omega),.inl ⟨m.n6,_,_,.str x,rfl,rfl,.of t6',ev,?_⟩⟩⟩;dsimp only[xF,List.set];refine⟨_,rfl,_,rfl,nh,_,rfl,.inl (.of eas),rfl,bF _,_,rfl,?_⟩;show if (!inV (.str x) (as.map V.str))=true then _ else _;rw[Yh];refine Y9 (λhn=>?_) (λhn=>nxt ?_)
   . refine⟨_,rfl,.inl ⟨rfl,_,.of eas⟩,_,rfl,nh,_,.str x,rfl,rfl,eas,by rw[jC];omega,as ++ [x],_,_,rfl,xB.trans (Jl 'j'),by rw[jd];exact xm,λn hn=>?_,by rw[jY];show _ + 1<=_;omega⟩;rcases jI.mp hn with hn | hn
     . exact asub n hn
     . rw[jA.mp hn];exact hx
   . exact⟨as,_,_,rfl,xB,eas,asub,by omega⟩
 . obtain⟨as,c11,c12,rfl,xB,eas,asub,asl⟩:=h;have gB:∀{b:xb}{o:HO},b≠nh->HA b=some o->H' b=some o:=λhb e=>xB _ _ (λz=>hb (jA.mp z)) (wn _ _ e);have sA':Same HA H':=λb o e=>gB (λz=>by rw[z,nnh]at e;cases e) e;refine⟨_,rfl,_,rfl,m.f,_,rfl,xT (gB nhf.symm tm.f) rfl,_,rfl,by show 3<=sizeLine;decide,λpt qM=>?_⟩;have u:=xy qM (.tup [.ref Da,.ref m.r2,.ref nh]);have sAu:=sA'.trans u;refine q _ pt nm ps s.pq m.ra as (s0A.trans sAu) ⟨pt,_,rfl,.of xm,_,_,rfl,⟨Da,ys,rfl,.of (sAu _ _ eDA),dsA.same sAu⟩,_,_,rfl,⟨m.r2,m.x2,rfl,.of (sAu _ _ tm.r2),(tm.d2.same (xJ _ _)).same sAu⟩,_,_,rfl,⟨nh,_,rfl,.of (u _ _ eas),QQ _⟩,rfl⟩ pq12 okr fM.g2 csr (λn hn=>(kn n).mp (asub n hn)) 'd'
mutual
def alk:D->Bool
 |.int _=>true
 |.str _=>true
 |.tup ds=>decide (ds.length<=1000)&&JV ds
 |.lst ds=>decide (ds.length<=1000)&&JV ds
 |_=>false
def JV:List D->Bool
 | []=>true
 |d::ds=>alk d&&JV ds
end
theorem aF:∀{ds:List D},JV ds=true->∀d∈ds,alk d=true
 |d::ds,h,e,he=>by
  have h':(alk d&&JV ds)=true:=h;rw[jj]at h';rcases jB.mp he with rfl|he
  . exact h'.1
  . exact aF h'.2 e he
theorem aG:∀{ds:List D},∀d∈ds,d.deep<=D.deeps ds
 |e::ds,d,he=>by
  have h:D.deeps (e::ds)=max e.deep (D.deeps ds):=rfl;rcases jB.mp he with rfl|he
  . omega
  . have:=aG (ds:=ds) d he;omega
def aH(K:qu)(d:Nat):Sp:=λvs H Q _=>∃(x y:V) (dd:D),vs=[x,y]/\alk dd=true/\dd.deep<d/\IsD K H dd x/\IsD K H dd y/\∀H',Same H H'->Q (.bl true) H'
def wK(d:Nat)(B:Bl mg)(F:Fn K mg "_law_alike" Zw ["_law_found", "_law_due"])(Xb:Def P w K mg base "_law_alike" (d+2) ["_law_found", "_law_due"] (aH K d)):Def P w K mg base "_law_alike" (d+3) ["_law_found", "_law_due"] (aH K (d+1)):=by
 have hjk:d+2<=d+2:=jG _;refine F.ok bY (λvs H Q E h=>?_) (λf qF A outer s H vs Q E hr h=>?_)
 . obtain⟨x,y,dd,rfl,_⟩:=h;rfl
 obtain⟨x,y,dd,rfl,ha,hd,dx,dy,q⟩:=h
 refine⟨_,(@xu _ _ _ _ _ (xO (JC (J5 (uG K rfl) rfl B.isinstance PyProof.Rows.boot_isinstance (xC (pv 1) (xC (JO (xC (Q4 (v := .ty "list") rfl B.list PyProof.Rows.boot_list rfl) (xC (Q4 (v := .ty "tuple") rfl B.tuple PyProof.Rows.boot_tuple rfl) xk))) xk)))) (@xu _ _ _ _ _ (xO (PW.pt (aS (xK (bu.or bv) (J5 (Qs K rfl) rfl B.isinstance PyProof.Rows.boot_isinstance (xC (pv 0) (xC (Q4 (v := .ty "list") rfl B.list PyProof.Rows.boot_list rfl) xk))) (J5 (Qs K rfl) rfl B.isinstance PyProof.Rows.boot_isinstance (xC (pv 1) (xC (Q4 (v := .ty "list") rfl B.list PyProof.Rows.boot_list rfl) xk))) (xN _)) (aR (xK (bu.or bv) (J5 (Qs K rfl) rfl B.isinstance PyProof.Rows.boot_isinstance (xC (pv 0) (xC (Q4 (v := .ty "tuple") rfl B.tuple PyProof.Rows.boot_tuple rfl) xk))) (J5 (Qs K rfl) rfl B.isinstance PyProof.Rows.boot_isinstance (xC (pv 1) (xC (Q4 (v := .ty "tuple") rfl B.tuple PyProof.Rows.boot_tuple rfl) xk))) (xN _))))) (@xw _ _ _ (xP Qp)) xX)
  (@xu _ _ _ _ _ (xO (xK (bu.or bv) (J5 (JF K rfl) rfl B.len PySem.boot_len (xC (pv 0) xk)) (J5 (JF K rfl) rfl B.len PySem.boot_len (xC (pv 1) xk)) (xN _)) (@xw _ _ _ (xP Qp)) xX)
  (@xu _ _ _ _ _ (Q6 PassesOwn.never rfl (Q5 rfl B.range (xC (J5 (JF K rfl) rfl B.len PySem.boot_len (xC (pv 1) xk)) xk)) (Ju (i:=2) bY.nd rfl 'b') (@xw _ _ _ (xO (ZT (JC (xI Xb hr rfl (xC (xD (xE K rfl) (pv 0) (pv 2) (λ_ _=>rfl)) (xC (xD (xE K rfl) (pv 1) (pv 2) (λ_ _=>rfl)) xk)) (hjk:=hjk)))) (@xw _ _ _ (xP Qp)) xX)))
  (@xw _ _ _ (xP Qp))))) xX)
  (@xu _ _ _ _ _ (xO (JC (J5 (Qs K rfl) rfl B.isinstance PyProof.Rows.boot_isinstance (xC (pv 1) (xC (Q4 (v := .ty "str") rfl B.str PyProof.Rows.boot_str rfl) xk)))) (@xw _ _ _ (xP (ZU (J5 (Qs K rfl) rfl B.isinstance PyProof.Rows.boot_isinstance (xC (pv 0) (xC (Q4 (v := .ty "str") rfl B.str PyProof.Rows.boot_str rfl) xk))) (aT (f8 (Ji.or (Jb.or (XE.or (XI K rfl hr.units)))) (pv 0) (pv 1) (xN _)))))) xX)
  (@xw _ _ _ (xP (ZU (J5 (Qs K rfl) rfl B.isinstance PyProof.Rows.boot_isinstance (xC (pv 0) (xC (Q4 (v := .ty "int") rfl B.int PyProof.Rows.boot_int rfl) xk))) (ZU (nK (J5 (Qs K rfl) rfl B.isinstance PyProof.Rows.boot_isinstance (xC (pv 0) (xC (Q4 (v := .ty "bool") rfl B.bool PyProof.Rows.boot_bool rfl) xk)))) (aT (f8 (Ji.or (Jb.or (XE.or (XI K rfl hr.units)))) (pv 0) (pv 1) (xN _))))))))),?_⟩
 cases dd with
 |non=>cases ha
 |bl b=>cases ha
 |int i =>
  obtain rfl:x=.int i:=dx;obtain rfl:y=.int i:=dy;refine⟨_,rfl,by show 2<=sizeLine;decide,λp fp=>?_⟩;refine⟨_,p, "list", "tuple",.type "int",false,rfl,xm,.int i,rfl,_,rfl,xY (nxt ?_)⟩;have u:=xy fp (.tup [.ty "list",.ty "tuple"]);refine⟨_,rfl,_,_,.type "int",false,rfl,rfl,.of (.int i),rfl,_,rfl,xY (nxt ?_)⟩;refine⟨_,rfl,_,_,.type "int",true,rfl,rfl,.of (.int i),rfl,_,rfl,Jc ?_⟩;refine⟨_,rfl,_,_,.type "int",false,rfl,rfl,.of (.int i),rfl,_,rfl,_,rfl,Jc ?_⟩;exact⟨_,rfl,_,rfl,.inl ⟨_,_,rfl,rfl,by dsimp only;rw[kf rfl];exact q _ u⟩⟩
 |str t =>
  obtain rfl:x=.str t:=dx;obtain rfl:y=.str t:=dy;refine⟨_,rfl,by show 2<=sizeLine;decide,λp fp=>?_⟩;refine⟨_,p, "list", "tuple",.type "str",false,rfl,xm,.str t,rfl,_,rfl,xY (nxt ?_)⟩;have u:=xy fp (.tup [.ty "list",.ty "tuple"]);refine⟨_,rfl,_,_,.type "str",true,rfl,rfl,.of (.str t),rfl,_,rfl,Jc ?_⟩;refine⟨_,rfl,_,_,.type "str",true,rfl,rfl,.of (.str t),rfl,_,rfl,Jc ?_⟩;exact⟨_,rfl,_,rfl,.inr (.inl ⟨_,_,rfl,rfl,by dsimp only;rw[kf rfl];exact q _ u⟩)⟩
 |tup ds =>
  obtain⟨a,xs,rfl,qx,dxs⟩:=dx;obtain⟨b,ys,rfl,qy,dys⟩:=dy;have ha':(decide (ds.length<=1000)&&JV ds)=true:=ha;rw[jj,decide_eq_true_eq]at ha';have hd':D.deeps ds+1<d+1:=hd;have xl:=dxs.length;have yl:=dys.length;refine⟨_,rfl,by show 2<=sizeLine;decide,λp fp=>?_⟩;have u:=xy fp (.tup [.ty "list",.ty "tuple"]);refine⟨_,p, "list", "tuple",.type "tuple",true,rfl,xm,.tup (u.tupq qy),rfl,_,rfl,Jc ?_⟩;generalize upd H p (.tup [.ty "list",.ty "tuple"])=H1 at u ⊢;have qx1:=u.tupq qx;have qy1:=u.tupq qy;refine⟨_,rfl,_,_,.type "tuple",false,rfl,rfl,.tupS qx1,rfl,_,rfl,_,_,.type "tuple",false,rfl,rfl,.tupS qy1,rfl,.inr ⟨_,_,rfl,rfl,_,rfl,xY ?_⟩⟩;refine⟨_,rfl,_,_,.type "tuple",true,rfl,rfl,.tupS qx1,rfl,_,rfl,_,_,.type "tuple",true,rfl,rfl,.tupS qy1,rfl,.inr ⟨_,_,rfl,rfl,_,rfl,xY (nxt ?_)⟩⟩;refine⟨_,rfl,_,_,rfl,(.inr ⟨_,qx1,rfl⟩),_,rfl,_,_,rfl,(.inr ⟨_,qy1,rfl⟩),.inl ⟨_,_,rfl,rfl,_,rfl,Y9 (λc=>absurd 'd' c) (λ_=>nxt ?_)⟩⟩;refine⟨_,rfl,_,_,rfl,(.inr ⟨_,qy1,rfl⟩),_,rfl,by omega,by omega,QS (λi σ H'=>Same H H'/\∃c,σ=[some (.ref a),some (.ref b),c]) ⟨u,none,rfl⟩ ?_ ?_⟩
  . rintro i σ H' hi ⟨sm0,c,rfl⟩;have hi':i < ds.length:=by omega
    obtain⟨x,ex,dx⟩:=dxs.get (i:=i) (jD hi');obtain⟨y,ey,dy⟩:=dys.get (i:=i) (jD hi');have ax:atI xs (0+(i:Int))=some x:=by rw[Int.zero_add];exact Jx ex
    have ay:atI ys (0+(i:Int))=some y:=by rw[Int.zero_add];exact Jx ey
    have dm:=aG _ (jp hi');refine⟨_,rfl,_,rfl,.inr (.inl ⟨a,_,_,_,rfl,rfl,(sm0.tupq qx),ax,_,rfl,_,rfl,.inr (.inl ⟨b,_,_,_,rfl,rfl,(sm0.tupq qy),ay,?_⟩)⟩)⟩;exact⟨x,y,ds[i],rfl,aF ha'.2 _ (jp hi'),by omega,dx.same sm0,dy.same sm0,λH2 s2=>⟨_,rfl,xY (nxt ⟨sm0.trans s2,_,rfl⟩)⟩⟩
  . rintro σ H' ⟨sm0,c,rfl⟩;exact q _ sm0
 |lst ds =>
  obtain⟨a,xs,rfl,qx,dxs⟩:=dx;obtain⟨b,ys,rfl,qy,dys⟩:=dy;have ha':(decide (ds.length<=1000)&&JV ds)=true:=ha;rw[jj,decide_eq_true_eq]at ha';have hd':D.deeps ds+1<d+1:=hd;have xl:=dxs.length;have yl:=dys.length;refine⟨_,rfl,by show 2<=sizeLine;decide,λp fp=>?_⟩;have u:=xy fp (.tup [.ty "list",.ty "tuple"]);refine⟨_,p, "list", "tuple",.type "list",true,rfl,xm,.lst (u.seq qy),rfl,_,rfl,Jc ?_⟩;generalize upd H p (.tup [.ty "list",.ty "tuple"])=H1 at u ⊢;have qx1:=u.seq qx;have qy1:=u.seq qy;refine⟨_,rfl,_,_,.type "list",true,rfl,rfl,.lstS qx1,rfl,_,rfl,_,_,.type "list",true,rfl,rfl,.lstS qy1,rfl,.inr ⟨_,_,rfl,rfl,_,rfl,xY ?_⟩⟩;refine⟨_,rfl,_,_,.type "list",false,rfl,rfl,.lstS qx1,rfl,_,rfl,_,_,.type "list",false,rfl,rfl,.lstS qy1,rfl,.inr ⟨_,_,rfl,rfl,_,rfl,xY (nxt ?_)⟩⟩;refine⟨_,rfl,_,_,rfl,(.inl ⟨_,qx1,rfl⟩),_,rfl,_,_,rfl,(.inl ⟨_,qy1,rfl⟩),.inl ⟨_,_,rfl,rfl,_,rfl,Y9 (λc=>absurd 'd' c) (λ_=>nxt ?_)⟩⟩;refine⟨_,rfl,_,_,rfl,(.inl ⟨_,qy1,rfl⟩),_,rfl,by omega,by omega,QS (λi σ H'=>Same H H'/\∃c,σ=[some (.ref a),some (.ref b),c]) ⟨u,none,rfl⟩ ?_ ?_⟩
  . rintro i σ H' hi ⟨sm0,c,rfl⟩;have hi':i < ds.length:=by omega
    obtain⟨x,ex,dx⟩:=dxs.get (i:=i) (jD hi');obtain⟨y,ey,dy⟩:=dys.get (i:=i) (jD hi');have ax:atI xs (0+(i:Int))=some x:=by rw[Int.zero_add];exact Jx ex
    have ay:atI ys (0+(i:Int))=some y:=by rw[Int.zero_add];exact Jx ey
    have dm:=aG _ (jp hi');refine⟨_,rfl,_,rfl,.inl ⟨a,_,_,_,rfl,rfl,(sm0.seq qx),ax,_,rfl,_,rfl,.inl ⟨b,_,_,_,rfl,rfl,(sm0.seq qy),ay,?_⟩⟩⟩;exact⟨x,y,ds[i],rfl,aF ha'.2 _ (jp hi'),by omega,dx.same sm0,dy.same sm0,λH2 s2=>⟨_,rfl,xY (nxt ⟨sm0.trans s2,_,rfl⟩)⟩⟩
  . rintro σ H' ⟨sm0,c,rfl⟩;exact q _ sm0
theorem mG(B:Bl mg)(F:Fn K mg "_law_alike" Zw ["_law_found", "_law_due"]):∀d,Def P w K mg base "_law_alike" (d+2) ["_law_found", "_law_due"] (aH K d)
 |0=>by
  refine F.ok bY (λvs H Q E h=>?_) (λf qF A outer s H vs Q E hr h=>?_)
  . obtain⟨x,y,dd,rfl,_⟩:=h;rfl
  . obtain⟨x,y,dd,rfl,_,hh,_⟩:=h;exact absurd hh (kH _)
 |d+1=>wK d B F (mG B F d)
def wL(hS:SqT K H a xs):(∀H',Same H H'->(Itt K a).stop xs.length H')/\∀i H',i<xs.length->Same H H'->(Itt K a).go i H'/\∀x qH,(Itt K a).yld i H' x qH->x=xs.getD i .non/\qH=H':=by
 refine⟨λH' sm=>⟨xs,sm.tupq hS,jG _⟩,λi H' hi sm=>⟨⟨xs,xs[i],sm.tupq hS,jD hi⟩,λx qH hy=>?_⟩⟩;obtain⟨e,y⟩:=hy;refine⟨?_,e⟩;have:=y xs (sm.tupq hS);rw[jN,this];rfl
def wM{r:List V->Hp->VK->Prop}{ix:qC}{wi:TI}{te:TE}{D:Ends}(h:wi σ H (JQ ix te σ λx H1=>r [x] H1 D.rt)):aV (tCB r (J8 (JL ix wi Q9 te) Ja)) D σ H:=h
def ZN(K:qu)(d:Nat):Sp:=λvs H Q _=>∃(x:V) (dd:D),vs=[x]/\IsD K H dd x/\alk dd=true/\dd.deep<d/\∀(y:V) (H':Hp),Same H H'->IsA K H H' dd y->Q y H'
def wN(d:Nat)(B:Bl mg)(Z5:Def P w K mg base "_law_copy" (d+1) ["_law_thing"] (ZN K d))(F:Fn K mg "_law_copy" Zv ["_law_thing"]):Def P w K mg base "_law_copy" (d+2) ["_law_thing"] (ZN K (d+1)):=by
 have hjk:d+1<=d+1:=jG _;have hj_l_copy:d+1<=d+1:=jG _;refine F.ok iC (λvs H Q E h=>?_) (λf qF A outer s H vs Q E hr h=>?_)
 . obtain⟨x,dd,rfl,_⟩:=h;rfl
 obtain⟨x,dd,rfl,dx,hw,hd,q⟩:=h
 refine⟨_,(@xu _ _ _ _ _ (xO (JC (J5 (Qs K rfl) rfl B.isinstance PyProof.Rows.boot_isinstance (xC (pv 0) (xC (Q4 (v := .ty "list") rfl B.list PyProof.Rows.boot_list rfl) xk)))) (@xw _ _ _ (xP (Qa (CompOk.of (x := "_law_one_here") (M:=[]) (ix:=[]) rfl rfl (by decide +kernel) (by decide +kernel) rfl trivial 'g' trivial) rfl (by decide +kernel) (JK (pv 0)) (λ_ _ _ _ _=>JP) (λ_ _ _ _ _=>(xI Z5 hr rfl (xC (pv 0) xk) (hjk:=hjk)))))) xX)
  (@xu _ _ _ _ _ (xO (JC (J5 (Qs K rfl) rfl B.isinstance PyProof.Rows.boot_isinstance (xC (pv 0) (xC (Q4 (v := .ty "tuple") rfl B.tuple PyProof.Rows.boot_tuple rfl) xk)))) (@xw _ _ _ (xP (JY (bB K rfl) rfl B.tuple PyProof.Rows.boot_tuple (xC (Qa (CompOk.of (x := "_law_one_here") (M:=[]) (ix:=[]) rfl rfl (by decide +kernel) (by decide +kernel) rfl trivial 'g' trivial) rfl (by decide +kernel) (aW (pv 0)) (λ_ _ _ _ _=>JP) (λ_ _ _ _ _=>(xI Z5 hr rfl (xC (pv 0) xk) (hjk:=hjk)))) xk)))) xX)
  (@xw _ _ _ (xP (pv 0))))),?_⟩
 have big:(100000:Nat)<sizeLine:=by decide
 have step:∀(ds:List D) (xs:List V),IsDs K H ds xs->JV ds=true->D.deeps ds<d->∀(k:Nat) (z:D) (Da:xb) (H':Hp) (R:VK),k<xs.length->ds[k]?=some z->Same H H'->H Da=none->(∃o,H' Da=some o)->(∀y qH,Same H' qH->IsA K H (Jz Da qH) z y->R y qH)->ZN K d [xs.getD k .non] H' R E0:=λds xs ids ws dp k z Da H' R hk' ek s' nDa oDa hR=>by
  have hk:k<ds.length:=(jV.mp ek).1;have hx:xs[k]?=some (xs.getD k .non):=by simp[List.getD,hk']
  have zm:z∈ds:=jq ek;obtain⟨v,ev,dz⟩:=ids.get ek;rw[hx]at ev;obtain rfl:=Option.some.inj ev;refine⟨_,z,rfl,dz.same s',aF ws z zm,jk (aG z zm) dp,λy qH s'' isn=>hR y qH s'' λA hA=>(isn (Da::A) λb hb=>?_).same mB⟩;rcases jB.mp hb with rfl|hb
  . exact oDa
  . exact(hA.same s') b hb
 have items:∀{ds:List D}{ys:List V}{H9:Hp},Paired (λz y=>IsA K H H9 z y) ds ys->∀A,Al A H->IsDs K (hid A H9) ds ys:=by
  intro ds ys H9 pr A hA
  induction pr with
  |nil=>rfl
  |cons h _ ih=>exact⟨_,_,rfl,h A hA,ih⟩
 cases dd with
 |non=>cases hw
 |bl b=>cases hw
 |int n =>
  obtain rfl:x=.int n:=dx;exact⟨_,rfl,_,_,.type "int",false,rfl,rfl,.of (.int n),rfl,_,rfl,xY (nxt ⟨_,rfl,_,_,.type "int",false,rfl,rfl,.of (.int n),rfl,_,rfl,xY (nxt ⟨_,rfl,q _ _ (Same.refl _) λA _=>rfl⟩)⟩)⟩
 |str n =>
  obtain rfl:x=.str n:=dx;exact⟨_,rfl,_,_,.type "str",false,rfl,rfl,.of (.str n),rfl,_,rfl,xY (nxt ⟨_,rfl,_,_,.type "str",false,rfl,rfl,.of (.str n),rfl,_,rfl,xY (nxt ⟨_,rfl,q _ _ (Same.refl _) λA _=>rfl⟩)⟩)⟩
 |lst ds =>
  obtain⟨a,xs,rfl,qa,ids⟩:=dx;have hw':(decide (ds.length<=1000)&&JV ds)=true:=hw;rw[jj,qg]at hw';have hd':D.deeps ds+1<d+1:=hd;have xl:=ids.length;refine⟨_,rfl,_,_,.type "list",true,rfl,rfl,.lstS qa,rfl,_,rfl,Jc (lQ ?_)⟩;have go:=bT (K:=K) (a:=a) (H:=H) qa;refine⟨_,rfl,a,rfl,⟨_,qa⟩,QY (λH2 z y=>IsA K H H2 z y) (λs h=>h.same s) _ _ ds xl.symm 'd' go.1 go.2 (λk z Da H' R hk ek s' nDa hDa hR=>?_) (λp5 H9 ys s9 n9 e9 pr9=>?_)⟩
  . exact⟨_,rfl,step ds xs ids hw'.2 'd' k z Da H' R hk ek s' nDa hDa hR⟩
  . exact q _ _ s9 λA hA=>⟨p5,ys,rfl,.of (xQ (hA.not n9) e9),items pr9 A hA⟩
 |tup ds =>
  obtain⟨a,xs,rfl,qa,ids⟩:=dx;have hw':(decide (ds.length<=1000)&&JV ds)=true:=hw;rw[jj,qg]at hw';have hd':D.deeps ds+1<d+1:=hd;have xl:=ids.length;refine⟨_,rfl,_,_,.type "tuple",false,rfl,rfl,.tupS qa,rfl,_,rfl,xY (nxt ?_)⟩;refine⟨_,rfl,_,_,.type "tuple",true,rfl,rfl,.tupS qa,rfl,_,rfl,Jc (wM ?_)⟩;have go:=wL (K:=K) (a:=a) (H:=H) qa;refine⟨_,rfl,a,rfl,⟨_,qa⟩,QY (λH2 z y=>IsA K H H2 z y) (λs h=>h.same s) _ _ ds xl.symm 'd' go.1 go.2 (λk z Da H' R hk ek s' nDa hDa hR=>?_) (λp5 H9 ys s9 n9 e9 pr9=>?_)⟩
  . exact⟨_,rfl,step ds xs ids hw'.2 'd' k z Da H' R hk ek s' nDa hDa hR⟩
  . refine⟨p5,ys,rfl,.inl ⟨.of e9,λl nl=>q _ _ (s9.trans (xy nl _)) λA hA=>?_⟩⟩;exact⟨l,ys,rfl,.of (xQ (hA.not (s9.free nl)) xm),(items pr9 A hA).same (J3 (xy nl _))⟩
theorem mH(B:Bl mg)(F:Fn K mg "_law_copy" Zv ["_law_thing"]):∀d,Def P w K mg base "_law_copy" (d+1) ["_law_thing"] (ZN K d)
 |0=>by
  refine F.ok iC (λvs H Q E h=>?_) (λf qF A outer s H vs Q E hr h=>?_)
  . obtain⟨x,dd,rfl,_⟩:=h;rfl
  . obtain⟨x,dd,rfl,_,_,hh,_⟩:=h;exact absurd hh (kH _)
 |d+1=>wN d B (mH B F d) F
def Fine(n:Nat)(d:D):Prop:=alk d=true/\d.deep<=n
def Fine.up(h:Fine n d)(l:n<=m):Fine m d:=⟨h.1,je h.2 l⟩
theorem dM:∀{ds:List D},(∀d∈ds,Fine n d)->JV ds=true/\D.deeps ds<=n
 | [],_=>⟨rfl,jS _⟩
 |d::ds,h=>by
  obtain⟨h1,h2⟩:=dM (ds:=ds) λx hx=>h x (jE _ hx);obtain⟨h3,h4⟩:=h d (jH ..);refine⟨?_,Nat.max_le.mpr ⟨h4,h2⟩⟩;show(alk d&&JV ds)=true;rw[h3,h1];rfl
def dN(l:ds.length<=1000)(h:∀d∈ds,Fine n d):Fine (n+1) (.tup ds):=by
 obtain⟨h1,h2⟩:=dM h;refine⟨?_,jv h2⟩;show(decide (ds.length<=1000)&&JV ds)=true;rw[kf l,h1];rfl
def Xs(l:ds.length<=1000)(h:∀d∈ds,Fine n d):Fine (n+1) (.lst ds):=by
 obtain⟨h1,h2⟩:=dM h;refine⟨?_,jv h2⟩;show(decide (ds.length<=1000)&&JV ds)=true;rw[kf l,h1];rfl
def Jk(s:Str):Fine n (.str s):=⟨rfl,jS _⟩
def ZO(i:Int):Fine n (.int i):=⟨rfl,jS _⟩
def Xu(ha:Fine n a)(hb:Fine n b):Fine (n+1) (.tup [a,b]):=dN (by show 2<=1000;decide) λd hd=>by
 simp only[jB,jb,kP]at hd;rcases hd with rfl|rfl
 . exact ha
 . exact hb
def Xd(ha:Fine n a)(hb:Fine n b)(hc:Fine n c):Fine (n+1) (.tup [a,b,c]):=dN (by show 3<=1000;decide) λd hd=>by
 simp only[jB,jb,kP]at hd;rcases hd with rfl|rfl|rfl
 . exact ha
 . exact hb
 . exact hc
def aI(ha:Fine n a)(hb:Fine n b)(hc:Fine n c)(he:Fine n e):Fine (n+1) (.tup [a,b,c,e]):=dN (by show 4<=1000;decide) λd hd=>by
 simp only[jB,jb,kP]at hd;rcases hd with rfl|rfl|rfl|rfl
 . exact ha
 . exact hb
 . exact hc
 . exact he
def dP{n:Nat}{l:qB}(h:l.length<=1000):Fine (n+1) (.lst (l.map D.str)):=Xs (by rw[jC];exact h) λd hd=>by
 obtain⟨s,_,rfl⟩:=jn.mp hd;exact Jk s
theorem Qn:∀e:Ex,Fine (e.high+1) (dE e)
 |.num n=>Xu (Jk _) (ZO n)
 |.nam x=>Xu (Jk _) (Jk x)
 |.un a=>Xu (Jk _) (Qn a)
 |.bi s a b=>Xd (Jk _) ((Qn a).up (jv (Nat.le_max_left ..))) ((Qn b).up (jv (Nat.le_max_right ..)))
 |.pick c a b=>aI (Jk _) ((Qn c).up (jv (Nat.le_max_left ..))) ((Qn a).up (jv (je (Nat.le_max_left ..) (Nat.le_max_right ..)))) ((Qn b).up (jv (je (Nat.le_max_right ..) (Nat.le_max_right ..))))
def mI{os:List D}(h:OsQ os)(l:os.length<=100):Fine 3 (.lst os):=Xs 'd' λd hd=>by
 obtain⟨v,a,b,rfl⟩:=h d hd;exact Xu (ZO v) (Xu (n:=0) (ZO a) (ZO b))
section
variable {pool:qB}{ps:List Pt}
theorem mJ:∀{rows:List Wr}{K:qB},okR pool ps f K rows->∀r∈rows,∃K',ok1 pool ps f K' r
 |_::_,_,⟨o1,o2⟩,r,hr=>by
  rcases jB.mp hr with rfl|hr
  . exact⟨_,o1⟩
  . exact mJ o2 r hr
theorem ZP:∀(d:Nat) {e:Nat}{K:qB}{rows:List Wr},lnD d rows->okD pool ps e K rows->Fine (2*d+12) (.lst (dWs rows))
 |0,_,_,_,h,_=>h.elim
 |_+1,0,_,_,_,o=>o.elim
 |d+1,e+1,K,rows,⟨l,h⟩,o=>by
  refine Xs (n:=2*(d+1)+11) (by rw[Jj,jC];omega) λx hx=>?_;rw[Jj]at hx;obtain⟨r,hr,rfl⟩:=jn.mp hx;obtain⟨K',ok⟩:=mJ o r hr;have hn:=h r hr;have ex:∀{e:Ex},OkE K' e->Fine (2*(d+1)+10) (dE e):=fun {e} oe=>(Qn e).up (by have:=oe.2.1;omega)
  cases r with
  |draw y os=>exact Xd (Jk _) (Jk _) ((mI ok.2.2 ok.2.1).up 'd')
  |lett y e=>exact Xd (Jk _) (Jk _) (ex ok.2)
  |seen e=>exact Xu (Jk _) (ex ok)
  |ifr e a b=>exact aI (Jk _) (ex ok.1) ((ZP d hn.1 ok.2.1).up 'd') ((ZP d hn.2 ok.2.2).up 'd')
  |rnd k a=>exact Xd (Jk _) (ZO _) ((ZP d hn ok.2).up 'd')
  |call y p es =>
   obtain⟨_,q,_,_,l100,oe,_⟩:=ok;refine aI (Jk _) (Jk _) (Jk _) ((Xs (n:=10) (by rw[jC];omega) λz hz=>?_).up 'd');obtain⟨e,he,rfl⟩:=jn.mp hz;exact(Qn e).up (by have:=(oe e he).2.1;omega)
def wO(h:PqOk pool ps 12 pq)(o:okD pool ps 18 [] rs)(l:lnD 6 rs)(al:as.length<=3):Fine 40 (dPr ps rs as):=by
 refine Xd ((Xs (n:=25) (by rw[jC];have:=h.few;omega) λx hx=>?_).up 'd') ((ZP 6 l o).up 'd') ((dP (n:=0) 'd').up 'd');obtain⟨q,hq,rfl⟩:=jn.mp hx;obtain⟨a1,a2,a3,a4,a5⟩:=h.ok q hq;exact aI (Jk _) ((dP (n:=0) 'd').up 'd') ((ZP 6 a5 a1).up 'd') ((Qn q.e).up (by have:=a3.2.1;omega))
def FlR:Wr->Prop
 |.draw _ os=>OsQ os/\os.length<=100
 |.lett _ e=>e.high<=20
 |.seen e=>e.high<=20
 |_=>False
def Fl(out:List Wr):Prop:=∀r∈out,FlR r
def Fl.snoc(h:Fl out)(hr:FlR r):Fl (out++[r]):=λx hx=>(jI.mp hx).elim (h x) λz=>by rw[jA.mp z];exact hr
theorem Fl.ltv(h:Fl out)(he:e.high<=20):Fl (ltv out e):=h.snoc he
theorem Qd(r:Str->Str):∀e:Ex,(e.ren r).high=e.high
 |.num _=>rfl
 |.nam _=>rfl
 |.un a=>by show(a.ren r).high+1=_;rw[Qd r a];rfl
 |.bi s a b=>by show max (a.ren r).high (b.ren r).high+1=_;rw[Qd r a,Qd r b];rfl
 |.pick c a b=>by show max (c.ren r).high (max (a.ren r).high (b.ren r).high)+1=_;rw[Qd r a,Qd r b,Qd r c];rfl
theorem mK:∀(l:qB) (s:LB),Fl s.out->Fl (l.foldl (pk1 k b1 b2) s).out
 | [],_,h=>h
 |n::l,s,h=>by
  refine mK l (pk1 k b1 b2 s n) ?_;unfold pk1;split
  . exact h
  . exact h.ltv (by show 1<=20;decide)
theorem mL:∀(l:List (Str×Ex)) (s:LB),(∀p∈l,p.2.high<10)->Fl s.out->Fl (l.foldl (ag1 b) s).out
 | [],_,_,h=>h
 |p::l,s,hp,h=>mL l (ag1 b s p) (λq hq=>hp q (jE _ hq)) (h.ltv (by rw[Qd];have:=hp p (jH ..);omega))
def wP{f:List Wr->Option Str->LB->LB}{o:qB->List Wr->Prop}(hf:∀K rows g s,o K rows->Fl s.out->Fl (f rows g s).out)(g:Option Str){K:qB}{r:Wr}{s:LB}(ok:ok1 pool ps o K r)(h:Fl s.out):Fl (JG pool ps f g r s).out:=by
 cases r with
 |draw x os=>exact h.snoc ⟨ok.2.2,ok.2.1⟩
 |lett x e=>exact h.ltv (by rw[Qd];have:=ok.2.2.1;omega)
 |seen e =>
  have oe:OkE K e:=ok
  cases g with
  |none=>exact h.snoc (by show(e.ren _).high<=20;rw[Qd];have:=oe.2.1;omega)
  |some gd=>exact(h.ltv (by rw[Qd];have:=oe.2.1;omega)).snoc (by show 2<=20;decide)
 |ifr e a c =>
  refine mK _ _ (hf K c _ _ ok.2.2 ?_);refine Fl.ltv (hf K a _ _ ok.2.1 ?_) (by cases g with|none=>(show 1<=20;decide)|some gd=>(show 2<=20;decide));have h1:Fl (ltv s.out (e.ren s.b.at)):=h.ltv (by rw[Qd];have:=ok.1.2.1;omega)
  cases g with
  |none=>exact h1
  |some gd=>exact h1.ltv (by show 1<=20;decide)
 |rnd k a =>
  show Fl (Nat.rec (motive:=λ_=>LB) s (λ_ t=>f a g t) k).out
  induction k with
  |zero=>exact h
  |succ k ih=>exact hf K a g _ ok.2 (ih ⟨Nat.le_of_succ_le ok.1,ok.2⟩)
 |call x p es =>
  obtain⟨_,q,fq,pl,_,oe,_,oq,oqe⟩:=ok;show Fl (match fnd ps p with|none=>s|some q=>_).out;rw[fq];refine Fl.ltv (hf q.pa q.rs g _ oq (mL _ _ (λz hz=>(oe z.2 (List.of_mem_zip hz).2).2.1) h)) (by rw[Qd];have:=oqe.2.1;omega)
theorem mM{f:List Wr->Option Str->LB->LB}{o:qB->List Wr->Prop}(hf:∀K rows g s,o K rows->Fl s.out->Fl (f rows g s).out)(g:Option Str):∀(rows:List Wr) {K:qB} (s:LB),okR pool ps o K rows->Fl s.out->Fl (JS pool ps f g rows s).out
 | [],_,_,_,h=>h
 |_::rows,_,_,⟨o1,o2⟩,h=>mM hf g rows _ o2 (wP hf g o1 h)
theorem mN:∀(d:Nat) {K:qB}{rows:List Wr} (g:Option Str) (s:LB),okD pool ps d K rows->Fl s.out->Fl (xS pool ps d rows g s).out
 |0,_,_,_,_,o,_=>o.elim
 |d+1,_,rows,g,s,o,h=>mM (o:=okD pool ps d) (λ_ _ g s o h=>mN d g s o h) g rows s o h
def wQ(h:Fl out)(l:out.length<=1000):Fine 23 (.lst (dWs out)):=Xs (n:=22) (by rw[Jj,jC];exact l) λx hx=>by
 rw[Jj]at hx;obtain⟨r,hr,rfl⟩:=jn.mp hx;have hf:=h r hr
 cases r with
 |draw y os=>exact Xd (Jk _) (Jk _) ((mI hf.1 hf.2).up 'f')
 |lett y e=>exact Xd (Jk _) (Jk _) ((Qn e).up (jv hf))
 |seen e=>exact Xu (Jk _) ((Qn e).up (jv hf))
 |ifr e a b=>exact hf.elim
 |rnd k a=>exact hf.elim
 |call y p es=>exact hf.elim
end
def wR(h:wi σ H (JQ ix te σ λx H1=>Q [x] H1)):J8 (JL ix wi Q9 te) Ja σ H Q:=h
def wS(k:∀b u,H b=some u->(∀xs,u ≠ .lst xs)->H' b=some u)(h:SqT K H a xs):SqT K H' a xs:=by
 rcases h with (h|⟨o,h⟩)|h
 . exact .inl (.inl (k _ _ h (λ_ z=>nomatch z)))
 . exact .inl (.inr ⟨o,k _ _ h (λ_ z=>nomatch z)⟩)
 . exact .inr h
def ZQ(K:qu):Sp:=λvs H Q _=>∃(a:xb) (ns:qD),vs=[.ref a]/\SqL K H a (ns.map V.int)/\ns.length<=63/\∀H',Q (.bl true) H'
theorem wT(B:Bl mg)(dQ:Def P w K mg base "_law_program" 9 ["_law_script", "_law_limit", "_law_room"] (mF K))(QC:Def P w K mg base "_law_laid" 48 ["_law_out", "_law_rows_here", "_law_before", "_law_guard", "_law_parts"] (XZ K 18))(Z5:Def P w K mg base "_law_copy" 61 ["_law_thing"] (ZN K 60))(Xb:Def P w K mg base "_law_alike" 62 ["_law_found", "_law_due"] (aH K 60))(aJ:Def2 P w K mg base "spread" 67 ["program"] (lB K 18))(F:Fun K "law" "law" Qw f fd):FnOk P w K mg base CX0 200 f fd ["_law_script"] (ZQ K):=by
 refine F.ok X1 (λvs H Q E h=>?_) (λqF A outer s H vs Q E hr h=>?_)
 . obtain⟨a,ns,rfl,_⟩:=h;rfl
 obtain⟨a,ns,rfl,hS,_,q⟩:=h
 refine⟨_,(@xu _ _ _ _ _ (xM (i:=1) X1.nd rfl 'b' (xI dQ hr rfl (@xj _ _ _ _ _ (pv 0) (@xj _ _ _ _ _ xi (@xj _ _ _ _ _ xi xk rfl) rfl) rfl)))
  (@xu _ _ _ _ _ (@Q0 _ 2 _ _ _ _ _ X1.nd rfl 'b' (@QK _ _) rfl (by first|exact .inl rfl|exact .inr rfl))
  (@xu _ _ _ _ _ (xM (i:=3) X1.nd rfl 'b' (xI QC hr rfl (@xj _ _ _ _ _ (pv 2) (@xj _ _ _ _ _ (xD (xE K rfl) (pv 1) xi (λ_ _=>rfl)) (@xj _ _ _ _ _ Zh (@xj _ _ _ _ _ xt (@xj _ _ _ _ _ (xD (xE K rfl) (pv 1) xi (λ_ _=>rfl)) xk rfl) rfl) rfl) rfl) rfl)))
  (@xu _ _ _ _ _ (@Q0 _ 4 _ _ _ _ _ X1.nd rfl 'b' (@Jq _ _ _ _ _ _ _ _ _ (@QK _ _) (pv 2) (Qa (CompOk.of (x := "_law_name") (M:=["_law_book"]) (ix:=[3]) rfl rfl (by decide +kernel) (by decide +kernel) rfl ⟨rfl,trivial⟩ 'g' ⟨⟨rfl,rfl,rfl,rfl⟩,trivial⟩) rfl (by decide +kernel) (JK (xD (xE K rfl) (pv 1) xi (λ_ _=>rfl))) (λ_ _ _ _ _=>JP) (λ_ _ _ _ _=>(xL (xG hr) (pv 1) (pv 0) (λ_ _=>rfl)))) rfl rfl rfl) rfl (by first|exact .inl rfl|exact .inr rfl))
  (@xu _ _ _ _ _ (xM (i:=5) X1.nd rfl 'b' (xI Z5 hr rfl (@xj _ _ _ _ _ (pv 1) xk rfl)))
  (@xu _ _ _ _ _ (xM (i:=6) X1.nd rfl 'b' (ij aJ hr rfl ii (@xj _ _ _ _ _ (pv 5) xk rfl)))
  (@xu _ _ _ _ _ (xO (PW.pt (aS (ZT (JC (xI Xb hr rfl (@xj _ _ _ _ _ (pv 6) (@xj _ _ _ _ _ (pv 4) xk rfl) rfl)))) (aR (ZT (JC (xI Xb hr rfl (@xj _ _ _ _ _ (pv 5) (@xj _ _ _ _ _ (pv 1) xk rfl) rfl))))))) (@xw _ _ _ (xP Qp)) xX)
  (@xu _ _ _ _ _ (Q6 PassesOwn.never rfl (JK (xD (xE K rfl) (pv 6) xi (λ_ _=>rfl))) (Ju (i:=7) X1.nd rfl 'b') (@xw _ _ _ (xO (xK Jb (xD (xE K rfl) (pv 7) xi (λ_ _=>rfl)) xt (xN _)) (@xw _ _ _ (J1 (JD PySem.F.plainAttrs_list PySem.F.slot_list_append PySem.F.type_list_append Jy (xD (xE K rfl) (pv 7) xi (λ_ _=>rfl)) (@xj _ _ _ _ _ (@xZ _ _ _ _ _ _ _ xi (@xZ _ _ _ _ _ _ _ xi xi rfl rfl) rfl rfl) xk rfl)))) xX)))
  (@xu _ _ _ _ _ (J1 (fP PySem.F.plainAttrs_list PySem.F.slot_list_clear PySem.F.type_list_clear rf (xD (xE K rfl) (pv 6) xi (λ_ _=>rfl))))
  (@xu _ _ _ _ _ (J1 (JD PySem.F.plainAttrs_list PySem.F.slot_list_append PySem.F.type_list_append Jy (xD (xE K rfl) (pv 6) xi (λ_ _=>rfl)) (@xj _ _ _ _ _ xt xk rfl)))
  (@xw _ _ _ (xP (ZU (xI Xb hr rfl (@xj _ _ _ _ _ (ij aJ hr rfl ii (@xj _ _ _ _ _ (pv 5) xk rfl)) (@xj _ _ _ _ _ (pv 4) xk rfl) rfl)) (aT (xI Xb hr rfl (@xj _ _ _ _ _ (pv 5) (@xj _ _ _ _ _ (pv 1) xk rfl) rfl)))))))))))))))),?_⟩
 have big:(100000:Nat)<sizeLine:=by decide
 refine⟨_,rfl,a,ns,rfl,hS,λH1 p pool ps pq rs as s1 dp pq12 okr ln cs sub al=>?_⟩;have fpr:=wO pq12 okr ln al;have qU:pool.length<=10:=by have:=pq12.p6;omega
 obtain⟨_,zz,e,qp,xp,_,rfl,dpp,xr,_,rfl,drr,xa,_,rfl,daa,rfl⟩:=id dp
 cases e
 obtain⟨pa,zp,rfl,_,_⟩:=id dpp;obtain⟨aa,za,rfl,qaa,daz⟩:=daa;obtain rfl:=Qv daz;dsimp only[xF,List.set,L2.J2,jR];refine⟨jS _,λlo nlo=>?_⟩;have u2:=xy nlo (.lst []);have elo:upd H1 lo (.lst []) lo=some (.lst []):=xm;generalize upd H1 lo (.lst [])=H2 at u2 elo ⊢;dsimp only[xF,List.set];refine⟨_,rfl,_,rfl,.inr (.inl ⟨p,_,1,xr,rfl,rfl,u2.tupq qp,J9,λbd nbd=>?_⟩)⟩;have u3:=xy nbd (.dK []);have ebd:upd H2 bd (.dK []) bd=some (.dK []):=xm;generalize upd H2 bd (.dK [])=H3 at u3 ebd ⊢;have u23:=u2.trans u3;have h13:Same H1 (hid [lo] H3):=λb o e=>xQ (λz=>by rw[jA.mp z,nlo]at e;cases e) (u23 _ _ e);obtain⟨U,eU⟩:∃U,U=xS pool ps 18 rs none ⟨[],bo0⟩:=⟨_,rfl⟩;have ly:=(Qc pool ps 18 [] rs none ⟨[],bo0⟩ okr dm0 (λn hn=>nomatch hn)).1;have ul:=ly.gr.len;have udm:=ly.dm;have ufl:=mN 18 none ⟨[],bo0⟩ okr (λr hr=>nomatch hr);rw[<- eU]at ul udm ufl;refine⟨_,rfl,.inr (.inl ⟨p,_,0,.ref pa,rfl,rfl,u23.tupq qp,J0,pool,[],lo,ps,⟨[],bo0⟩,rs,xr,bd,pa,[],none,rfl,⟨[],u3 _ _ elo,rfl⟩,drr.same h13,ebd,ZF _,dpp.same h13,(λs z=>nomatch z),okr,dm0,(λn hn=>nomatch hn),qU,by have:=pq12.few;omega,by show 0+_<_;omega,λnb kvs H4 x4 f4 oa4 en4 bk4=>?_⟩)⟩;rw[<- eU]at oa4 bk4;have s14:Same H1 H4:=λb o e=>x4 b o (λz=>by rw[jA.mp z,nlo]at e;cases e) (u23 _ _ e);dsimp only[xF,List.set];refine⟨jS _,λe0 ne0=>?_⟩;have u5:=xy ne0 (.lst []);have ee0:upd H4 e0 (.lst []) e0=some (.lst []):=xm;generalize upd H4 e0 (.lst [])=H5 at u5 ee0 ⊢;have s15:=s14.trans u5;have q5:SqL K H5 aa (as.map V.str):=s15.seq qaa;have go:=bT (K:=K) q5;refine⟨_,rfl,wR ?_⟩;refine⟨_,rfl,.inr (.inl ⟨p,_,2,.ref aa,rfl,rfl,s15.tupq qp,JA,aa,rfl,⟨_,q5⟩,QY (λ(_:Hp) (x:Str) v=>v=V.str x) (λ_ h=>h) _ _ (as.map U.b.at) (by rw[jC,jC]) (by rw[jC];omega) go.1 go.2 (λi x Da H' R hi ei sm nD oD hR=>?_) (λvl H6 ys s6 nvl evl prv=>?_)⟩)⟩
 . rw[jJ]at ei;obtain⟨n,en,rfl⟩:=jT.mp ei;have xn:(as.map V.str).getD i .non = .str n:=by rw[jN,jJ,en];rfl
   rw[xn];have hs:(U.b n).isSome=true:=(udm n).mpr (by rw[j0];exact sub n (jq en));have dg:=DGet.k (k := .inr n) (sm _ _ (u5 _ _ en4));rw[bk4.get hs]at dg;exact⟨_,rfl,_,rfl,nb,_,rfl,dg,hR _ _ (Same.refl _) rfl⟩
 obtain rfl:=ZH prv;refine⟨by show 3<=sizeLine;decide,λdu ndu=>?_⟩;have u7:=xy ndu (.tup [.ref e0,.ref lo,.ref vl]);have edu:upd H6 du (.tup [.ref e0,.ref lo,.ref vl]) du=some (.tup [.ref e0,.ref lo,.ref vl]):=xm;generalize upd H6 du (.tup [.ref e0,.ref lo,.ref vl])=H7 at u7 edu ⊢;have s57:=s6.trans u7;have s17:=s15.trans s57;obtain⟨DU,eDU⟩:∃DU,DU=D.tup [.lst [],.lst (dWs U.out),.lst ((as.map U.b.at).map D.str)]:=⟨_,rfl⟩
 have dDU:IsD K H7 DU (.ref du):=by
  obtain⟨yo,hyo,dyo⟩:=oa4;rw[eDU];exact⟨du,_,rfl,.of edu,_,_,rfl,⟨e0,_,rfl,.of (s57 _ _ ee0),rfl⟩,_,_,rfl,⟨lo,yo,rfl,.of (s57 _ _ (u5 _ _ hyo)),(dyo.same (xJ _ _)).same (u5.trans s57)⟩,_,_,rfl,⟨vl,_,rfl,.of (u7 _ _ evl),QQ _⟩,rfl⟩
 have fDU:Fine 40 DU:=by
  rw[eDU];exact Xd ((Xs (n:=0) (ds:=[]) 'f' (λd hd=>nomatch hd)).up 'f') ((wQ ufl (by dsimp only at ul;show U.out.length<=1000;have:([]:List Wr).length=0:=rfl;omega)).up 'f') ((dP (n:=0) (by rw[jC];omega)).up 'f')
 dsimp only[xF,List.set];refine⟨_,rfl,.ref p,dPr ps rs as,rfl,dp.same s17,fpr.1,jk fpr.2 'f',λy H8 s8 ia=>?_⟩;have dy:=ia.plain;dsimp only[xF,List.set];refine⟨_,rfl,pool,ps,rs,as,y,rfl,dy,pq12.nd,by have:=pq12.few;omega,okr,qU,by omega,sub,by omega,λfp H9 s9 sd=>?_⟩;rw[<- eU]at sd;have s79:=s8.trans s9;have s19:=s17.trans s79
 have found:∀{HH HG:Hp}{fp:xb},SprD K HH HG fp U.out (as.map U.b.at)->IsD K HG DU (.ref fp):=λsd=>by
  obtain⟨e,rl,al',yr,g1,g2,g3,g4,g5,_⟩:=sd.ex;rw[eDU];exact⟨_,_,rfl,.of g1,_,_,rfl,⟨e,_,rfl,.of g2,rfl⟩,_,_,rfl,⟨rl,yr,rfl,.of g3,g5.same (xJ _ _)⟩,_,_,rfl,⟨al',_,rfl,.of g4,QQ _⟩,rfl⟩
 have d60:(40:Nat)<60:=by decide
 dsimp only[xF,List.set];refine⟨_,rfl,_,rfl,.ref fp,.ref du,DU,rfl,fDU.1,jk fDU.2 d60,found sd,dDU.same s79,λHA sA=>⟨_,rfl,xY ?_⟩⟩;refine⟨_,rfl,_,rfl,y,.ref p,dPr ps rs as,rfl,fpr.1,jk fpr.2 d60,dy.same (s9.trans sA),dp.same (s19.trans sA),λHB sB=>⟨_,rfl,xY (nxt ?_)⟩⟩;obtain⟨ee,rl,al',yr,g1,g2,g3,g4,g5,g6,f1,f2,f3,f4,n1,n2,n3⟩:=sd.ex;have s9B:=sA.trans sB;have s8B:=s9.trans s9B;have yl:=g5.length;rw[Jj,jC]at yl;dsimp only[xF,List.set];refine⟨_,rfl,.inr (.inl ⟨fp,_,1,.ref rl,rfl,rfl,.of (s9B _ _ g1),J9,rl,rfl,⟨_,.of (s9B _ _ g3)⟩,Xf (K:=K) (xs:=yr) (λi σ H'=>∃c7,σ=[some (.ref a),some (.ref p),some (.ref lo),some (.ref nb),some (.ref du),some y,some (.ref fp),c7]/\Same H8 H'/\H' rl=some (.lst yr)/\(∀b u,HB b=some u->(∀xs,u ≠ .lst xs)->H' b=some u)/\∀b xs,HB b=some (.lst xs)->∃zs,H' b=some (.lst zs)/\zs.length<=xs.length+i) ⟨none,rfl,s8B,s9B _ _ g3,λb u e _=>e,λb xs e=>⟨xs,e,jG _⟩⟩ (λi σ H' _ h=>?_) ?_ ?_⟩)⟩
 . obtain⟨_,_,_,h,_⟩:=h;exact .of h
 . rintro i x σ H' hx ⟨c7,rfl,s8',hrl,kt,kl⟩;have hi:i < U.out.length:=by have:=(jV.mp hx).1;omega
   have g5':=g5;rw[Jj]at g5';obtain⟨y',ey,dyr⟩:=g5'.get (i:=i) (d:=dW U.out[i]) (by rw[jJ,jD hi];rfl);rw[hx]at ey;obtain rfl:=Option.some.inj ey;obtain⟨y2,ey2,rn⟩:=Yj g6 (jD hi);rw[hx]at ey2;obtain rfl:=Option.some.inj ey2;generalize U.out[i]=r at dyr rn;obtain⟨l,el⟩:=lC r;rw[el]at dyr;obtain⟨t,zz,rfl,qt,_,_,rfl,rfl,_⟩:=dyr;have qt':=wS kt (((xJ _ _).trans s9B).tupq qt);dsimp only[xF,List.set];refine⟨_,rfl,.inr (.inl ⟨t,_,0,.str r.tag,rfl,rfl,qt',J0,_,_,rfl,rfl,_,rfl,xU (λc=>?_) (λc=>nxt ⟨_,rfl,s8',hrl,kt,λb xs e=>?_⟩)⟩)⟩
   . cases r with
     |draw y3 os =>
      obtain⟨t',ol,v,xs,et,e1,e2,e3,e4,xl⟩:=rn
      cases et
      have e1':=kt _ _ (s9B _ _ e1) (λ_ z=>nomatch z);obtain⟨zs,ez,zl⟩:=kl _ _ (s9B _ _ e2);refine⟨_,rfl,.inr (.inl ⟨t,_,2,.ref ol,rfl,rfl,.of e1',JA,.inl ⟨rfl,_,.of ez⟩,by show 2<=sizeLine;decide,λp1 np1=>⟨by show 2<=sizeLine;decide,λp2 np2=>?_⟩⟩)⟩;have w:=(xy np1 (.tup [.int 1,.int 1])).trans (xy np2 (.tup [.int 77,.ref p1]));refine⟨ol,zs,.ref p2,rfl,rfl,w _ _ ez,by dsimp only at ul;have:([]:List Wr).length=0:=rfl;omega,_,rfl,λb o e=>?_,?_,λb u e nu=>?_,λb xs' e=>?_⟩
      . rw[xz (λz:b=ol=>by rw[z,e3]at e;cases e)];exact w _ _ (s8' _ _ e)
      . rw[xz (Ne.symm e4)];exact w _ _ hrl
      . rw[xz (λz:b=ol=>by rw[z,s9B _ _ e2]at e;cases e;exact nu _ rfl)];exact w _ _ (kt b u e nu)
      . obtain⟨zs',ez',zl'⟩:=kl b xs' e
        by_cases z:b=ol
        . subst z;rw[ez]at ez'
          cases ez'
          exact⟨_,xm,by rw[jY];show _+1<=_;omega⟩
        . exact⟨zs',by rw[xz z];exact w _ _ ez',by omega⟩
     |lett _ _=>exact absurd c (by show ¬(("let" : Str) = "draw");decide)
     |seen _=>exact absurd c (by show ¬(("seen" : Str) = "draw");decide)
     |ifr _ _ _=>exact absurd c (by show ¬(("if" : Str) = "draw");decide)
     |rnd _ _=>exact absurd c (by show ¬(("rounds" : Str) = "draw");decide)
     |call _ _ _=>exact absurd c (by show ¬(("call" : Str) = "draw");decide)
   . obtain⟨zs',ez',zl'⟩:=kl b xs e;exact⟨zs',ez',by omega⟩
 . rintro σ HC ⟨c7,rfl,s8C,hrl,kt,kl⟩;obtain⟨za',eza,zal⟩:=kl _ _ (s9B _ _ g4);have efp:=kt _ _ (s9B _ _ g1) (λ_ z=>nomatch z);dsimp only[xF,List.set];refine⟨_,rfl,.inr (.inl ⟨fp,_,1,.ref rl,rfl,rfl,.of efp,J9,.inl ⟨rfl,_,.of hrl⟩,rl,yr,rfl,rfl,hrl,?_⟩)⟩;have kD:∀b o,b≠rl->HC b=some o->upd HC rl (.lst []) b=some o:=λb o hb e=>by rw[xz hb];exact e
   generalize upd HC rl (.lst [])=HD at kD ⊢;have nfr:fp≠rl:=λz=>by rw[z,hrl]at efp;cases efp
   have efpD:=kD _ _ nfr efp;have ezaD:=kD _ _ n2 eza;rw[jC,jC]at zal;dsimp only[xF,List.set];refine⟨_,rfl,.inr (.inl ⟨fp,_,2,.ref al',rfl,rfl,.of efpD,JA,.inl ⟨rfl,_,.of ezaD⟩,al',za',.str "v0",rfl,rfl,ezaD,by dsimp only at ul;have:([]:List Wr).length=0:=rfl;omega,?_⟩)⟩
   have s8E:Same H8 (upd HD al' (.lst (za'++[.str "v0"]))):=λb o e=>by
    rw[xz (λz:b=al'=>by rw[z,f4]at e;cases e)];exact kD _ _ (λz=>by rw[z,f3]at e;cases e) (s8C _ _ e)
   generalize upd HD al' (.lst (za'++[.str "v0"]))=HE at s8E ⊢;have s1E:=(s17.trans s8).trans s8E;dsimp only[xF,List.set];refine⟨_,rfl,pool,ps,rs,as,y,rfl,dy.same s8E,pq12.nd,by have:=pq12.few;omega,okr,qU,by omega,sub,by omega,λfp2 HZ sZ sd2=>?_⟩;rw[<- eU]at sd2;refine⟨_,rfl,.ref fp2,.ref du,DU,rfl,fDU.1,jk fDU.2 d60,found sd2,dDU.same ((s8.trans s8E).trans sZ),λHY sY=>⟨_,rfl,Jc ?_⟩⟩;exact⟨_,rfl,_,rfl,y,.ref p,dPr ps rs as,rfl,fpr.1,jk fpr.2 d60,dy.same (s8E.trans (sZ.trans sY)),dp.same (s1E.trans (sZ.trans sY)),λHX _=>q HX⟩
def wU(B:Bl mg)(qL:Cls K qV)(mO:NoAttr K qV "parts")(ZR:NoAttr K qV "rows")(mP:NoAttr K qV "given")(wV:IFn K mg "Spreader" qV "Spreader.__init__" YM ["self", "parts"])(wW:MFn K qV "new_value" "Spreader.new_value" YN ["self"])(wX:MFn K qV "lay_let" "Spreader.lay_let" YO ["self", "e"])(wY:MFn K qV "lay_draw" "Spreader.lay_draw" YQ ["self", "outcomes"])(wZ:MFn K qV "lay_seen" "Spreader.lay_seen" YR ["self", "e", "guard"])(y0:MFn K qV "lay_if" "Spreader.lay_if" Zx ["self", "row", "book", "guard"])(y8:MFn K qV "first_guard" "Spreader.first_guard" YS ["self", "choice", "guard"])(y9:MFn K qV "second_guard" "Spreader.second_guard" YT ["self", "choice", "guard"])(ya:MFn K qV "lay_call" "Spreader.lay_call" Zy ["self", "row", "book", "guard"])(yb:MFn K qV "lay_row" "Spreader.lay_row" Zz ["self", "row", "book", "guard"])(yc:MFn K qV "lay_rows" "Spreader.lay_rows" ZA ["self", "rows", "book", "guard"])(yd:Fn K mg "renamed" Zq ["e", "book"])(ye:Fn K mg "spread" Ys ["program"])(yf:Fn K mg "_law_cell_at" Yt ["_law_script", "_law_k"])(yg:Fn K mg "_law_common" Yu ["_law_one_here", "_law_other"])(yj:Fn K mg "_law_names" Yv ["_law_cell"])(yk:Fn K mg "_law_number" Yw ["_law_state", "_law_cell"])(yn:Fn K mg "_law_single" Yx ["_law_state", "_law_cell"])(yq:Fn K mg "_law_expr" Yy ["_law_state", "_law_cell"])(yt:Fn K mg "_law_outcomes" Yz ["_law_state", "_law_cell", "_law_many"])(yu:Fn K mg "_law_new" YA ["_law_word", "_law_head", "_law_now"])(yw:Fn K mg "_law_put" YB ["_law_state", "_law_row"])(yx:Fn K mg "_law_fits" YC ["_law_state", "_law_size", "_law_many"])(yy:Fn K mg "_law_plain" YD ["_law_state", "_law_cell"])(yz:Fn K mg "_law_seen" YE ["_law_state", "_law_cell"])(yA:Fn K mg "_law_closed" YF ["_law_state"])(yB:Fn K mg "_law_one" YG ["_law_state", "_law_cell"])(yC:Fn K mg "_law_rows" YH ["_law_state", "_law_cells", "_law_now", "_law_limit", "_law_room"])(yD:Fn K mg "_law_part" YI ["_law_state", "_law_cells", "_law_k"])(yE:Fn K mg "_law_program" YJ ["_law_script", "_law_limit", "_law_room"])(yF:Fn K mg "_law_renamed" Zr ["_law_e", "_law_book"])(yG:Fn K mg "_law_value" YK ["_law_out", "_law_e"])(yH:Fn K mg "_law_under" YL ["_law_guard", "_law_e"])(yI:Fn K mg "_law_choice" Zs ["_law_out", "_law_row", "_law_book", "_law_guard", "_law_parts"])(yJ:Fn K mg "_law_called" Zt ["_law_out", "_law_row", "_law_book", "_law_guard", "_law_parts"])(yK:Fn K mg "_law_laid" Zu ["_law_out", "_law_rows_here", "_law_before", "_law_guard", "_law_parts"])(yL:Fn K mg "_law_copy" Zv ["_law_thing"])(yM:Fn K mg "_law_alike" Zw ["_law_found", "_law_due"])(F:Fun K "law" "law" Qw f fd):FnOk P w K mg base CX0 200 f fd ["_law_script"] (ZQ K):=by
 have JH:=iX (P:=P) (w:=w) (base:=base) B yd 10;have mQ:=vf (P:=P) (w:=w) (base:=base) (mg:=mg) B qL mP wW;have aK:=vg B qL ZR mQ wX;have yN:=vh B qL ZR mQ wY;have yO:=vi B qL ZR aK wZ;have yP:=vj B qL aK y8;have yQ:=vk B qL aK y9;have yR:=ld B qL mO JH aK yN yO yP yQ yc yb y0 ya 18;have cR:=wV.new (P:=P) (w:=w) (base:=base) λf fd F=>vz B qL mO ZR mP F;have aJ:=vC B qL ZR cR yR ye;have QF:=vd (P:=P) (w:=w) (base:=base) B yf;have d8:=vX (P:=P) (w:=w) (base:=base) B yg;have dJ:=wb (P:=P) (w:=w) (base:=base) B yj;have Xo:=wc (P:=P) (w:=w) (base:=base) B yk;have ZK:=wf B Xo yn;have JN:=wg B Xo ZK yq;have dB:=wj B JN yz;have QD:=wq (P:=P) (w:=w) (base:=base) B yw;have Xr:=wr (P:=P) (w:=w) (base:=base) B yu;have QE:=wt (P:=P) (w:=w) (base:=base) B yx;have dA:=wu B d8 yt;have Z3:=wC B QD yA;have dC:=wD B QD QE dA dB JN yy;have dF:=wE B JN Xr QE dC Z3 yB;have Z4:=wF B Xr dF Z3 yC;have dL:=wH B QF Z4 JN yD;have dQ:=wJ B QF dJ Z4 dL yE;have JB:=lE (P:=P) (w:=w) (base:=base) B yF 10;have Jt:=vI (P:=P) (w:=w) (base:=base) B yG;have Xn:=vL (P:=P) (w:=w) (base:=base) B yH;have QC:=lO B JB Jt Xn yK yI yJ 18;have Z5:=mH (P:=P) (w:=w) (base:=base) B yL 60;have Xb:=mG (P:=P) (w:=w) (base:=base) B yM 60;exact wT B dQ QC Z5 Xb aJ F
end
def us0{p:qA->Prop}(h:p [])(us:qA)(hl:us.length=0):p us:=match us,hl with | [],_=>h
def us1{p:qA->Prop}(h:∀a0,p [a0])(us:qA)(hl:us.length=1):p us:=match us,hl with|a0::t,hl=>us0 (p:=λt=>p (a0::t)) (h a0) t (Nat.succ.inj hl)
def us2{p:qA->Prop}(h:∀a0 a1,p [a0,a1])(us:qA)(hl:us.length=2):p us:=match us,hl with|a0::t,hl=>us1 (p:=λt=>p (a0::t)) (h a0) t (Nat.succ.inj hl)
def us3{p:qA->Prop}(h:∀a0 a1 a2,p [a0,a1,a2])(us:qA)(hl:us.length=3):p us:=match us,hl with|a0::t,hl=>us2 (p:=λt=>p (a0::t)) (h a0) t (Nat.succ.inj hl)
def us4{p:qA->Prop}(h:∀a0 a1 a2 a3,p [a0,a1,a2,a3])(us:qA)(hl:us.length=4):p us:=match us,hl with|a0::t,hl=>us3 (p:=λt=>p (a0::t)) (h a0) t (Nat.succ.inj hl)
def us5{p:qA->Prop}(h:∀a0 a1 a2 a3 a4,p [a0,a1,a2,a3,a4])(us:qA)(hl:us.length=5):p us:=match us,hl with|a0::t,hl=>us4 (p:=λt=>p (a0::t)) (h a0) t (Nat.succ.inj hl)
def FnIn(K:qu)(x:Str)(st:Stmt):Prop:=∃f fd,PySem.W.nsIn K mainGlobals x=some (some (.ref f))/\Fun K x x st f fd
def yS{K:qu}{x:Str}{st:Stmt}{f:xb}{oc:qY}{od an:Option xb}{osl:Array (qv)}{kV qX pm qF ct:qY}(a:PySem.W.nsIn K mainGlobals x=some (some (.ref f)))(l:K.lookup f=some ⟨oc,od,.func (PySem.W.fnOf x x (defArgs st) (defBody st) (defScope st) .none kV qX pm an qF ct),osl⟩)(c:PySem.W.codeIn K qF x=true)(k:PySem.W.keepIn K (.ref f)=true):FnIn K x st:=⟨f,_,a,bj l c k⟩
def FnIn.fn(H:FnIn K x st)(X:K.In h)(G:h.Ns mainGlobals mg)(hb:∀(kV qX pm:qY) (an:Option xb) (qF ct:qY) (us:qA),us.length=ps.length->bindArgs (PySem.W.fnOf x x (defArgs st) (defBody st) (defScope st) .none kV qX pm an qF ct) ⟨us,[]⟩=pure (ps.zip us)):Fn K mg x st ps:=by
 obtain⟨f,fd,a,F⟩:=H;exact⟨f,fd,F,F.binds hb,PySem.W.mg_of X G a⟩
def MtIn(K:qu)(C:xb)(m q:Str)(st:Stmt):Prop:=∃f fd,PySem.W.findIn K (.ref C) m=some (some (.ref f))/\PySem.W.isFn K (.ref f)=true/\Fun K m q st f fd
def yT{K:qu}{C:xb}{m q:Str}{st:Stmt}{f:xb}{oc:qY}{od an:Option xb}{osl:Array (qv)}{kV qX pm qF ct:qY}(a:PySem.W.findIn K (.ref C) m=some (some (.ref f)))(i:PySem.W.isFn K (.ref f)=true)(l:K.lookup f=some ⟨oc,od,.func (PySem.W.fnOf m q (defArgs st) (defBody st) (defScope st) .none kV qX pm an qF ct),osl⟩)(c:PySem.W.codeIn K qF q=true)(k:PySem.W.keepIn K (.ref f)=true):MtIn K C m q st:=⟨f,_,a,i,bj l c k⟩
def MtIn.mfn(H:MtIn K C m q st)(hb:∀(kV qX pm:qY) (an:Option xb) (qF ct:qY) (us:qA),us.length=ps.length->bindArgs (PySem.W.fnOf m q (defArgs st) (defBody st) (defScope st) .none kV qX pm an qF ct) ⟨us,[]⟩=pure (ps.zip us)):MFn K C m q st ps:=by
 obtain⟨f,fd,a,i,F⟩:=H;exact⟨f,fd,F,⟨a,i,F.kp⟩,F.binds hb⟩
def MtIn.ifn(H:MtIn K C "__init__" q st)(nm:mg x=some (.ref C))(mk:PySem.W.makesIn K C=true)(kc:PySem.W.keepIn K (.ref C)=true)(hb:∀(kV qX pm:qY) (an:Option xb) (qF ct:qY) (us:qA),us.length=ps.length->bindArgs (PySem.W.fnOf "__init__" q (defArgs st) (defBody st) (defScope st) .none kV qX pm an qF ct) ⟨us,[]⟩=pure (ps.zip us)):IFn K mg x C q st ps:=by
 obtain⟨f,fd,a,i,F⟩:=H;exact⟨nm,f,fd,F,⟨mk,a,i,kc⟩,F.binds hb⟩
def yU{l:PySem.W.OpenLaw}{mg:qm}(X:K.In h)(G:h.Ns mainGlobals mg)(hfa:mg "law" = some (.ref fa))
 {od27 an27:Option xb}{sl27:Array (qv)}
 (H0:FnIn K "renamed" Zq)
 (H1:FnIn K "spread" Ys)
 (H2:FnIn K "_law_cell_at" Yt)
 (H3:FnIn K "_law_common" Yu)
 (H4:FnIn K "_law_names" Yv)
 (H5:FnIn K "_law_number" Yw)
 (H6:FnIn K "_law_single" Yx)
 (H7:FnIn K "_law_expr" Yy)
 (H8:FnIn K "_law_outcomes" Yz)
 (H9:FnIn K "_law_new" YA)
 (H10:FnIn K "_law_put" YB)
 (H11:FnIn K "_law_fits" YC)
 (H12:FnIn K "_law_plain" YD)
 (H13:FnIn K "_law_seen" YE)
 (H14:FnIn K "_law_closed" YF)
 (H15:FnIn K "_law_one" YG)
 (H16:FnIn K "_law_rows" YH)
 (H17:FnIn K "_law_part" YI)
 (H18:FnIn K "_law_program" YJ)
 (H19:FnIn K "_law_renamed" Zr)
 (H20:FnIn K "_law_value" YK)
 (H21:FnIn K "_law_under" YL)
 (H22:FnIn K "_law_choice" Zs)
 (H23:FnIn K "_law_called" Zt)
 (H24:FnIn K "_law_laid" Zu)
 (H25:FnIn K "_law_copy" Zv)
 (H26:FnIn K "_law_alike" Zw)
 (a27:PySem.W.nsIn K mainGlobals "law" = some (some (.ref f27))) (l27:K.lookup f27=some ⟨oc27,od27,.func (PySem.W.fnOf "law" "law" (defArgs Qw) (defBody Qw) (defScope Qw) .none kV27 dc27 pm27 an27 cd27 ct27),sl27⟩) (c27:PySem.W.codeIn K cd27 "law" = true) (k27:PySem.W.keepIn K (.ref f27)=true)
 (Q_j0:MtIn K qV "__init__" "Spreader.__init__" YM)
 (Q_j1:MtIn K qV "new_value" "Spreader.new_value" YN)
 (Q_j2:MtIn K qV "lay_let" "Spreader.lay_let" YO)
 (Q_j3:MtIn K qV "lay_draw" "Spreader.lay_draw" YQ)
 (Q_j4:MtIn K qV "lay_seen" "Spreader.lay_seen" YR)
 (Q_j5:MtIn K qV "lay_if" "Spreader.lay_if" Zx)
 (Q_j6:MtIn K qV "first_guard" "Spreader.first_guard" YS)
 (Q_j7:MtIn K qV "second_guard" "Spreader.second_guard" YT)
 (Q_j8:MtIn K qV "lay_call" "Spreader.lay_call" Zy)
 (Q_j9:MtIn K qV "lay_row" "Spreader.lay_row" Zz)
 (Q_j10:MtIn K qV "lay_rows" "Spreader.lay_rows" ZA)
 (oa_Spreader:PySem.W.nsIn K mainGlobals "Spreader" = some (some (.ref qV))) (pg_Spreader:PySem.W.plainGet K qV Str.empty=true) (hd_Spreader:PySem.W.hasDictIn K qV=true) (po_Spreader:PySem.W.plainOver K qV=true) (os_Spreader:PySem.W.findIn K (.ref qV) "__setattr__" = some (some (.builtin "object.__setattr__"))) (mk_Spreader:PySem.W.makesIn K qV=true) (kc_Spreader:PySem.W.keepIn K (.ref qV)=true)
 (of_j0_parts:PySem.W.findIn K (.ref qV) "parts" = some none)
 (of_j0_rows:PySem.W.findIn K (.ref qV) "rows" = some none)
 (of_j0_given:PySem.W.findIn K (.ref qV) "given" = some none)
 (z_bool:PySem.W.nsIn K mainGlobals "bool" = some none)
 (z_dict:PySem.W.nsIn K mainGlobals "dict" = some none)
 (z_int:PySem.W.nsIn K mainGlobals "int" = some none)
 (z_isinstance:PySem.W.nsIn K mainGlobals "isinstance" = some none)
 (z_len:PySem.W.nsIn K mainGlobals "len" = some none)
 (z_list:PySem.W.nsIn K mainGlobals "list" = some none)
 (z_max:PySem.W.nsIn K mainGlobals "max" = some none)
 (z_range:PySem.W.nsIn K mainGlobals "range" = some none)
 (z_set:PySem.W.nsIn K mainGlobals "set" = some none)
 (z_sorted:PySem.W.nsIn K mainGlobals "sorted" = some none)
 (z_str:PySem.W.nsIn K mainGlobals "str" = some none)
 (z_sum:PySem.W.nsIn K mainGlobals "sum" = some none)
 (z_tuple:PySem.W.nsIn K mainGlobals "tuple" = some none)
 (z_zip:PySem.W.nsIn K mainGlobals "zip" = some none)
 : ∃fd:FuncData,(∀(s:qZ) (v:qY),BindsTo s fd ⟨[v],[]⟩ [("_law_script",v)])/\∀base:Heap,K.In base->base.Ns mainGlobals mg->FnOk l.prog w K mg base CX0 200 fa fd ["_law_script"] (ZQ K):=by
 have e:=hfa.symm.trans (PySem.W.mg_of X G a27)
 cases e
 have B:Bl mg:=⟨PySem.W.mg_none_of X G z_bool,PySem.W.mg_none_of X G z_dict,PySem.W.mg_none_of X G z_int,PySem.W.mg_none_of X G z_isinstance,PySem.W.mg_none_of X G z_len,PySem.W.mg_none_of X G z_list,PySem.W.mg_none_of X G z_max,PySem.W.mg_none_of X G z_range,PySem.W.mg_none_of X G z_set,PySem.W.mg_none_of X G z_sorted,PySem.W.mg_none_of X G z_str,PySem.W.mg_none_of X G z_sum,PySem.W.mg_none_of X G z_tuple,PySem.W.mg_none_of X G z_zip⟩;have F27:=bj (st:=Qw) l27 c27 k27;refine⟨PySem.W.fnOf "law" "law" (defArgs Qw) (defBody Qw) (defScope Qw) .none kV27 dc27 pm27 an27 cd27 ct27,λs v => .of_eq rfl,λbase _ _=>?_⟩;exact wU (P:=l.prog) (w:=w) (base:=base) B ⟨pg_Spreader,hd_Spreader,po_Spreader,os_Spreader⟩ of_j0_parts of_j0_rows of_j0_given (Q_j0.ifn (PySem.W.mg_of X G oa_Spreader) mk_Spreader kc_Spreader (λ_ _ _ _ _ _=>us2 λ_ _=>rfl)) (Q_j1.mfn (λ_ _ _ _ _ _=>us1 λ_=>rfl)) (Q_j2.mfn (λ_ _ _ _ _ _=>us2 λ_ _=>rfl)) (Q_j3.mfn (λ_ _ _ _ _ _=>us2 λ_ _=>rfl)) (Q_j4.mfn (λ_ _ _ _ _ _=>us3 λ_ _ _=>rfl)) (Q_j5.mfn (λ_ _ _ _ _ _=>us4 λ_ _ _ _=>rfl)) (Q_j6.mfn (λ_ _ _ _ _ _=>us3 λ_ _ _=>rfl)) (Q_j7.mfn (λ_ _ _ _ _ _=>us3 λ_ _ _=>rfl)) (Q_j8.mfn (λ_ _ _ _ _ _=>us4 λ_ _ _ _=>rfl)) (Q_j9.mfn (λ_ _ _ _ _ _=>us4 λ_ _ _ _=>rfl)) (Q_j10.mfn (λ_ _ _ _ _ _=>us4 λ_ _ _ _=>rfl)) (H0.fn X G (λ_ _ _ _ _ _=>us2 λ_ _=>rfl)) (H1.fn X G (λ_ _ _ _ _ _=>us1 λ_=>rfl)) (H2.fn X G (λ_ _ _ _ _ _=>us2 λ_ _=>rfl)) (H3.fn X G (λ_ _ _ _ _ _=>us2 λ_ _=>rfl)) (H4.fn X G (λ_ _ _ _ _ _=>us1 λ_=>rfl)) (H5.fn X G (λ_ _ _ _ _ _=>us2 λ_ _=>rfl)) (H6.fn X G (λ_ _ _ _ _ _=>us2 λ_ _=>rfl)) (H7.fn X G (λ_ _ _ _ _ _=>us2 λ_ _=>rfl)) (H8.fn X G (λ_ _ _ _ _ _=>us3 λ_ _ _=>rfl)) (H9.fn X G (λ_ _ _ _ _ _=>us3 λ_ _ _=>rfl)) (H10.fn X G (λ_ _ _ _ _ _=>us2 λ_ _=>rfl)) (H11.fn X G (λ_ _ _ _ _ _=>us3 λ_ _ _=>rfl)) (H12.fn X G (λ_ _ _ _ _ _=>us2 λ_ _=>rfl)) (H13.fn X G (λ_ _ _ _ _ _=>us2 λ_ _=>rfl)) (H14.fn X G (λ_ _ _ _ _ _=>us1 λ_=>rfl)) (H15.fn X G (λ_ _ _ _ _ _=>us2 λ_ _=>rfl)) (H16.fn X G (λ_ _ _ _ _ _=>us5 λ_ _ _ _ _=>rfl)) (H17.fn X G (λ_ _ _ _ _ _=>us3 λ_ _ _=>rfl)) (H18.fn X G (λ_ _ _ _ _ _=>us3 λ_ _ _=>rfl)) (H19.fn X G (λ_ _ _ _ _ _=>us2 λ_ _=>rfl)) (H20.fn X G (λ_ _ _ _ _ _=>us2 λ_ _=>rfl)) (H21.fn X G (λ_ _ _ _ _ _=>us2 λ_ _=>rfl)) (H22.fn X G (λ_ _ _ _ _ _=>us5 λ_ _ _ _ _=>rfl)) (H23.fn X G (λ_ _ _ _ _ _=>us5 λ_ _ _ _ _=>rfl)) (H24.fn X G (λ_ _ _ _ _ _=>us5 λ_ _ _ _ _=>rfl)) (H25.fn X G (λ_ _ _ _ _ _=>us1 λ_=>rfl)) (H26.fn X G (λ_ _ _ _ _ _=>us2 λ_ _=>rfl)) F27
def yV{l:PySem.W.OpenLaw}{loose:qB}{XP:(qm)->Heap->Prop}{YP:xh->Heap->Prop}{d:DefRec}{K:Params->qu}(hn:l.most=some 63)(hdf:d.params.defaults=[])
 (hY:∀(w:xh) (h:Heap),YP w h->(K w.params).In h)
 (F:∀(w:xh) (mg:qm) (fa:xb) (h:Heap),(K w.params).In h->h.Ns mainGlobals mg->mg d.name=some (.ref fa) ->
  ∃fd:FuncData,(∀(s:qZ) (u:qY),BindsTo s fd ⟨[u],[]⟩ [("_law_script",u)])/\∀base:Heap,(K w.params).In base->base.Ns mainGlobals mg->FnOk l.prog w (K w.params) mg base CX0 200 fa fd ["_law_script"] (ZQ (K w.params))) :
 PySem.W.WalkO q loose XP YP l.row.toRowW d [] (λf vs=>PySem.call f vs) :=
 L2.rq (n:=63) (k:=200) (x := "_law_script") (CX:=λ_=>CX0) (sp:=λw=>ZQ (K w.params)) hn 'f' hdf ⟨rfl,by decide,by decide⟩ hY F (λ_ _ a ns hl _ hS=>⟨a,ns,rfl,hS,hl,λ_=>rfl⟩) λ_ _ _ _ _ z=>z
end Fd
open PySem PySem.W PyProof.Rows
local macro_rules | `(tactic| o_head $H:term) => `(tactic| (refine holds_open (q := FdE.viewQ) (loose := []) (Xt := fun s => xlAt FdE.viewQ [] s && recOk (RowW.records (OpenRow.toRowW (OpenLaw.row PySem.Challenge.rw_fairdraw_k32_laid_out))) s) (XP := XL FdE.viewQ []) (Yf := Hook.obs $H) (Ya := Hook.val $H) (YP := Hook.says $H) (N := 2928) ?_ (Hook.of $H) (Hook.keeps $H) (fun s e => xl_of s (Bool.and_eq_true_iff.mp e).1) XL.keeps (by rfl) (by rfl) (by rfl) (fun s e => recFacts_of (Bool.and_eq_true_iff.mp e).2) (by rfl) (by first | assumption | decide +kernel) (by decide +kernel) ⟨rfl, rfl, rfl, rfl, rfl, by decide +kernel⟩ ?_ ?_))
set_option maxRecDepth 100000 in
set_option maxHeartbeats 0 in
theorem PySem.Challenge.cw_fairdraw_k32_laid_out_holds : PySem.Challenge.rw_fairdraw_k32_laid_out.Holds := by
 w_on;refine holds_law (by as_aux_lemma=>(rw[PySem.W.Fast.te9446332074065402090];kernel_rfl)) λsaid=>?_;o_head (kHook FdE.pre.heap_1 ((FdE.pre.heap_1 FdE.P0).map (·.1)) (λ_=>by kernel_rfl))
 . exact FdE.left
 . w_witness2
 k_fill
 refine Fd.yV (l:=PySem.Challenge.rw_fairdraw_k32_laid_out) rfl rfl (λw h Y=>PySem.W.kIn_of Y) ?F
 case F =>
  intro w mg fa h KX G hmg
  refine' Fd.yU KX G hmg ?H0 ?H1 ?H2 ?H3 ?H4 ?H5 ?H6 ?H7 ?H8 ?H9 ?H10 ?H11 ?H12 ?H13 ?H14 ?H15 ?H16 ?H17 ?H18 ?H19 ?H20 ?H21 ?H22 ?H23 ?H24 ?H25 ?H26 ?a27 ?l27 ?c27 ?k27           ?Q_j0 ?Q_j1 ?Q_j2 ?Q_j3 ?Q_j4 ?Q_j5 ?Q_j6 ?Q_j7 ?Q_j8 ?Q_j9 ?Q_j10  ?oa_Spreader ?pg_Spreader ?hd_Spreader ?po_Spreader ?os_Spreader ?mk_Spreader ?kc_Spreader ?of_j0_parts ?of_j0_rows ?of_j0_given ?z_bool ?z_dict ?z_int ?z_isinstance ?z_len ?z_list ?z_max ?z_range ?z_set ?z_sorted ?z_str ?z_sum ?z_tuple ?z_zip
  (case H0|H1|H2|H3|H4|H5|H6|H7|H8|H9|H10|H11|H12|H13|H14|H15|H16|H17|H18|H19|H20|H21|H22|H23|H24|H25|H26=>refine' Fd.yS ?a ?l ?c ?k;(case a=>k_is);(case l=>k_is);(case c=>k_is);(case k=>k_is))
  (case a27=>k_is);(case l27=>k_is);(case c27=>k_is);(case k27=>k_is)
  (case oa_Spreader=>k_is)
  (case Q_j0|Q_j1|Q_j2|Q_j3|Q_j4|Q_j5|Q_j6|Q_j7|Q_j8|Q_j9|Q_j10=>refine' Fd.yT ?a ?i ?l ?c ?k;(case a=>k_is);(case i=>k_is);(case l=>k_is);(case c=>k_is);(case k=>k_is))
  (case pg_Spreader|hd_Spreader|po_Spreader|os_Spreader|mk_Spreader|kc_Spreader|of_j0_parts|of_j0_rows|of_j0_given=>k_is)
  (case z_bool|z_dict|z_int|z_isinstance|z_len|z_list|z_max|z_range|z_set|z_sorted|z_str|z_sum|z_tuple|z_zip=>k_is)
