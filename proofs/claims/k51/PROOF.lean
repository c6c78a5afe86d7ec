import PyProof.Rows.All
import Wide.All
import OpenK.AllK
import Wide.FinOn
import Lean
import PyProof.EqAt
import PyProof.EqKinds
import PyProof.TupleCall
import PyProof.NeKinds
import KE.KSortTup
import KE.KItemsList
import KE.KDictSum
import KE.KTryMore
import KE.KRevIter
import PyProof.SetKind
import PyProof.Rows.SetFrom
import KE.KDictLaws
import PyProof.DictUpdate
import PyProof.MinMaxWalk
import PyProof.WalkInts
import KE.KDictOf
import PyProof.EnumFor
import PyProof.EnumStmt
import PyProof.EnumMake
import PyProof.Rows.EnumRows
import PyProof.Rows.FactsT2
import PyProof.P3Eq
import PyProof.DictRoadsH
import PyProof.FactsAll.NoneType
import PyProof.ZipIter
import KE.KPairComp
import PyProof.TupleOfSeq
import PySem.Challenge.RW_fairdraw_k51_rows_walked
local macro_rules
|`('g')=>`($(Lean.mkIdent `s.heap.objs.size))
|`('h')=>`($(Lean.mkIdent `xs.length))
|`('i')=>`($(Lean.mkIdent `s.heap.get?))
set_option maxHeartbeats 4000000
local macro_rules
|`('a')=>`(by first | exact Or.inl rfl | exact Or.inr rfl)
|`('b')=>`(⟨rfl,rfl,rfl,by decide +kernel,rfl,by decide +kernel,by decide +kernel⟩)
|`('c')=>`(by first|lia|omega)
|`('d')=>`(by decide)
|`('e')=>`(by rfl)
|`('f')=>`(by simp)
local macro_rules|`(tactic|omega)=>`(tactic|lia)
def q8:=@PySem.wpAny_bind
def qf:=@PySem.wpAny_pure
def qg:=@if_neg
def qh:=@if_pos
def qi:=@decide_eq_true
def qj:=@decide_eq_false
def qk:=@PySem.wpAny_field
def qm:=@of_decide_eq_true
def qq:=@PySem.wpAny_mono
def qu:=@PySem.wpAny_newObj_type
def qD:=@PySem.wpAny_callSpecial?_slot
def qE:=@PySem.wpAny_call_entry
def qF:=@PySem.wpAny_holding
def qG:=@congrArg
def qH:=@PySem.sizeLine_eq
def qI:=@PySem.wpAny_Call_Name_kw
def qJ:=@PySem.wpAny_setField_rec
def qK:=@PySem.wpAny_seqItems
def qL:=@PySem.codeAny_builtin
def qM:=@PySem.wpAny_dictEntries
def qN:=@PySem.plainId_quiet
def qO:=@PySem.wpAny_typeNameOfWhole_itemiter
def qP:=@if_false
def qQ:=@PySem.lookup_relabel_local
def qR:=@PySem.wpAny_setField
def qS:=@PySem.wpAny_typeNameOfWhole_keyiter
def qU:=@PySem.wpAny_updateSeq
def qV:=@PySem.wpAny_notOrdered_dict
def qW:=@PySem.wpAny_passesOwn
def qX:=@PySem.wpAny_dictEpoch
def qY:=@PySem.wpAny_typeOf
def qZ:=@PySem.wpAny_rule
def x5:=@PySem.wpAny_isInstance
def x8:=@PySem.wpAny_Call_method0_late
def x9:=@or_false
def xa:=@PySem.wpAny_execs_nil
def xb:=@PySem.wpAny_specialOf
abbrev xc:=PySem.Value->PySem.Shared->Prop
abbrev xf:=PySem.Str->Option PySem.Value
abbrev xg:=List (PySem.Addr×PySem.Obj)
abbrev xh:=PySem.W.Frag
abbrev xj:=Option PySem.Value
abbrev xk:=Array PySem.Value
abbrev xm:=List PySem.Value
abbrev xp:=List PySem.Str
abbrev xq:=List Nat
abbrev xr:=List Int
abbrev xQ:=PySem.Value
abbrev xR:=PySem.Shared
abbrev xS:=PySem.Addr
abbrev xT:=PySem.Program
abbrev xU:=PySem.World
abbrev xV:=PySem.Around
def jA:=@List.length_map
def jB:=@List.getElem?_eq_getElem
def jC:=@PySem.Heap.get?_push_of_some
def jD:=@List.getElem?_map
def jE:=@Nat.le_refl
def jF:=@List.getElem?_eq_some_iff
def jG:=@List.mem_map
def jH:=@PySem.Heap.get?_push_size
def jI:=@PySem.Heap.lt_size
def jJ:=@List.mem_cons
def jK:=@List.size_toArray
def jL:=@List.getD_eq_getElem?_getD
def jM:=@List.map_cons
def jN:=@List.mem_cons_of_mem
def jO:=@List.mem_cons_self
def jP:=@List.mem_singleton
def jQ:=@Nat.ne_of_lt
def jR:=@Bool.false_ne_true
def jS:=@Nat.lt_of_lt_of_le
def jT:=@Nat.zero_le
def jU:=@List.length_append
def jV:=@List.length_cons
def jW:=@List.length_take
def jX:=@List.getElem_mem
def jY:=@List.mem_append_right
def jZ:=@List.mem_of_getElem?
def ja:=@List.take_succ_eq_append_getElem
def jb:=@List.map_map
def jc:=@PySem.Heap.get?_update_other
def jd:=@Nat.lt_of_le_of_lt
def je:=@List.mem_append
def jf:=@Option.map_eq_some_iff
def jg:=@Nat.le_trans
def jh:=@List.map_append
def ji:=@List.map_congr_left
def jj:=@List.mem_of_mem_take
def jk:=@List.append_nil
def jl:=@Array.getElem?_eq_getElem
def jm:=@List.nodup_cons
def jn:=@PySem.Heap.get?_update_self
def jo:=@Nat.ne_of_gt
def jp:=@List.nodup_nil
def jq:=@List.pairwise_map
def jr:=@List.take_length
def js:=@Array.length_toList
def jt:=@Option.isSome_iff_exists
def ju:=@Nat.pow_le_pow_right
def jv:=@List.find?_cons
def jw:=@List.mem_append_left
def jx:=@List.idxOf_lt_length_iff
def jy:=@List.not_mem_nil
def jz:=@List.append_assoc
def j3:=@List.getElem?_append_right
def j4:=@List.take_of_length_le
def j5:=@Nat.mul_le_mul_right
def j6:=@Bool.false_eq_true
def j7:=@Rat.num_divInt_den
def j8:=@PySem.Heap.size_push
def j9:=@List.getElem_map
def kA:=@Nat.lt_irrefl
def kB:=@List.any_eq_true
def kC:=@Int.toNat_natCast
def kD:=@List.nodup_append
def kE:=@Int.emod_lt_of_pos
def kF:=@List.length_nil
def kG:=@Nat.le_of_lt
def kH:=@Bool.and_eq_true
def kI:=@List.take_append_drop
def kJ:=@Int.mul_fdiv_cancel_left
def kK:=@List.pairwise_cons
def kL:=@List.cons_append
def kN:=@List.getElem?_cons_succ
def kO:=@List.length_eq_zero_iff
def kP:=@List.length_range
def kQ:=@List.foldl_append
def kR:=@List.mem_filter
def kS:=@Int.emod_nonneg
def kT:=@List.nil_append
def kU:=@List.getElem?_append_left
def kW:=@List.drop_eq_getElem_cons
def kX:=@List.ext_getElem
def kY:=@List.drop_eq_nil_of_le
def kZ:=@Int.ediv_eq_of_eq_mul_right
def kh:=@List.mem_range
def ki:=@List.getElem_idxOf
def kj:=@List.take_succ
def kq:=@Int.natAbs_natCast
def ku:=@Bool.beq_eq_decide_eq
def k7:=@List.getElem?_eq_none
def qA:=@List.forIn_cons
def qB:=@Int.mul_pos
def qC:=@List.any_cons
set_option autoImplicit true
set_option Elab.async false
set_option linter.all false
set_option maxRecDepth 100000
namespace FdE
open PySem PySem.W PySem.Calls PyProof.Rows
def ll{p q:xT}{loose:xp}{Xt:xR->Bool}{α:Type}{Yf:xR->α}{Ya:xU->α}{N:Nat}(e:opening p=plainProg p.main.scope.names)(hN:Nat.ble 600 N=true)(f:∀s,fenceModules? p s=some s)
 (h:∀(w:xU) (os:OsState),(topRun treeTable p w 11 (some (.ref 6)) N ⟨boot_heap w.params,Array.mk [],boot_drawn,boot_toks,os⟩ (topStub p)).map (λs =>
  ((staticsOk (importedModules p.main.body) (boot_heap w.params) s.heap&&namesBound p s.heap&&gensDone s&&laidKept (boot_heap w.params) s.heap),openSeen q loose (importedModules p.main.body) Xt true s,Yf s))=some (true,openGood q loose,Ya w)):LeftO p q loose Xt Yf Ya N:=λw=>by
 obtain⟨⟨hp,gs,d,k,os⟩,e1,e2⟩:=jf.mp (boot_open e hN f w);simp only[Prod.mk.injEq]at e2;obtain⟨rfl,rfl,rfl,rfl⟩:=e2;have size:((boot_heap w.params).isNs mainGlobals&&(Array.mk ([]:List GenState)).size==0)=true/\(boot_heap w.params).objs.size=11/\(boot_heap w.params).nsMap mainGlobals "__annotations__" = some (.ref 6):=⟨by kernel_rfl,by kernel_rfl,by kernel_rfl⟩;obtain⟨z1,z2,z3⟩:=size;obtain⟨s,r,l⟩:=jf.mp (h w os);simp only[Prod.mk.injEq]at l;obtain⟨l1,l2,l3⟩:=l
 have t:topFrom treeTable p w N ⟨boot_heap w.params,Array.mk [],boot_drawn,boot_toks,os⟩=some s:=by
  unfold topFrom;dsimp only;rw[z1,z2,z3,r];show(match staticsOk (importedModules p.main.body) (boot_heap w.params) s.heap&&namesBound p s.heap&&gensDone s&&laidKept (boot_heap w.params) s.heap with|true=>_|false=>_)=_;rw[l1]
 unfold openEnds;rw[e1];show(topFrom treeTable p w N _).map _=_;rw[t];exact qG some (Prod.ext l2 l3)
abbrev lq (p q : xT) (loose : List Str) (Xt : xR -> Bool) {α : Type} (Yf : xR -> α) (Ya : xU -> α) (N : Nat) (w : xU) (os : OsState) : Prop := (topRun treeTable p w 11 (some (.ref 6)) N ⟨boot_heap w.params, Array.mk [], boot_drawn, boot_toks, os⟩ (topStub p)).map (fun s =>
      ((staticsOk (importedModules p.main.body) (boot_heap w.params) s.heap&&namesBound p s.heap&&gensDone s&&laidKept (boot_heap w.params) s.heap),openSeen q loose (importedModules p.main.body) Xt true s,Yf s))=some (true,openGood q loose,Ya w)
abbrev dL(p:xT)(N:Nat)(w:xU)(os:OsState):Prop:=(topRun treeTable p w 11 (some (.ref 6)) N ⟨boot_heap w.params,Array.mk [],boot_drawn,boot_toks,os⟩ (topStub p)).map (λs=>staticsOk (importedModules p.main.body) (boot_heap w.params) s.heap&&namesBound p s.heap&&gensDone s&&laidKept (boot_heap w.params) s.heap)=some true
abbrev dM(p q:xT)(loose:xp)(Xt:xR->Bool)(N:Nat)(w:xU)(os:OsState):Prop:=(topRun treeTable p w 11 (some (.ref 6)) N ⟨boot_heap w.params,Array.mk [],boot_drawn,boot_toks,os⟩ (topStub p)).map (λs=>openSeen q loose (importedModules p.main.body) Xt true s)=some (openGood q loose)
abbrev dN(p:xT){α:Type}(Yf:xR->α)(Ya:xU->α)(N:Nat)(w:xU)(os:OsState):Prop:=(topRun treeTable p w 11 (some (.ref 6)) N ⟨boot_heap w.params,Array.mk [],boot_drawn,boot_toks,os⟩ (topStub p)).map (λs=>Yf s)=some (Ya w)
def ur{p q:xT}{loose:xp}{Xt:xR->Bool}{α:Type}{Yf:xR->α}{Ya:xU->α}{N:Nat}{w:xU}{os:OsState}(h1:dL p N w os)(h2:dM p q loose Xt N w os)(h3:dN p Yf Ya N w os):lq p q loose Xt Yf Ya N w os:=by
 unfold lq;unfold dL at h1;unfold dM at h2;unfold dN at h3;obtain⟨s,r,l1⟩:=jf.mp h1;obtain⟨s2,r2,l2⟩:=jf.mp h2;obtain⟨s3,r3,l3⟩:=jf.mp h3;rw[r]at r2 r3
 cases r2;cases r3
 rw[r];show some (_,_,_)=some _;rw[l1,l2,l3]
noncomputable def dO(st:SharedT->Thread->Option (SharedT×Thread))(ok:Thread->Bool):Nat->SharedT->Thread->Option SharedT :=
 @Nat.rec (λ_=>SharedT->Thread->Option SharedT) (λ_ _=>none) (λ_ ih s t =>
  @Bool.rec (λ_=>Option SharedT) (@Bool.rec (λ_=>Option SharedT) none (@Option.rec (SharedT×Thread) (λ_=>Option SharedT) none (λr=>ih r.1 r.2) (st s t)) (ok t)) (some s) (through t))
theorem lr{tb:String->Option Builtin}{p:xT}{w:xU}{n₀:Nat}{ann:xj}:∀{n:Nat}{s s':SharedT}{t:Thread},dO (stepT (denote tb) p w) (stepOk n₀ ann) n s t=some s'->topRun tb p w n₀ ann n s.abs t=some s'.abs
 |0,_,_,_,h=>by cases h
 |n+1,s,s',t,h=>by
  have h:@Bool.rec (λ_=>Option SharedT) (@Bool.rec (λ_=>Option SharedT) none (@Option.rec (SharedT×Thread) (λ_=>Option SharedT) none (λr=>dO (stepT (denote tb) p w) (stepOk n₀ ann) n r.1 r.2) (stepT (denote tb) p w s t)) (stepOk n₀ ann t)) (some s) (through t)=some s':=h;unfold topRun
  cases he:through t with
  |true=>rw[he]at h;cases h;rfl
  |false =>
   rw[he]at h
   cases hk:stepOk n₀ ann t with
   |false=>rw[hk]at h;cases h
   |true =>
    rw[hk]at h
    cases hs:stepT (denote tb) p w s t with
    |none=>rw[hs]at h;cases h
    |some r=>obtain⟨s₂,t₂⟩:=r;rw[hs]at h;rw[stepT_spec hs];exact lr h
noncomputable def ut(P:Params):BT := .node (boot_o_0 P) (.node (boot_o_1 P) (.node (boot_o_3 P) (.node (boot_o_7 P) .nil .nil) .nil) (.node (boot_o_5 P) (.node (boot_o_9 P) .nil .nil) .nil)) (.node (boot_o_2 P) (.node (boot_o_4 P) (.node (boot_o_8 P) .nil .nil) .nil) (.node (boot_o_6 P) (.node (boot_o_10 P) .nil .nil) .nil))
noncomputable def ls(w:xU)(os:OsState):SharedT:=⟨ut w.params,11,(boot_heap w.params).life,Array.mk [],boot_drawn,boot_toks,os⟩
def uv(w:xU)(os:OsState):(ls w os).abs=⟨boot_heap w.params,Array.mk [],boot_drawn,boot_toks,os⟩:=rfl
def dP{p:xT}{α:Type}{f:xR->α}{a:α}{N:Nat}{w:xU}{os:OsState}(h:(dO (stepT (denote treeTable) p w) (stepOk 11 (some (.ref 6))) N (ls w os) (topStub p)).map (λs=>f s.abs)=some a):(topRun treeTable p w 11 (some (.ref 6)) N ⟨boot_heap w.params,Array.mk [],boot_drawn,boot_toks,os⟩ (topStub p)).map f=some a:=by
 obtain⟨s,r,l⟩:=jf.mp h;rw[<- uv,lr r];exact qG some l
end FdE
namespace FdE
open PySem
def top(i:Nat):Stmt:=PySem.Challenge.pw_fairdraw_k51_rows_walked.main.body.getD i (.Pass ⟨0,0,0,0⟩)
end FdE
section FdEarly
open PySem PySem.W PyProof.Rows
def FdE.viewQ:xT:={ PySem.Challenge.pw_fairdraw_k51_rows_walked with main:={ PySem.Challenge.pw_fairdraw_k51_rows_walked.main with body:=[FdE.top 1,FdE.top 2,FdE.top 3,FdE.top 4,FdE.top 6,FdE.top 7,FdE.top 8,FdE.top 9,FdE.top 10,FdE.top 11,FdE.top 12,FdE.top 14,FdE.top 16,FdE.top 17,FdE.top 18,FdE.top 19,FdE.top 21,FdE.top 22,FdE.top 23,FdE.top 24,FdE.top 26,FdE.top 27,FdE.top 28,FdE.top 32,FdE.top 33,FdE.top 34,FdE.top 35,FdE.top 36,FdE.top 37,FdE.top 38,FdE.top 39,FdE.top 40,FdE.top 41,FdE.top 42,FdE.top 43,FdE.top 44,FdE.top 45,FdE.top 46,FdE.top 47,FdE.top 48] } }
local macro_rules | `(tactic| o_head $H:term) => `(tactic| (refine holds_open (q := FdE.viewQ) (loose := ["states", "walked"]) (Xt := fun s => xlAt FdE.viewQ [] s && recOk (RowW.records (OpenRow.toRowW (OpenLaw.row PySem.Challenge.rw_fairdraw_k51_rows_walked))) s) (XP := XL FdE.viewQ []) (Yf := Hook.obs $H) (Ya := Hook.val $H) (YP := Hook.says $H) (N := 6378) ?_ (Hook.of $H) (Hook.keeps $H) (fun s e => xl_of s (Bool.and_eq_true_iff.mp e).1) XL.keeps (by rfl) (by rfl) (by rfl) (fun s e => recFacts_of (Bool.and_eq_true_iff.mp e).2) (by rfl) (by first | assumption | decide +kernel) (by decide +kernel) ⟨rfl, rfl, rfl, rfl, rfl, by decide +kernel⟩ ?_ ?_))
def FdE.P0:PySem.Params:={ strHash:=λ_=>0,shareClass:=λ_=>0,mergeTok:=λt=>t,idOf:=λ_=>0,idOfShared:=λ_ _=>0,followText:=λ_=>false,idOfImm:=λ_=>0 }
set_option maxHeartbeats 0 in
theorem FdE.pre(h:False):PySem.Challenge.rw_fairdraw_k51_rows_walked.Holds:=by
 w_on;refine holds_law h.elim λsaid=>?_;k_head<;>exact h.elim
set_option maxHeartbeats 0 in
theorem FdE.run1(w:xU)(os:OsState):FdE.dL PySem.Challenge.pw_fairdraw_k51_rows_walked 6378 w os:=by
 refine FdE.dP ?_;rw[PySem.W.Fast.te10156331382660048174,PySem.W.Fast.te11892475500146522536,PySem.W.Fast.te14364793385576792824,PySem.W.Fast.te6613529449190102663];kernel_rfl
set_option maxHeartbeats 0 in
theorem FdE.run2(w:xU)(os:OsState):FdE.dM PySem.Challenge.pw_fairdraw_k51_rows_walked FdE.viewQ ["states", "walked"] (λs=>xlAt FdE.viewQ [] s&&recOk (RowW.records (OpenRow.toRowW (OpenLaw.row PySem.Challenge.rw_fairdraw_k51_rows_walked))) s) 6378 w os:=by
 refine FdE.dP ?_;rw[PySem.W.Fast.te10156331382660048174,PySem.W.Fast.te11892475500146522536,PySem.W.Fast.te14364793385576792824,PySem.W.Fast.te6613529449190102663,PySem.W.Fast.te4187177175401517315];kernel_rfl
set_option maxHeartbeats 0 in
theorem FdE.run3(w:xU)(os:OsState):FdE.dN PySem.Challenge.pw_fairdraw_k51_rows_walked (Hook.obs (kHook FdE.pre.heap_1 ((FdE.pre.heap_1 FdE.P0).map (·.1)) (λ_=>by kernel_rfl))) (Hook.val (kHook FdE.pre.heap_1 ((FdE.pre.heap_1 FdE.P0).map (·.1)) (λ_=>by kernel_rfl))) 6378 w os:=by
 refine FdE.dP ?_;rw[PySem.W.Fast.te10156331382660048174,PySem.W.Fast.te11892475500146522536,PySem.W.Fast.te14364793385576792824,PySem.W.Fast.te6613529449190102663];kernel_rfl
theorem FdE.left:LeftO PySem.Challenge.pw_fairdraw_k51_rows_walked FdE.viewQ ["states", "walked"] (λs=>xlAt FdE.viewQ [] s&&recOk (RowW.records (OpenRow.toRowW (OpenLaw.row PySem.Challenge.rw_fairdraw_k51_rows_walked))) s) (Hook.obs (kHook FdE.pre.heap_1 ((FdE.pre.heap_1 FdE.P0).map (·.1)) (λ_=>by kernel_rfl))) (Hook.val (kHook FdE.pre.heap_1 ((FdE.pre.heap_1 FdE.P0).map (·.1)) (λ_=>by kernel_rfl))) 6378:=FdE.ll (by kernel_rfl) rfl (λs=>by kernel_rfl) (λw os=>FdE.ur (FdE.run1 w os) (FdE.run2 w os) (FdE.run3 w os))
end FdEarly
set_option Elab.async false
set_option linter.all false
set_option maxRecDepth 100000
namespace L2
open PySem PySem.Spec PyProof.Rows
abbrev Key:=Sum Int Str
def QA:Key->xQ->Bool
 |.inl k,v=>Value.isInt k v
 |.inr x,v=>Value.isStrOf x v
def dQ(w:xU):Key->Int
 |.inl k=>hashInt k
 |.inr x=>hashStr w x
theorem Qp:∀{k:Key}{v:xQ},QA k v=true->(∃i t,k=Sum.inl i/\v=Value.int i t)\/(∃x t,k=Sum.inr x/\v=Value.str x t)
 |.inl i,v,h=>by
  obtain⟨t,e⟩:=Value.isInt_shape (k:=i) (v:=v) h;exact .inl ⟨i,t,rfl,e⟩
 |.inr x,v,h=>by
  obtain⟨t,e⟩:=Value.isStrOf_shape (x:=x) (v:=v) h;exact .inr ⟨x,t,rfl,e⟩
def dR(i:Int)(t:Tok):QA (.inl i) (.int i t)=true:=by simp[QA,Value.isInt]
def dS(x:Str)(t:Tok):QA (.inr x) (.str x t)=true:=by simp[QA,Value.isStrOf]
def uw(a b:Int):decide ((Sum.inl a:Key)=Sum.inl b)=(a==b):=by
 by_cases e:a=b
 . subst e;simp
 . have h:¬(Sum.inl a:Key)=Sum.inl b:=λq=>e (Sum.inl.inj q);rw[qj h];exact(beq_eq_false_iff_ne.mpr e).symm
def ux(a b:Str):decide ((Sum.inr a:Key)=Sum.inr b)=decide (a=b):=by
 by_cases e:a=b
 . subst e;simp
 . have h:¬(Sum.inr a:Key)=Sum.inr b:=λq=>e (Sum.inr.inj q);rw[qj h,qj e]
def uy(a:Int)(b:Str):decide ((Sum.inl a:Key)=Sum.inr b)=false:=qj (λq=>nomatch q)
def uA(a:Str)(b:Int):decide ((Sum.inr a:Key)=Sum.inl b)=false:=qj (λq=>nomatch q)
def Jl(prog:xT)(w:xU):PySem.KeyKind prog w Key where
 is:=QA
 hash:=dQ w
 inj:=λv a b ha hb=>by
  rcases Qp ha with ⟨i,t,rfl,rfl⟩|⟨x,t,rfl,rfl⟩
  . rcases Qp hb with ⟨j,u,rfl,e⟩ | ⟨y,u,rfl,e⟩
    . injection e with e1 _;rw[e1]
    . exact nomatch e
  . rcases Qp hb with ⟨j,u,rfl,e⟩ | ⟨y,u,rfl,e⟩
    . exact nomatch e
    . injection e with e1 _;rw[e1]
 byValue:=λk v h=>by
  rcases Qp h with ⟨i,t,rfl,rfl⟩|⟨x,t,rfl,rfl⟩<;>rfl
 pyHash:=λhv h=>by
  rcases Qp hv with ⟨i,t,rfl,rfl⟩|⟨x,t,rfl,rfl⟩
  . exact wpAny_pyHash_int h
  . exact wpAny_pyHash_str h
 eqBool:=λhu hv h=>by
  rcases Qp hu with ⟨i,t,rfl,rfl⟩|⟨x,t,rfl,rfl⟩
  . rcases Qp hv with ⟨j,u,rfl,rfl⟩ | ⟨y,u,rfl,rfl⟩
    . rw[uw]at h;exact wpAny_eqBool_int h
    . rw[uy]at h;exact SeqAt.EqAt.int_str i t y u _ _ _ _ h
  . rcases Qp hv with ⟨j,u,rfl,rfl⟩ | ⟨y,u,rfl,rfl⟩
    . rw[uA]at h;exact SeqAt.EqAt.str_int x t j u _ _ _ _ h
    . rw[ux]at h;exact wpAny_eqBool_str h
 «strs»:=λk x t v h=>by
  rcases Qp h with ⟨i,u,rfl,e⟩|⟨y,u,rfl,e⟩
  . exact nomatch e
  . injection e with e1 _
    subst e1
    cases v<;>rfl
def uB(prog:xT)(w:xU)(k:Key)(v:xQ):(Jl prog w).is k v=QA k v:=rfl
def uC(prog:xT)(w:xU)(i:Int)(t:Tok):(Jl prog w).is (.inl i) (.int i t)=true:=dR i t
def uD(prog:xT)(w:xU)(x:Str)(t:Tok):(Jl prog w).is (.inr x) (.str x t)=true:=dS x t
inductive V where
 |non|bl (b:Bool)|int (i:Int)|str (x:Str)|byt (b:Array UInt8)|flt (b:UInt64)|ref (a:xS)|ty (n:String)
 deriving DecidableEq
def RelV:V->xQ->Prop
 |.non,u=>u=Value.none
 |.bl b,u=>u=Value.bool b
 |.int i,u=>∃t,u=Value.int i t
 |.str x,u=>∃t,u=Value.str x t
 |.byt b,u=>∃t,u=Value.bytes b t
 |.flt b,u=>∃t,u=Value.float b t
 |.ref a,u=>u=Value.ref a
 |.ty n,u=>u=Value.type n
abbrev Vals:List V->xm->Prop:=Paired RelV
theorem Vals.length(r:Vals xs us):'h'=us.length:=Paired.length r
theorem Vals.get:∀{xs:List V}{us:xm}{i:Nat}{x:V},Vals xs us->xs[i]?=some x->∃u,us[i]?=some u/\RelV x u
 |_,_,_,_,.nil,e=>by simp at e
 |_,_,0,_,.cons r _,e=>by simp at e;subst e;exact⟨_,rfl,r⟩
 |_,_,i+1,x,.cons _ t,e=>by
  obtain⟨u,h1,h2⟩:=Vals.get (i:=i) (x:=x) t (by simpa using e);exact⟨u,by simpa using h1,h2⟩
theorem Vals.append:∀{xs ys:List V}{us ws:xm},Vals xs us->Vals ys ws->Vals (xs++ys) (us++ws)
 |_,_,_,_,.nil,s=>s
 |_,_,_,_,.cons r t,s => .cons r (Vals.append t s)
theorem Vals.take:∀{xs:List V}{us:xm} (n:Nat),Vals xs us->Vals (xs.take n) (us.take n)
 |_,_,0,_ => .nil
 |_,_,_+1,.nil => .nil
 |_,_,n+1,.cons r t => .cons r (Vals.take n t)
theorem Vals.drop:∀{xs:List V}{us:xm} (n:Nat),Vals xs us->Vals (xs.drop n) (us.drop n)
 |_,_,0,r=>r
 |_,_,_+1,.nil => .nil
 |_,_,n+1,.cons _ t=>Vals.drop n t
def RelO:Option V->xj->Prop
 |some v,some u=>RelV v u
 |none,none=>True
 |_,_=>False
def KV{κ:Type}:List (κ×V)->List (κ×xQ)->Prop:=Paired λ(p:κ×V) (q:κ×xQ)=>p.1=q.1/\RelV p.2 q.2
def kV:Key->V
 |.inl i => .int i
 |.inr x => .str x
inductive HO where
 /-- a list -/
 |lst (xs:List V)
 /-- a tuple (never changes) -/
 |tup (xs:List V)
 /-- a dict whose keys are ints and texts;one whose keys are tuples of ints and texts (the empty one is both) -/
 |dK (kvs:List (Key×V))|dT (kvs:List (List Key×V))
 /-- a set of ints: its members,its size -/
 |set (S:Int->Bool) (n:Nat)
 /-- an instance of the class at C,its dict at dx,its attributes -/
 |ins (C dx:xS) (fs:List (Str×V))
 /-- the dict of the instance at x -/
 |own (x:xS)
 /-- the dict of an exception -/
 |xd (fs:List (Str×V))
 /-- a bound method,f of x -/
 |met (f x:xS)
 /-- a range object lo,lo+1,.. below hi -/
 |rng (lo hi:Int)
 /-- a thing that is known to the object (the script;a dict while a loop walks it): read,never written while it is so -/
 |frz (o:Obj) (u:HO)
 /-- a code object's table -/
 |tbl (ps:xk)
 /-- any other thing,by what is true of its one object (a def of one's own: SetO a S n:=HO.ext λh => ..) -/
 |ext (φ:Heap->Prop)
abbrev Hp:=xS->Option HO
def upd(H:Hp)(a:xS)(o:HO):Hp:=λb=>if b=a then some o else H b
def J1:upd H a o a=some o:=by unfold upd;rw[qh rfl]
def xZ(h:b≠a):upd H a o b=H b:=by unfold upd;rw[qg h]
def Qs{H:Hp}{a b:xS}{o u:HO}(h:H a=some o)(h':H b=some u)(d:o≠u):a≠b:=by
 intro e;subst e;rw[h]at h';exact d (Option.some.inj h')
def Jp{H:Hp}{a b:xS}{o:HO}(h:H a=some o)(h':H b=none):a≠b:=by
 intro e;subst e;rw[h]at h';cases h'
section
variable (P:xT) (w:xU)
def ObjOk(H:Hp)(h:Heap)(a:xS):HO->Prop
 |.lst xs=>'h'<=sizeLine/\∃(its:xm) (n:Nat),Vals xs its/\h.get? a=some { cls := .type "list",data := .seq its.toArray n }
 |.tup xs=>'h'<=sizeLine/\∃its:xm,Vals xs its/\IsTup h a its.toArray
 |.dK kvs=>kvs.length<=sizeLine/\(a==sysModules)=false/\∃vs,KV kvs vs/\h.DictOf (Jl P w) a vs
 |.dT kvs=>kvs.length<=sizeLine/\(a==sysModules)=false/\∃xs:List (List Key×xS×xQ),
  Paired (λ(p:List Key×V) (q:List Key×xS×xQ)=>p.1=q.1/\H q.2.1=some (.tup (p.1.map kV))/\RelV p.2 q.2.2) kvs xs /\
  ∃o es ep,h.get? a=some o/\o.ExactDict/\o.data=.dict es ep/\es.toList=xs.map (entryOfKey (tupleKind (Jl P w)))/\(xs.map (·.1)).Nodup
 |.set S n=>h.SetOf (intKind P w) a S n
 |.ins C dx fs=>H dx=some (.own a)/\fs.length<=1000/\dx≠a/\h.get? a=some (PySem.W.instObj C dx) /\
  ∃mA,h.Ns1 dx mA/\(∀f,RelO (fs.lookup f) (mA f))/\PySem.Within mA (fs.map (·.1))
 |.own _=>∃o,h.get? a=some o
 |.xd fs=>∃mA,h.Ns1 a mA/\∀f,RelO (fs.lookup f) (mA f)
 |.rng lo hi=>∃t u v,h.get? a=some { cls := .type "range",data := .fields #[.int lo t,.int hi u,.int 1 v] }
 |.frz o u=>h.get? a=some o/\ObjOk H h a u
 |.tbl ps=>h.get? a=some { cls := .none,data := .fields ps }
 |.met f x=>h.get? a=some (PySem.W.methodObj (.ref f) (.ref x))
 |.ext φ=>φ h/\(∃o,h.get? a=some o)/\∀h1 h2:Heap,φ h1->(∀o,h1.get? a=some o->h2.get? a=some o)->φ h2
def HOk(H:Hp)(h:Heap):Prop:=∀a o,H a=some o->ObjOk P w H h a o
end
section
variable {P:xT}{w:xU}{H H':Hp}{h h':Heap}{a:xS}{o:HO}
theorem ObjOk.lt(x:ObjOk P w H h a o):a<h.objs.size:=by
 cases o with
 |lst xs=>obtain⟨_,_,_,_,e⟩:=x;exact jI e
 |tup xs=>obtain⟨_,_,_,p⟩:=x;exact p.lt
 |dK kvs=>obtain⟨_,_,_,_,o,_,_,e,_⟩:=x;exact jI e
 |dT kvs=>obtain⟨_,_,_,_,o,_,_,e,_⟩:=x;exact jI e
 |set S n=>obtain⟨o,_,_,_,e,_⟩:=x;exact jI e
 |ins C dx fs=>obtain⟨_,_,_,e,_⟩:=x;exact jI e
 |own y=>obtain⟨_,e⟩:=x;exact jI e
 |xd fs=>obtain⟨_,⟨_,_,_,e,_⟩,_⟩:=x;exact jI e
 |rng lo hi=>obtain⟨_,_,_,e⟩:=x;exact jI e
 |frz ob u=>obtain⟨e,_⟩:=x;exact jI e
 |tbl ps=>exact jI (show h.get? a=some _ from x)
 |met f y=>exact jI (show h.get? a=some _ from x)
 |ext φ=>obtain⟨_,⟨_,e⟩,_⟩:=x;exact jI e
theorem Paired.mapP{α β:Type}{F G:α->β->Prop}:∀{l₁:List α}{l₂:List β},Paired F l₁ l₂->(∀a b,F a b->G a b)->Paired G l₁ l₂
 |_,_,.nil,_ => .nil
 |_,_,.cons r t,f => .cons (f _ _ r) (Paired.mapP t f)
def ObjOk.stay(x:ObjOk P w H h a o)(k:∀b u,(b=a\/H b=some (.own a))->h.get? b=some u->h'.get? b=some u)
 (ho:∀b,H b=some (.own a)->H' b=some (.own a)) (ht:∀b xs,H b=some (.tup xs)->H' b=some (.tup xs)):ObjOk P w H' h' a o:=by
 induction o with
 |lst xs=>obtain⟨z,its,n,r,e⟩:=x;exact⟨z,its,n,r,k _ _ (.inl rfl) e⟩
 |tup xs=>obtain⟨z,its,r,ob,e,c⟩:=x;exact⟨z,its,r,ob,k _ _ (.inl rfl) e,c⟩
 |dK kvs=>obtain⟨z,y,vs,r,ob,es,ep,e,c⟩:=x;exact⟨z,y,vs,r,ob,es,ep,k _ _ (.inl rfl) e,c⟩
 |dT kvs =>
  obtain⟨z,y,xs,r,ob,es,ep,e,c⟩:=x;exact⟨z,y,xs,Paired.mapP r λp q z=>⟨z.1,ht _ _ z.2.1,z.2.2⟩,ob,es,ep,k _ _ (.inl rfl) e,c⟩
 |set S n=>obtain⟨ob,es,ep,t,e,c⟩:=x;exact⟨ob,es,ep,t,k _ _ (.inl rfl) e,c⟩
 |ins C dx fs =>
  obtain⟨d,z,ne,e,mA,⟨od,es,ep,e2,c⟩,r⟩:=x;exact⟨ho _ d,z,ne,k _ _ (.inl rfl) e,mA,⟨od,es,ep,k _ _ (.inr d) e2,c⟩,r⟩
 |own y=>obtain⟨ob,e⟩:=x;exact⟨ob,k _ _ (.inl rfl) e⟩
 |xd fs=>obtain⟨mA,⟨od,es,ep,e,c⟩,r⟩:=x;exact⟨mA,⟨od,es,ep,k _ _ (.inl rfl) e,c⟩,r⟩
 |rng lo hi=>obtain⟨t,u,v,e⟩:=x;exact⟨t,u,v,k _ _ (.inl rfl) e⟩
 |frz ob u ih=>obtain⟨e,q⟩:=x;exact⟨k _ _ (.inl rfl) e,ih q⟩
 |tbl ps =>
  have e:h.get? a=some { cls := .none,data := .fields ps }:=x;show h'.get? a=some { cls := .none,data := .fields ps };exact k a _ (.inl rfl) e
 |met f y =>
  have e:h.get? a=some (PySem.W.methodObj (.ref f) (.ref y)):=x;show h'.get? a=some (PySem.W.methodObj (.ref f) (.ref y));exact k a _ (.inl rfl) e
 |ext φ=>obtain⟨p,⟨o,e⟩,st⟩:=x;exact⟨st _ _ p λo q=>k _ _ (.inl rfl) q,⟨o,k _ _ (.inl rfl) e⟩,st⟩
theorem HOk.lt(x:HOk P w H h)(e:H a=some o):a<h.objs.size:=(x a o e).lt
def HOk.fresh(x:HOk P w H h)(e:h.objs.size<=a):H a=none:=by
 cases q:H a with
 |none=>rfl
 |some u=>exact absurd (jS (x.lt q) e) (kA _)
def HOk.kept(x:HOk P w H h)(k:∀b u,h.get? b=some u->h'.get? b=some u):HOk P w H h':=λa o e =>
 (x a o e).stay (λb u _ q=>k b u q) (λ_ q=>q) λ_ _ q=>q
def HOk.laid(x:HOk P w H h)(k:∀b u,h.get? b=some u->h'.get? b=some u)(hp:h.objs.size<=a)(new:ObjOk P w (upd H a o) h' a o):HOk P w (upd H a o) h':=λb u e=>by
 have hn:=x.fresh hp
 by_cases hb:b=a
 . subst hb;rw[J1]at e;cases e;exact new
 . rw[xZ hb]at e;exact(x b u e).stay (λc v _ q=>k c v q) (λc q=>by rw[xZ (Jp q hn)];exact q) λc xs q=>by rw[xZ (Jp q hn)];exact q
end
def Rd(H:Hp)(a:xS)(u:HO):Prop:=H a=some u\/∃o,H a=some (.frz o u)
def Rd.of(h:H a=some u):Rd H a u := .inl h
def Rd.ok(r:Rd H a u)(x:HOk P w H h):ObjOk P w H h a u:=by
 rcases r with r|⟨o,r⟩
 . exact x a u r
 . obtain⟨_,q⟩:=x a _ r;exact q
def Mut:Option HO->Prop
 |some (.lst _)=>True
 |some (.dK _)=>True
 |some (.dT _)=>True
 |some (.set _ _)=>True
 |some (.ins _ _ _)=>True
 |some (.ext _)=>True
 |_=>False
section
variable {P:xT}{w:xU}{H:Hp}{h h':Heap}{x e:xS}{o':HO}
def HOk.write(ok:HOk P w H h)(mu:Mut (H x))(he:e=x\/H e=some (.own x))(k:∀b u,b≠e->h.get? b=some u->h'.get? b=some u)(heo:∃u,h'.get? e=some u)
 (new:ObjOk P w (upd H x o') h' x o'):HOk P w (upd H x o') h':=λb u q=>by
 have nown:∀c y,H c=some (.own y)->c≠x:=λc y r z=>by subst z;rw[r]at mu;exact mu
 have ntup:∀c xs,H c=some (.tup xs)->c≠x:=λc xs r z=>by subst z;rw[r]at mu;exact mu
 by_cases hb:b=x
 . subst hb;rw[J1]at q;cases q;exact new
 . rw[xZ hb]at q
   by_cases hbe:b=e
   . have q':H b=some (.own x):=by
      rcases he with z|z
      . exact absurd (hbe.trans z) hb
      . rw[hbe];exact z
     rw[q]at q';cases q';obtain⟨v,hv⟩:=heo;exact⟨v,by rw[hbe];exact hv⟩
   . refine(ok b u q).stay (λc v hc r=>k c v ?_ r) (λc r=>by rw[xZ (nown c b r)];exact r) λc xs r=>by rw[xZ (ntup c xs r)];exact r
     rcases hc with rfl|hc
     . exact hbe
     . rintro rfl;rcases he with z | z
       . exact nown c b hc z
       . rw[hc]at z;cases z;exact hb rfl
end
structure Un (fs ex:List xS) (H H':Hp) (h h':Heap):Prop where
 keep:∀b o,h.get? b=some o->H b=none->b∉fs->b∉ex->h'.get? b=some o
 slot:∀b o,h.get? b=some o->H b=none->b∈fs->b∉ex->∃sl,h'.get? b=some { o with slots:=sl }
 free:∀b o,h.get? b=some o->H b=none->b∉ex->H' b=none
 there:∀b o,h.get? b=some o->b∉ex->∃o',h'.get? b=some o'
 tups:∀b xs,H b=some (.tup xs)->H' b=some (.tup xs)
 frzs:∀b o u,H b=some (.frz o u)->H' b=some (.frz o u)
 tbls:∀b ps,H b=some (.tbl ps)->∃more,H' b=some (.tbl (ps++more))
section
variable {fs fs' ex ex':List xS}{H H1 H2:Hp}{h h1 h2 h':Heap}{a x e:xS}{o:HO}
def Un.any(u:Un fs ex H H1 h h1)(q:h.get? b=some ob)(n:H b=none)(hx:b∉ex):∃sl,h1.get? b=some { ob with slots:=sl }:=by
 by_cases hb:b∈fs
 . exact u.slot b ob q n hb hx
 . exact⟨ob.slots,u.keep b ob q n hb hx⟩
def Un.kept(k:∀b u,h.get? b=some u->h'.get? b=some u):Un fs ex H H h h' :=
 ⟨λb ob q _ _ _=>k b ob q,λb ob q _ _ _=>⟨ob.slots,k b ob q⟩,λ_ _ _ n _=>n,λb ob q _=>⟨ob,k b ob q⟩,λ_ _ q=>q,λ_ _ _ q=>q,λ_ ps q=>⟨#[],by rw[q];simp⟩⟩
def Un.refl:Un fs ex H H h h:=Un.kept λ_ _ q=>q
theorem Un.laid(k:∀b u,h.get? b=some u->h'.get? b=some u)(hp:h.objs.size<=a)(hn:H a=none):Un fs ex H (upd H a o) h h' where
 keep:=λb u q _ _ _=>k b u q
 slot:=λb u q _ _ _=>⟨u.slots,k b u q⟩
 free:=λb u q n _=>by rw[xZ (jQ (jS (jI q) hp))];exact n
 there:=λb u q _=>⟨u,k b u q⟩
 tups:=λb xs q=>by rw[xZ (Jp q hn)];exact q
 frzs:=λb u xs q=>by rw[xZ (Jp q hn)];exact q
 tbls:=λb ps q=>⟨#[],by rw[xZ (Jp q hn),q];simp⟩
def Un.write(mu:Mut (H x))(he:e=x\/H e=some (.own x))(k:∀b u,b≠e->h.get? b=some u->h'.get? b=some u)(heo:∃u,h'.get? e=some u):Un fs ex H (upd H x o) h h':=by
 have hx:∀b,H b=none->b≠x:=λb n z=>by subst z;rw[n]at mu;exact mu
 have hb:∀b,H b=none->b≠e:=λb n z=>by
  subst z;rcases he with r|r
  . exact hx b n r
  . rw[n]at r;cases r
 have hm:∀b u,H b=some u->¬Mut (some u)->b≠x:=λb u q nm z=>by subst z;rw[q]at mu;exact nm mu
 refine⟨λb u q n _ _=>k b u (hb b n) q,λb u q n _ _=>⟨u.slots,k b u (hb b n) q⟩,λb u q n _=>by rw[xZ (hx b n)];exact n,λb u q _=>?_,
  λb xs q=>by rw[xZ (hm b _ q λz=>z)];exact q,λb u xs q=>by rw[xZ (hm b _ q λz=>z)];exact q,λb ps q=>⟨#[],by rw[xZ (hm b _ q λz=>z),q];simp⟩⟩
 by_cases hbe:b=e
 . subst hbe;exact heo
 . exact⟨u,k b u hbe q⟩
end
def trk(h:Heap)(H:Hp):List xS:=(List.range h.objs.size).filter λa=>(H a).isSome
def X9(h:Heap)(H:Hp):Heap:=PySem.W.hideAll h (trk h H)
def uE(h:Heap)(H:Hp):(X9 h H).objs.size=h.objs.size:=PySem.W.hideAll_size _ _
def uF(e:h.get? b=some o)(n:H b=none):(X9 h H).get? b=some o :=
 PySem.W.hideAll_get _ e λhm=>by
  have q:(H b).isSome=true:=(kR.mp hm).2;rw[n]at q;simp at q
def uG(e:(X9 h H).get? b=some o):h.get? b=some o/\H b=none:=by
 have e':h.get? b=some o:=PySem.W.of_hideAll (trk h H) e;refine⟨e',?_⟩
 cases q:H b with
 |none=>rfl
 |some x =>
  have hm:b∈trk h H:=kR.mpr ⟨kh.mpr (jI e'),by simp[q]⟩;have z:(X9 h H).get? b=none:=PySem.W.hideAll_none (trk h H) hm;rw[z]at e;cases e
structure Mod (K:xh) (mg:xf) (base:Heap):Prop where
 kin:K.In base
 glob:base.Ns mainGlobals mg
 blt:∃mb,base.Ns builtinsNs mb/\∀x:Str,x ≠ "__name__" -> mb x=bootBuiltins x
 nolimit:base.NoLimit
structure Cx where
 prog:xT
 w:xU
 K:xh
 mg:xf
 base:Heap
 A:xV
 N:xp
 s₀:xR
 H₀:Hp
 env:Env
 outer:List Env
 stack:List Env
 ex:List xS
 fn:Str->Bool
 calm:Bool
 pn:xg
 xe:xc
def frs(l:List Env):List xS:=l.filterMap (·.frame)
abbrev Cx.fs(X:Cx):List xS:=frs X.outer
def Vis(sc:Scope)(x:Str):Prop:=sc.names.lookup x=some .local\/sc.names.lookup x=some .cell\/sc.names.lookup x=some .free
def Loc(sc:Scope)(x:Str):Prop:=sc.names.lookup x=some .local\/sc.names.lookup x=some .cell
def Look(env:Env)(h:Heap)(m:xf)(x:Str)(u:xQ):Prop :=
 (env.kindOf x=some .local/\m x=some u)\/((env.kindOf x=some .cell\/env.kindOf x=some .free)/\∃c,env.cells.lookup x=some c/\h.IsCell c (some u))
structure Cx.Ok (X:Cx):Prop where
 mod:Mod X.K X.mg X.base
 kind:X.env.scope.kind=.function
 glob:X.env.globals=mainGlobals
 blt:X.env.builtins=builtinsNs
 above:X.s₀.heap.objs.size<=X.env.locals
 inj:∀x y c,X.env.cells.lookup x=some c->X.env.cells.lookup y=some c->x=y
 has:∀x,(X.env.kindOf x=some .cell\/X.env.kindOf x=some .free)->∃c,X.env.cells.lookup x=some c
 cab:∀x c,X.fn x=true->X.env.cells.lookup x=some c->X.s₀.heap.objs.size<=c
 hd:X.calm=true->X.A.handled=none
 frames:X.A.frames=some X.stack
 stk:X.stack=X.outer\/(X.stack=X.env::X.outer/\X.env.frame=some X.env.locals)
 exf:∀b∈X.ex,b≠X.env.locals/\∀x c,X.env.cells.lookup x=some c->c≠b
 bs:∀b o,X.base.get? b=some o->X.s₀.heap.get? b=some o/\X.H₀ b=none
 bsz:X.base.objs.size<=X.s₀.heap.objs.size
 noex:∀b o,X.base.get? b=some o->b∉X.ex
 exfs:∀b∈X.ex,b∉X.fs
 funs:X.s₀.heap.FunFrames X.base X.outer
 frf:∀b∈X.fs,X.H₀ b=none
structure Inv (X:Cx) (xt:xg) (σ:List (Option V)) (H:Hp) (s:xR):Prop where
 ok:X.Ok
 os:s.os=X.s₀.os
 bare:AllBare s.gens
 base:Un X.fs X.ex X.H₀ H X.s₀.heap s.heap
 loc:∃m,s.heap.Ns X.env.locals m/\∀(i:Nat) (x:Str) (v:V),X.N[i]?=some x->σ[i]?=some (some v)->Vis X.env.scope x->∃u,RelV v u/\Look X.env s.heap m x u
 cell:∀x c,X.env.cells.lookup x=some c->∃v,s.heap.IsCell c v
 free:H X.env.locals=none
 freeC:∀x c,X.env.cells.lookup x=some c->H c=none
 pin:∀p∈X.pn++xt,'i' p.1=some p.2/\H p.1=none/\p.1≠X.env.locals/\p.1∉X.fs/\∀v,p.2.data ≠ .cell v
 hok:HOk X.prog X.w H s.heap
 len:σ.length=X.N.length
section
variable {X:Cx}{xt:xg}{σ:List (Option V)}{H H':Hp}{s:xR}{h':Heap}
def Cx.Ok.nofr(ok:X.Ok)(e:X.base.get? b=some o):b∉X.fs:=λhb=>by
 have:=(ok.funs.mem hb).1;rw[e]at this;cases this
theorem Inv.bs(I:Inv X xt σ H s):∀b o,X.base.get? b=some o->'i' b=some o/\H b=none:=λb o e =>
 ⟨I.base.keep b o (I.ok.bs b o e).1 (I.ok.bs b o e).2 (I.ok.nofr e) (I.ok.noex b o e),I.base.free b o (I.ok.bs b o e).1 (I.ok.bs b o e).2 (I.ok.noex b o e)⟩
def Inv.bk(I:Inv X xt σ H s):∀b o,X.base.get? b=some o->'i' b=some o:=λb o e=>(I.bs b o e).1
theorem Inv.mod(I:Inv X xt σ H s):Mod X.K X.mg X.base:=I.ok.mod
def Inv.kIn(I:Inv X xt σ H s):X.K.In s.heap:=I.ok.mod.kin.keeps I.bk
theorem Inv.lt(I:Inv X xt σ H s):X.env.locals<'g':=let ⟨_,hn,_⟩:=I.loc;hn.lt
def Inv.sz(I:Inv X xt σ H s):X.s₀.heap.objs.size<='g':=jg I.ok.above (kG I.lt)
def Inv.nofs(I:Inv X xt σ H s){a:xS}(h:'g'<=a):a∉X.fs:=λhb=>by
 obtain⟨_,o,ho,_⟩:=I.ok.funs.mem hb;exact absurd (jS (jI ho) (jg I.sz h)) (kA _)
def Inv.cne(I:Inv X xt σ H s):∀x c,X.env.cells.lookup x=some c->c≠X.env.locals:=λx c e z=>by
 obtain⟨v,o,ho,hd⟩:=I.cell x c e;obtain⟨m,⟨o',es,ep,ho',hd',_⟩,_⟩:=I.loc;rw[z,ho']at ho;cases ho;rw[hd']at hd;cases hd
theorem Inv.funs(I:Inv X xt σ H s):s.heap.FunFrames X.base X.outer:=by
 have all:∀(l:List Env),(∀b∈frs l,b∈X.fs)->X.s₀.heap.FunFrames X.base l->s.heap.FunFrames X.base l:=by
  intro l
  induction l with
  |nil=>intro _ _;trivial
  |cons env r ih =>
   intro hs hl;obtain⟨hk,⟨L,o,hf,hn,ho,hd⟩,hr⟩:=hl;have hL:L∈X.fs:=hs L (by unfold frs;rw[List.filterMap_cons,hf];exact jO);obtain⟨sl,e⟩:=I.base.slot L o ho (I.ok.frf L hL) hL λz=>I.ok.exfs L z hL;exact⟨hk,⟨L,_,hf,hn,e,hd⟩,ih (λb hb=>hs b (by unfold frs;rw[List.filterMap_cons,hf];exact jN _ hb)) hr⟩
 exact all X.outer (λ_ hb=>hb) I.ok.funs
theorem Inv.stack(I:Inv X xt σ H s):s.heap.FunFrames X.base X.stack:=by
 rcases I.ok.stk with e|⟨e,hf⟩
 . rw[e];exact I.funs
 . rw[e];obtain⟨m,hn,_⟩:=I.loc;refine .cons (by rw[I.ok.kind];decide) hf hn ?_ I.funs;exact Heap.get?_none_of_le (jg I.ok.bsz I.ok.above)
def Inv.stkSub(I:Inv X xt σ H s):∀b∈frs X.stack,b∈X.env.locals::X.fs:=λb hb=>by
 rcases I.ok.stk with e|⟨e,hf⟩
 . rw[e]at hb;exact jN _ hb
 . rw[e]at hb;unfold frs at hb;rw[List.filterMap_cons,hf]at hb;exact hb
def Inv.stkFree(I:Inv X xt σ H s):∀b∈frs X.stack,H b=none:=λb hb=>by
 rcases jJ.mp (I.stkSub b hb) with e|hb
 . rw[e];exact I.free
 . obtain⟨_,o,ho,_⟩:=I.ok.funs.mem hb;exact I.base.free b o ho (I.ok.frf b hb) λz=>I.ok.exfs b z hb
def Inv.step{g':Array GenState}{t':Nat}{d':Drawn}{ch:List xS}(I:Inv X xt σ H s)
 (hch:∀b∈ch,(b∈X.ex\/X.s₀.heap.objs.size<=b)/\b≠X.env.locals/\(∀x c,X.env.cells.lookup x=some c->c≠b)/\∀p∈X.pn++xt,p.1≠b)
 (keep:∀b o,b≠X.env.locals->b∉X.fs->b∉ch->'i' b=some o->H b=none->h'.get? b=some o)
 (slot:∀b o,b≠X.env.locals->b∈X.fs->b∉ch->'i' b=some o->H b=none->∃sl,h'.get? b=some { o with slots:=sl }) (free:∀b o,b∉ch->'i' b=some o->H b=none->H' b=none)
 (there:∀b o,b∉ch->'i' b=some o->∃o',h'.get? b=some o')
 (tups:∀b xs,H b=some (.tup xs)->H' b=some (.tup xs)) (frzs:∀b o u,H b=some (.frz o u)->H' b=some (.frz o u)) (tbls:∀b ps,H b=some (.tbl ps)->∃more,H' b=some (.tbl (ps++more)))
 (ns:∀m,s.heap.Ns X.env.locals m->h'.Ns X.env.locals m) (hok:HOk X.prog X.w H' h') (hg:AllBare g') :
 Inv X xt σ H' { s with heap:=h',gens:=g',drawn:=d',toks:=t' }:=by
 have neL:∀b o,X.s₀.heap.get? b=some o->b≠X.env.locals:=λb o e=>jQ (jS (jI e) I.ok.above)
 have neC:∀b o,X.s₀.heap.get? b=some o->b∉X.ex->b∉ch:=λb o e hx hb=>by
  rcases(hch b hb).1 with z|z
  . exact hx z
  . exact absurd (jS (jI e) z) (kA _)
 have cellK:∀x c,X.env.cells.lookup x=some c->∀v,s.heap.IsCell c v->h'.IsCell c v:=λx c e v ⟨o,ho,hd⟩=>by
  have nch:c∉ch:=λz=>(hch c z).2.2.1 x c e rfl
  by_cases hc:c∈X.fs
  . obtain⟨sl,q⟩:=slot c o (I.cne x c e) hc nch ho (I.freeC x c e);exact⟨_,q,hd⟩
  . exact⟨o,keep c o (I.cne x c e) hc nch ho (I.freeC x c e),hd⟩
 refine⟨I.ok,I.os,hg,⟨λb o e n hb hx=>?_,λb o e n hb hx=>?_,λb o e n hx=>?_,λb o e hx=>?_,λb xs e=>tups b xs (I.base.tups b xs e),λb o xs e=>frzs b o xs (I.base.frzs b o xs e),λb ps e=>?_⟩,?_,λx c e=>?_,?_,λx c e=>?_,λp hp=>?_,hok,I.len⟩
 . exact keep b o (neL b o e) hb (neC b o e hx) (I.base.keep b o e n hb hx) (I.base.free b o e n hx)
 . obtain⟨sl,e1⟩:=I.base.slot b o e n hb hx;obtain⟨sl',e2⟩:=slot b _ (neL b o e) hb (neC b o e hx) e1 (I.base.free b o e n hx);exact⟨sl',e2⟩
 . obtain⟨o',e1⟩:=I.base.there b o e hx;exact free b o' (neC b o e hx) e1 (I.base.free b o e n hx)
 . obtain⟨o',e1⟩:=I.base.there b o e hx;exact there b o' (neC b o e hx) e1
 . obtain⟨m1,e1⟩:=I.base.tbls b ps e;obtain⟨m2,e2⟩:=tbls b _ e1;exact⟨m1++m2,by rw[e2,Array.append_assoc]⟩
 . obtain⟨m,hn,hl⟩:=I.loc;refine⟨m,ns m hn,λi x v e1 e2 e3=>?_⟩;obtain⟨u,r,l⟩:=hl i x v e1 e2 e3;refine⟨u,r,?_⟩;rcases l with l | ⟨k,c,e,z⟩
   . exact .inl l
   . exact .inr ⟨k,c,e,cellK x c e _ z⟩
 . obtain⟨v,z⟩:=I.cell x c e;exact⟨v,cellK x c e v z⟩
 . obtain⟨m,⟨o,_,_,ho,_⟩,_⟩:=I.loc;exact free _ o (λz=>(hch _ z).2.1 rfl) ho I.free
 . obtain⟨v,o,ho,hd⟩:=I.cell x c e;exact free c o (λz=>(hch c z).2.2.1 x c e rfl) ho (I.freeC x c e)
 . obtain⟨e,n,ne,nf,d⟩:=I.pin p hp;have nch:p.1∉ch:=λz=>(hch p.1 z).2.2.2 p hp rfl;exact⟨keep p.1 p.2 ne nf nch e n,free p.1 p.2 nch e n,ne,nf,d⟩
theorem Inv.un(I:Inv X xt σ H s)(u:Un X.fs [] H H' s.heap h')(hok:HOk X.prog X.w H' h'):Inv X xt σ H' { s with heap:=h',toks:=t' }:=by
 obtain⟨m,⟨o,es,ep,ho,r⟩,_⟩:=id I.loc;obtain⟨sl,hL⟩:=u.any ho I.free 'f'
 exact I.step (g':=s.gens) (d':=s.drawn) (ch:=[]) (λ_ z=>nomatch z) (λb o _ hb _ e n=>u.keep b o e n hb 'f') (λb o _ hb _ e n=>u.slot b o e n hb 'f') (λb o _ e n=>u.free b o e n 'f') (λb o _ e=>u.there b o e 'f') u.tups u.frzs u.tbls (λm' hm=>by
  obtain⟨o',es',ep',ho',r'⟩:=hm;rw[ho]at ho';cases ho';exact⟨_,es',ep',hL,r'⟩) hok I.bare
theorem Inv.call(I:Inv X xt σ H s)(u:Un (frs X.stack) ch H H' s.heap h')(hok:HOk X.prog X.w H' h')(hg:AllBare g')
 (hch:∀b∈ch,(b∈X.ex\/X.s₀.heap.objs.size<=b)/\b≠X.env.locals/\(∀x c,X.env.cells.lookup x=some c->c≠b)/\∀p∈X.pn++xt,p.1≠b) :
 Inv X xt σ H' { s with heap:=h',gens:=g',drawn:=d',toks:=t' }:=by
 obtain⟨m,⟨o,es,ep,ho,r⟩,_⟩:=id I.loc;obtain⟨sl,hL⟩:=u.any ho I.free λz=>(hch _ z).2.1 rfl
 exact I.step (ch:=ch) hch (λb o hL hb hc e n=>u.keep b o e n (λz=>(jJ.mp (I.stkSub b z)).elim hL hb) hc) (λb o _ _ hc e n=>u.any e n hc) (λb o hc e n=>u.free b o e n hc) (λb o hc e=>u.there b o e hc) u.tups u.frzs u.tbls (λm' hm=>by
  obtain⟨o',es',ep',ho',r'⟩:=hm;rw[ho]at ho';cases ho';exact⟨_,es',ep',hL,r'⟩) hok hg
def Inv.turned(I:Inv X xt σ H s)(k:∀b o,b≠it->'i' b=some o->h'.get? b=some o)(hn:H it=none)(hL:it≠X.env.locals)
 (h1:it∈X.ex\/X.s₀.heap.objs.size<=it) (h2:∀x c,X.env.cells.lookup x=some c->c≠it) (h3:∀p∈X.pn++xt,p.1≠it):Inv X xt σ H { s with heap:=h',toks:=t' }:=by
 have nit:∀b u,H b=some u->b≠it:=λb u e z=>by rw[z,hn]at e;cases e
 refine I.step (g':=s.gens) (d':=s.drawn) (ch:=[it]) (λb hb=>?_) (λb o _ _ hc e _=>k b o (λz=>hc (by simp[z])) e) (λb o _ _ hc e _=>⟨o.slots,k b o (λz=>hc (by simp[z])) e⟩) (λ_ _ _ _ n=>n)
  (λb o hc e=>⟨o,k b o (λz=>hc (by simp[z])) e⟩) (λ_ _ e=>e) (λ_ _ _ e=>e) (λb ps e=>⟨#[],by rw[e];simp⟩) (λm hm=>?_) (λb u e=>?_) I.bare
 . have e:b=it:=by simpa using hb
   subst e;exact⟨h1,hL,h2,h3⟩
 . obtain⟨o,es,ep,ho,r⟩:=hm;exact⟨o,es,ep,k _ o (Ne.symm hL) ho,r⟩
 . refine(I.hok b u e).stay (λc v hc q=>k c v ?_ q) (λ_ q=>q) λ_ _ q=>q;rcases hc with z | z
   . rw[z];exact nit b u e
   . exact nit c _ z
def Inv.tok(I:Inv X xt σ H s)(t:Nat):Inv X xt σ H { s with toks:=t }:=I.un (h':=s.heap) (t':=t) Un.refl I.hok
theorem Inv.kept(I:Inv X xt σ H s)(k:∀b u,'i' b=some u->h'.get? b=some u):Inv X xt σ H { s with heap:=h',toks:=t' }:=I.un (Un.kept k) (I.hok.kept k)
theorem Inv.laid{a:xS}{o:HO}{t':Nat}(I:Inv X xt σ H s)(k:∀b u,'i' b=some u->h'.get? b=some u)(hp:'g'<=a)(new:ObjOk X.prog X.w (upd H a o) h' a o) :
 Inv X xt σ (upd H a o) { s with heap:=h',toks:=t' }:=I.un (Un.laid k hp (I.hok.fresh hp)) (I.hok.laid k hp new)
theorem Inv.write(I:Inv X xt σ H s)(mu:Mut (H x))(he:e=x\/H e=some (.own x))(k:∀b u,b≠e->'i' b=some u->h'.get? b=some u)(heo:∃u,h'.get? e=some u)
 (new:ObjOk X.prog X.w (upd H x o) h' x o):Inv X xt σ (upd H x o) { s with heap:=h',toks:=t' }:=I.un (Un.write mu he k heo) (I.hok.write mu he k heo new)
def Inv.pins_of(I:Inv X xt σ H s)(h:∀p∈pins','i' p.1=some p.2/\H p.1=none/\p.1≠X.env.locals/\p.1∉X.fs/\∀v,p.2.data ≠ .cell v):Inv X pins' σ H s :=
 ⟨I.ok,I.os,I.bare,I.base,I.loc,I.cell,I.free,I.freeC,λp hp=>(je.mp hp).elim (λz=>I.pin p (jw _ z)) (h p),I.hok,I.len⟩
def dU{N:xp}(hN:N.Nodup){i j:Nat}{x:Str}(a:N[i]?=some x)(b:N[j]?=some x):i=j:=by
 obtain⟨h1,e1⟩:=jF.mp a;obtain⟨h2,e2⟩:=jF.mp b;exact(List.getElem_inj hN).mp (e1.trans e2.symm)
theorem lA(I:Inv X xt σ H s)(hN:X.N.Nodup)(hi:X.N[i]?=some x)(hx:Loc X.env.scope x)(r:RelV v u)
 (h:∀s',Inv X xt (σ.set i (some v)) H s'->(∃a,Heap.SameBut a s.heap s'.heap/\(a=X.env.locals\/X.env.cells.lookup x=some a))->Q () s') (hf:X.fn x=true\/X.env.scope.names.lookup x=some .local:=by first|exact .inl rfl|exact .inr rfl|assumption):wpAny M A (storeName X.env x u) Q E s:=by
 obtain⟨m,hn,hl⟩:=id I.loc;have hcls:(X.env.scope.kind==.class||(X.env.scope.kind==.module&&X.env.locals != X.env.globals))=false:=by rw[I.ok.kind];rfl
 have hiσ:i<σ.length:=by rw[I.len];exact(jF.mp hi).1
 have cne:=I.cne
 have tracked:∀{a:xS}{h':Heap},(∃o,'i' a=some o/\H a=none)->Heap.SameBut a s.heap h'->HOk X.prog X.w H h':=fun {a h'} ha hs b ob e=>by
  obtain⟨_,_,hfree⟩:=ha;refine(I.hok b ob e).stay (λc w' hc q=>(hs.2 c ?_).trans q) (λ_ q=>q) λ_ _ q=>q;rintro rfl;rcases hc with rfl|hc
  . rw[hfree]at e;cases e
  . rw[hfree]at hc;cases hc
 rcases hx with hk|hk
 . refine wpAny_storeName_local hk hn (λh' hn' hs=>?_) hcls;obtain⟨oL,_,_,hoL,_⟩:=id hn;refine h _ ⟨I.ok,I.os,I.bare,⟨λb o e n hb hx=>?_,λb o e n hb hx=>?_,I.base.free,λb o e hx=>?_,I.base.tups,I.base.frzs,I.base.tbls⟩,⟨_,hn',λj y v' e1 e2 e3=>?_⟩,λy c e=>?_,I.free,I.freeC,λp hp=>?_,tracked ⟨oL,hoL,I.free⟩ hs,by simpa using I.len⟩ ⟨_,hs,.inl rfl⟩
   . exact(hs.2 b (jQ (jS (jI e) I.ok.above))).trans (I.base.keep b o e n hb hx)
   . obtain⟨sl,e1⟩:=I.base.slot b o e n hb hx;exact⟨sl,(hs.2 b (jQ (jS (jI e) I.ok.above))).trans e1⟩
   . obtain⟨o',e1⟩:=I.base.there b o e hx;exact⟨o',(hs.2 b (jQ (jS (jI e) I.ok.above))).trans e1⟩
   . by_cases hj:j=i
     . subst hj;rw[hi]at e1;cases e1;rw[List.getElem?_set_self hiσ]at e2
       cases e2
       exact⟨u,r,.inl ⟨hk,by simp⟩⟩
     . rw[List.getElem?_set_ne (Ne.symm hj)]at e2;obtain⟨u',r',q⟩:=hl j y v' e1 e2 e3;refine⟨u',r',?_⟩;rcases q with ⟨k,e⟩ | ⟨k,c,e,z⟩
       . refine .inl ⟨k,?_⟩;have:y≠x:=λe=>hj (dU hN e1 (e ▸ hi));simp[this,e]
       . exact .inr ⟨k,c,e,z.sameBut hs (cne y c e)⟩
   . obtain⟨w',z⟩:=I.cell y c e;exact⟨w',z.sameBut hs (cne y c e)⟩
   . obtain⟨e,n,ne,nf,d⟩:=I.pin p hp;exact⟨(hs.2 p.1 ne).trans e,n,ne,nf,d⟩
 . have hfn:X.fn x=true:=by
    rcases hf with z|z
    . exact z
    . rw[z]at hk;cases hk
   obtain⟨c,hc⟩:=I.ok.has x (.inl hk);obtain⟨w',z⟩:=I.cell x c hc;refine wpAny_storeName_cell I.ok.kind hk hc z (λh' hc' hs=>?_);obtain⟨oc,hoc,hocd⟩:=id z;refine h { s with heap:=h' } ⟨I.ok,I.os,I.bare,⟨λb o e n hb hx=>?_,λb o e n hb hx=>?_,I.base.free,λb o e hx=>?_,I.base.tups,I.base.frzs,I.base.tbls⟩,⟨m,hn.sameBut hs (Ne.symm (cne x c hc)),λj y v' e1 e2 e3=>?_⟩,λy c' e=>?_,I.free,I.freeC,λp hp=>?_,tracked ⟨oc,hoc,I.freeC x c hc⟩ hs,by simpa using I.len⟩ ⟨c,hs,.inr hc⟩
   . exact(hs.2 b (jQ (jS (jI e) (I.ok.cab x c hfn hc)))).trans (I.base.keep b o e n hb hx)
   . obtain⟨sl,e1⟩:=I.base.slot b o e n hb hx;exact⟨sl,(hs.2 b (jQ (jS (jI e) (I.ok.cab x c hfn hc)))).trans e1⟩
   . obtain⟨o',e1⟩:=I.base.there b o e hx;exact⟨o',(hs.2 b (jQ (jS (jI e) (I.ok.cab x c hfn hc)))).trans e1⟩
   . by_cases hj:j=i
     . subst hj;rw[hi]at e1;cases e1;rw[List.getElem?_set_self hiσ]at e2
       cases e2
       exact⟨u,r,.inr ⟨.inl hk,c,hc,hc'⟩⟩
     . rw[List.getElem?_set_ne (Ne.symm hj)]at e2;obtain⟨u',r',q⟩:=hl j y v' e1 e2 e3;refine⟨u',r',?_⟩;rcases q with q | ⟨k,c',e,z'⟩
       . exact .inl q
       . refine .inr ⟨k,c',e,z'.sameBut hs ?_⟩;rintro rfl;exact hj (dU hN e1 (I.ok.inj _ _ _ e hc ▸ hi))
   . by_cases hcc:c'=c
     . subst hcc;exact⟨_,hc'⟩
     . obtain⟨w2,z2⟩:=I.cell y c' e;exact⟨w2,z2.sameBut hs hcc⟩
   . obtain⟨e,n,ne,nf,d⟩:=I.pin p hp;refine⟨(hs.2 p.1 ?_).trans e,n,ne,nf,d⟩;intro q;rw[q,hoc]at e;have q':oc=p.2:=Option.some.inj e;exact d w' (by rw[<- q'];exact hocd)
def Y3(I:Inv X xt σ H s)(hN:X.N.Nodup)(hi:X.N[i]?=some x)(hx:Loc X.env.scope x)(r:RelV v u)
 (h:∀s',Inv X xt (σ.set i (some v)) H s'->Q () s') (hf:X.fn x=true\/X.env.scope.names.lookup x=some .local:=by first|exact .inl rfl|exact .inr rfl|assumption):wpAny M A (storeName X.env x u) Q E s :=
 lA I hN hi hx r (λs' I' _=>h s' I') hf
def Inv.call'(I:Inv X xt σ H s)(ho:s'.os=s.os)(u:Un (frs X.stack) ch H H' s.heap s'.heap)(hok:HOk X.prog X.w H' s'.heap)(hg:AllBare s'.gens)
 (hch:∀b∈ch,(b∈X.ex\/X.s₀.heap.objs.size<=b)/\b≠X.env.locals/\(∀x c,X.env.cells.lookup x=some c->c≠b)/\∀p∈X.pn++xt,p.1≠b):Inv X xt σ H' s':=by
 obtain⟨h',g',d',t',o'⟩:=s';have e:o'=s.os:=ho;subst e;exact I.call (g':=g') (t':=t') (d':=d') u hok hg hch
end
abbrev XK:=xQ->Option xS->Hp->Prop
abbrev St:=List (Option V)
abbrev VK:=V->Hp->Prop
abbrev TE:=St->Hp->VK->Prop
abbrev TT:=St->Hp->(Bool->Hp->Prop)->Prop
abbrev TA:=St->Hp->(List V->Hp->Prop)->Prop
structure Ends where
 nx:St->Hp->Prop
 rt:VK
 bk:St->Hp->Prop:=λ_ _=>False
 ct:St->Hp->Prop:=λ_ _=>False
abbrev TS:=Ends->St->Hp->Prop
def EP(X:Cx)(xt:xg)(σ:St)(Q:VK)(u:xQ)(s':xR):Prop:=∃v H',Inv X xt σ H' s'/\RelV v u/\Q v H'
def TP(X:Cx)(xt:xg)(σ:St)(Q:Bool->Hp->Prop)(b:Bool)(s':xR):Prop:=∃H',Inv X xt σ H' s'/\Q b H'
def AP(X:Cx)(xt:xg)(σ:St)(Q:List V->Hp->Prop)(us:xm)(s':xR):Prop:=∃vs H',Inv X xt σ H' s'/\Vals vs us/\Q vs H'
def SP(X:Cx)(xt:xg)(D:Ends)(f:Flow)(s':xR):Prop :=
 match f with
 |.next=>∃σ' H',Inv X xt σ' H' s'/\D.nx σ' H'
 |.brk=>∃σ' H',Inv X xt σ' H' s'/\D.bk σ' H'
 |.cont=>∃σ' H',Inv X xt σ' H' s'/\D.ct σ' H'
 |.ret u=>∃v σ' H',Inv X xt σ' H' s'/\RelV v u/\D.rt v H'
def PE(X:Cx)(e:Expr)(t:TE):Prop :=
 ∀(xt:xg) (s:xR) (σ:St) (H:Hp) (Q:VK),Inv X xt σ H s->t σ H Q->wpAny (model X.prog X.w) X.A (eval e X.env) (EP X xt σ Q) X.xe s
def PT(X:Cx)(e:Expr)(t:TT):Prop :=
 ∀(xt:xg) (s:xR) (σ:St) (H:Hp) (Q:Bool->Hp->Prop),Inv X xt σ H s->t σ H Q->wpAny (model X.prog X.w) X.A (isTrue e X.env (eval e X.env)) (TP X xt σ Q) X.xe s
def PW(X:Cx)(e:Expr)(t:TT):Prop :=
 ∀(whole:Sem xQ) (xt:xg) (s:xR) (σ:St) (H:Hp) (Q:Bool->Hp->Prop),Inv X xt σ H s->t σ H Q->wpAny (model X.prog X.w) X.A (isTrue e X.env whole) (TP X xt σ Q) X.xe s
def PW.pt(h:PW X e t):PT X e t:=h _
def PA(X:Cx)(es:List Expr)(t:TA):Prop :=
 ∀(pos:Pos) (xt:xg) (s:xR) (σ:St) (H:Hp) (Q:List V->Hp->Prop),Inv X xt σ H s->t σ H Q->wpAny (model X.prog X.w) X.A (spliced (backTo pos (starEach es X.env))) (AP X xt σ Q) X.xe s
def PS(X:Cx)(st:Stmt)(t:TS):Prop :=
 ∀(xt:xg) (s:xR) (σ:St) (H:Hp) (D:Ends),Inv X xt σ H s->t D σ H->wpAny (model X.prog X.w) X.A (exec st X.env) (SP X xt D) X.xe s
def PSs(X:Cx)(st:List Stmt)(t:TS):Prop :=
 ∀(xt:xg) (s:xR) (σ:St) (H:Hp) (D:Ends),Inv X xt σ H s->t D σ H->wpAny (model X.prog X.w) X.A (execs st X.env) (SP X xt D) X.xe s
def thn{α:Type}{t:Sem α}{Q Q':α->xR->Prop}{M:Model}{E:xc}(h:wpAny M A t Q E s)(hQ:∀a s,Q a s->Q' a s):wpAny M A t Q' E s:=qq h hQ λ_ _ x=>x
section
variable {X:Cx}
def lB(i:Nat):TE:=λσ H Q=>∃v,σ[i]?=some (some v)/\Q v H
def tC(v:V):TE:=λ_ H Q=>Q v H
def uH{i:Nat}{x:Str}{pos:Pos}(hN:X.N[i]?=some x)(hv:Vis X.env.scope x)(hd:(x==("__debug__" : Str))=false:=by decide)(hcd:(x==("__classdict__" : Str))=false:=by decide):PE X (.Name x pos) (lB i):=by
 intro xt s σ H Q I h;obtain⟨v,e,h⟩:=h;obtain⟨m,hn,hl⟩:=I.loc;obtain⟨u,r,l⟩:=hl i x v hN e hv;have fin:EP X xt σ Q u s:=⟨v,H,I,r,h⟩;rcases l with ⟨hk,hm⟩|⟨hk,c,hc,hcell⟩
 . exact wpAny_Name (wpAny_loadName_local I.ok.kind hk hn hm fin) hd
 . rcases hk with hk | hk
   . exact wpAny_Name (wpAny_loadName_cell I.ok.kind hk hc hcell fin) hd
   . exact wpAny_Name (wpAny_loadName_free I.ok.kind hk hc hcell fin hcd) hd
def xX:PE X (.Constant (.int i) j pos) (tC (.int i)):=λ_ _ _ H _ I h=>wpAny_Constant_int ⟨.int i,H,I.tok _,⟨_,rfl⟩,h⟩
def aa:PE X (.Constant (.bool b) j pos) (tC (.bl b)):=λ_ _ _ H _ I h=>Constant_bool ⟨.bl b,H,I,rfl,h⟩
def Jc:PE X (.Constant (.str x) j pos) (tC (.str x)):=λ_ _ _ H _ I h=>Calls.Constant_str ⟨.str x,H,I.tok _,⟨_,rfl⟩,h⟩
def Gl(X:Cx)(x:Str):Prop:=X.env.kindOf x=some .globalImplicit
def Xu{E:xc}{xt:xg}{s:xR}{σ:St}{H:Hp}{x:Str}{u:xQ}{pos:Pos}{Q:xc}(I:Inv X xt σ H s)(hg:Gl X x)(hm:X.mg x=some u)(h:Q u s)
 (hd:(x==("__debug__" : Str))=false:=by decide):wpAny (model X.prog X.w) X.A (eval (.Name x pos) X.env) Q E s :=
 Calls.Name_function_global I.ok.kind hg (Calls.loadGlobal_global (by rw[I.ok.glob];exact I.mod.glob.keeps I.bk) hm h) hd
def QR{E:xc}{xt:xg}{s:xR}{σ:St}{H:Hp}{x:Str}{u:xQ}{pos:Pos}{Q:xc}(I:Inv X xt σ H s)(hg:Gl X x)(hm:X.mg x=none)(hv:bootBuiltins x=some u)(h:Q u s)
 (hn:x ≠ "__name__" := by decide) (hd:(x==("__debug__" : Str))=false:=by decide):wpAny (model X.prog X.w) X.A (eval (.Name x pos) X.env) Q E s:=by
 obtain⟨mb,h1,h2⟩:=I.mod.blt;exact Calls.Name_function_global I.ok.kind hg (Calls.loadGlobal_builtin (by rw[I.ok.glob];exact I.mod.glob.keeps I.bk) hm (by rw[I.ok.blt];exact h1.keeps I.bk) ((h2 x hn).trans hv) h) hd
def uI(hg:Gl X x)(hm:X.mg x=some u)(r:RelV v u)(hd:(x==("__debug__" : Str))=false:=by decide):PE X (.Name x pos) (tC v) :=
 λ_ _ _ H _ I h=>Xu I hg hm ⟨v,H,I,r,h⟩ hd
def lC{x:Str}{v:V}{pos:Pos}(hg:Gl X x)(hm:X.mg x=none)(hv:bootBuiltins x=some u)(r:RelV v u)(hn:x ≠ "__name__" := by decide)(hd:(x==("__debug__" : Str))=false:=by decide):PE X (.Name x pos) (tC v) :=
 λ_ _ _ H _ I h=>QR I hg hm hv ⟨v,H,I,r,h⟩ hn hd
variable {a b:Expr}{ta tb:TE}{pos:Pos}
def tB(t:TE):TT:=λσ H Q=>t σ H λx H1=>∃c,x=.bl c/\Q c H1
def Y4(h:PE X e t)(he:∀whole,isTrue e X.env whole=(do let v <- whole;standAt e.pos;holding [v] (truthy v)):=by intro _;rfl):PT X e (tB t):=by
 intro xt s σ H Q I hw;refine isTrue_plain (thn (h xt s σ H _ I hw) λv s1 pc=>?_) (he _);obtain⟨x,H1,I1,r1,q1⟩:=pc;obtain⟨d,rfl,q⟩:=q1
 cases r1
 exact wpAny_truthy_bool ⟨H1,I1,q⟩
variable {tA tB':TT}{xy:List Expr}
def uJ(t u:TT):TT:=λσ H Q=>t σ H λc H1=>if c=true then u σ H1 Q else Q false H1
def tOr(t u:TT):TT:=λσ H Q=>t σ H λc H1=>if c=true then Q true H1 else u σ H1 Q
def uK(t:TT):TT:=λσ H Q=>t σ H λc H1=>Q (!c) H1
def lD(ha:PT X a tA):PW X (.BoolOp .And [a] pos) tA:=by
 intro wh xt s σ H Q I h;refine isTrue_and (thn (ha xt s σ H Q I h) λc s1 e=>?_)
 cases c with
 |true=>exact isTrue_and_nil e
 |false=>exact e
def dY(ha:PT X a tA):PW X (.BoolOp .Or [a] pos) tA:=by
 intro wh xt s σ H Q I h;refine isTrue_or (thn (ha xt s σ H Q I h) λc s1 e=>?_)
 cases c with
 |false=>exact isTrue_or_nil e
 |true=>exact e
def lE(ha:PT X a tA)(hb:PW X (.BoolOp .And (b::xy) pos) tB'):PW X (.BoolOp .And (a::b::xy) pos) (uJ tA tB'):=by
 intro wh xt s σ H Q I h;refine isTrue_and (thn (ha xt s σ H _ I h) λc s1 ⟨H1,I1,q1⟩=>?_)
 cases c with
 |true=>exact hb wh xt s1 σ H1 Q I1 q1
 |false=>exact⟨H1,I1,q1⟩
def dZ(ha:PT X a tA)(hb:PW X (.BoolOp .Or (b::xy) pos) tB'):PW X (.BoolOp .Or (a::b::xy) pos) (tOr tA tB'):=by
 intro wh xt s σ H Q I h;refine isTrue_or (thn (ha xt s σ H _ I h) λc s1 ⟨H1,I1,q1⟩=>?_)
 cases c with
 |true=>exact⟨H1,I1,q1⟩
 |false=>exact hb wh xt s1 σ H1 Q I1 q1
def lF(ha:PT X a tA):PT X (.UnaryOp .Not a pos) (uK tA):=by
 intro xt s σ H Q I h;exact isTrue_not (ha xt s σ H (λc H1=>Q (!c) H1) I h)
def uL(ta tb:TE):TE:=λσ H Q=>ta σ H λx H1=>∃c,x=.bl c/\if c=true then tb σ H1 Q else Q (.bl false) H1
def uM(ta tb:TE):TE:=λσ H Q=>ta σ H λx H1=>∃c,x=.bl c/\if c=true then Q (.bl true) H1 else tb σ H1 Q
def uN(ta:TE):TE:=λσ H Q=>ta σ H λx H1=>∃c,x=.bl c/\Q (.bl (!c)) H1
def Y5(h:PE X a t):PE X (.BoolOp op [a] pos) t:=λxt s σ H Q I hw=>BoolOp_one (h xt s σ H Q I hw)
def eh(ha:PE X a ta)(hb:PE X (.BoolOp .And (b::xy) pos) tb):PE X (.BoolOp .And (a::b::xy) pos) (uL ta tb):=by
 intro xt s σ H Q I h;refine BoolOp_and (thn (ha xt s σ H _ I h) λv s1 pc=>?_);obtain⟨x,H1,I1,r1,q1⟩:=pc;obtain⟨c,rfl,q1⟩:=q1
 cases r1
 refine wpAny_truthy_bool ?_
 cases c with
 |true=>exact hb xt s1 σ H1 Q I1 q1
 |false=>exact⟨.bl false,H1,I1,rfl,q1⟩
def lG(ha:PE X a ta)(hb:PE X (.BoolOp .Or (b::xy) pos) tb):PE X (.BoolOp .Or (a::b::xy) pos) (uM ta tb):=by
 intro xt s σ H Q I h;refine BoolOp_or (thn (ha xt s σ H _ I h) λv s1 pc=>?_);obtain⟨x,H1,I1,r1,q1⟩:=pc;obtain⟨c,rfl,q1⟩:=q1
 cases r1
 refine wpAny_truthy_bool ?_
 cases c with
 |false=>exact hb xt s1 σ H1 Q I1 q1
 |true=>exact⟨.bl true,H1,I1,rfl,q1⟩
def uO(ha:PE X a ta):PE X (.UnaryOp .Not a pos) (uN ta):=by
 intro xt s σ H Q I h;refine UnaryOp_ (thn (ha xt s σ H _ I h) λv s1 pc=>?_);obtain⟨x,H1,I1,r1,q1⟩:=pc;obtain⟨c,rfl,q1⟩:=q1
 cases r1
 exact not_of (wpAny_truthy_bool ⟨.bl (!c),H1,I1,rfl,q1⟩)
def tIf(t:TT)(ta tb:TE):TE:=λσ H Q=>t σ H λc H1=>if c=true then ta σ H1 Q else tb σ H1 Q
def XW(hc:PT X c tA)(ha:PE X a ta)(hb:PE X b tb):PE X (.IfExp c a b pos) (tIf tA ta tb):=by
 intro xt s σ H Q I h;refine wpAny_IfExp (thn (hc xt s σ H _ I h) λd s1 ⟨H1,I1,q1⟩=>?_)
 cases d with
 |true=>exact ha xt s1 σ H1 Q I1 q1
 |false=>exact hb xt s1 σ H1 Q I1 q1
end
def SqL(K:xh)(H:Hp)(a:xS)(xs:List V):Prop :=
 Rd H a (.lst xs) \/
  ∃(o:Obj) (its:xk) (n:Nat),K.lookup a=some o/\o.cls=.type "list" /\ o.dict=none/\o.data=.seq its n/\its.size<=sizeLine/\Vals xs its.toList
def SqT(K:xh)(H:Hp)(a:xS)(xs:List V):Prop :=
 Rd H a (.tup xs) \/
  ∃(o:Obj) (its:xk) (n:Nat),K.lookup a=some o/\o.cls=.type "tuple" /\ o.data=.seq its n/\its.size<=sizeLine/\Vals xs its.toList
def uP:xQ->Option V
 |.none=>some .non
 |.bool b=>some (.bl b)
 |.int i _=>some (.int i)
 |.str x _=>some (.str x)
 |.bytes b _=>some (.byt b)
 |.float b _=>some (.flt b)
 |.ref a=>some (.ref a)
 |.type n=>some (.ty n)
 |_=>none
def RelV.abs(r:RelV x u):uP u=some x:=by
 cases x with
 |non=>cases r;rfl
 |bl _=>cases r;rfl
 |int _=>obtain⟨t,rfl⟩:=r;rfl
 |str _=>obtain⟨t,rfl⟩:=r;rfl
 |byt _=>obtain⟨t,rfl⟩:=r;rfl
 |flt _=>obtain⟨t,rfl⟩:=r;rfl
 |ref _=>cases r;rfl
 |ty _=>cases r;rfl
theorem RelV.inj(r:RelV x u)(q:RelV y u):x=y:=Option.some.inj (r.abs.symm.trans q.abs)
theorem Vals.inj:∀{xs ys:List V}{us:xm},Vals xs us->Vals ys us->xs=ys
 |_,_,_,.nil,.nil=>rfl
 |_,_,_,.cons r t,.cons r' t'=>by rw[r.inj r',Vals.inj t t']
section
variable {X:Cx}{xt:xg}{σ:St}{H:Hp}{s:xR}{a:xS}{xs ys:List V}
def SqL.of{K:xh}(h:H a=some (.lst xs)):SqL K H a xs := .inl (.inl h)
def SqT.of{K:xh}(h:H a=some (.tup xs)):SqT K H a xs := .inl (.inl h)
def Inv.list(I:Inv X xt σ H s)(h:SqL X.K H a xs):∃its:xm,Vals xs its/\PlainL s.heap a its.toArray/\'h'<=sizeLine:=by
 rcases h with h|⟨o,its,n,hk,hc,hd,hs,hz,r⟩
 . obtain⟨z,its,n,r,e⟩:=h.ok I.hok;exact⟨its,r,⟨_,n,e,rfl,rfl,rfl⟩,z⟩
 . refine⟨its.toList,r,⟨o,n,I.kIn a o hk,hc,hd,by simpa using hs⟩,?_⟩;have e:=r.length;simp only[js]at e;omega
def Inv.tuple(I:Inv X xt σ H s)(h:SqT X.K H a xs):∃its:xm,Vals xs its/\IsTup s.heap a its.toArray/\'h'<=sizeLine:=by
 rcases h with h|⟨o,its,n,hk,hc,hs,hz,r⟩
 . obtain⟨z,its,r,p⟩:=h.ok I.hok;exact⟨its,r,p,z⟩
 . refine⟨its.toList,r,⟨o,I.kIn a o hk,hc,n,by simpa using hs⟩,?_⟩;have e:=r.length;simp only[js]at e;omega
def Inv.list_inj(I:Inv X xt σ H s)(h:SqL X.K H a xs)(h':SqL X.K H a ys):xs=ys:=by
 obtain⟨its,r,⟨o,n,e,_,_,d⟩,_⟩:=I.list h;obtain⟨its',r',⟨o',n',e',_,_,d'⟩,_⟩:=I.list h';rw[e]at e';cases e';rw[d]at d';injection d' with d1 _
 have:its=its':=by simpa using qG Array.toList d1
 subst this;exact r.inj r'
def Inv.tuple_inj(I:Inv X xt σ H s)(h:SqT X.K H a xs)(h':SqT X.K H a ys):xs=ys:=by
 obtain⟨its,r,⟨o,e,_,n,d⟩,_⟩:=I.tuple h;obtain⟨its',r',⟨o',e',_,n',d'⟩,_⟩:=I.tuple h';rw[e]at e';cases e';rw[d]at d';injection d' with d1 _
 have:its=its':=by simpa using qG Array.toList d1
 subst this;exact r.inj r'
end
abbrev Cx.wish(X:Cx)(E:xc):Cx:={ X with xe:=E }
abbrev Cx.nox(X:Cx):Cx:=X.wish λ_ _=>False
theorem Cx.Ok.wish{X:Cx}(ok:X.Ok)(E:xc):(X.wish E).Ok :=
 ⟨ok.mod,ok.kind,ok.glob,ok.blt,ok.above,ok.inj,ok.has,ok.cab,ok.hd,ok.frames,ok.stk,ok.exf,ok.bs,ok.bsz,ok.noex,ok.exfs,ok.funs,ok.frf⟩
def Cx.Ok.unwish{X:Cx}{E:xc}(ok:(X.wish E).Ok):X.Ok :=
 ⟨ok.mod,ok.kind,ok.glob,ok.blt,ok.above,ok.inj,ok.has,ok.cab,ok.hd,ok.frames,ok.stk,ok.exf,ok.bs,ok.bsz,ok.noex,ok.exfs,ok.funs,ok.frf⟩
section
variable {X:Cx}{xt:xg}{σ:St}{H:Hp}{s:xR}{E:xc}
theorem Inv.wish(I:Inv X xt σ H s)(E:xc):Inv (X.wish E) xt σ H s:=⟨I.ok.wish E,I.os,I.bare,I.base,I.loc,I.cell,I.free,I.freeC,I.pin,I.hok,I.len⟩
theorem Inv.unwish(I:Inv (X.wish E) xt σ H s):Inv X xt σ H s:=⟨I.ok.unwish,I.os,I.bare,I.base,I.loc,I.cell,I.free,I.freeC,I.pin,I.hok,I.len⟩
theorem SP.unwish(h:SP (X.wish E) xt D f s'):SP X xt D f s':=by
 cases f with
 |next=>obtain⟨σ',H',I,q⟩:=h;exact⟨σ',H',I.unwish,q⟩
 |brk=>obtain⟨σ',H',I,q⟩:=h;exact⟨σ',H',I.unwish,q⟩
 |cont=>obtain⟨σ',H',I,q⟩:=h;exact⟨σ',H',I.unwish,q⟩
 |ret u=>obtain⟨v,σ',H',I,r,q⟩:=h;exact⟨v,σ',H',I.unwish,r,q⟩
theorem PSs.nox{st:List Stmt}{t:TS}(h:PSs X.nox st t):PSs X st t:=λxt s σ H D I hw =>
 qq (h xt s σ H D (I.wish _) hw) (λ_ _ q=>q.unwish) λ_ _ z=>False.elim z
end
section
variable {X:Cx}{st:Stmt}{xy:List Stmt}{t u:TS}{e:Expr}{te:TE}{pos:Pos}
def lH:TS:=λD σ H=>D.nx σ H
def QS(t u:TS):TS:=λD σ H=>t { D with nx:=u D } σ H
def Jg:PSs X [] lH:=λ_ _ σ H _ I h=>xa ⟨σ,H,I,h⟩
def J0(h1:PS X st t)(h2:PSs X xy u):PSs X (st::xy) (QS t u):=by
 intro xt s σ H D I h;refine wpAny_execs_cons (thn (h1 xt s σ H { D with nx:=u D } I h) λf s1 q=>?_)
 cases f with
 |next =>
  obtain⟨σ',H',I',q⟩:=q;exact h2 xt s1 σ' H' D I' q
 |ret v=>exact q
 |brk=>exact q
 |cont=>exact q
def J2(h1:PS X st t):PSs X [st] t:=by
 intro xt s σ H D I h;refine wpAny_execs_cons (thn (h1 xt s σ H D I h) λf s1 q=>?_)
 cases f with
 |next=>exact xa q
 |ret v=>exact q
 |brk=>exact q
 |cont=>exact q
def Inv.quiet{xt:xg}{σ:St}{H:Hp}{s:xR}(I:Inv X xt σ H s):interactive X.env=false:=by simp[interactive,I.ok.kind]
def uQ(te:TE):TS:=λD σ H=>te σ H λ_ H1=>D.nx σ H1
def Qi(he:PE X e te)(hs:swapsWith e none pos.line X.env=pure false:=by rfl):PS X (.Expr e pos) (uQ te):=by
 intro xt s σ H D I h;exact wpAny_Expr_any (thn (he xt s σ H _ I h) λv s1 ⟨x,H1,I1,r1,q1⟩=>⟨σ,H1,I1,q1⟩) I.quiet hs
def eA(te:TE):TS:=λD σ H=>te σ H D.rt
def J7(he:PE X e te):PS X (.Return (some e) pos) (eA te):=by
 intro xt s σ H D I h;exact wpAny_Return_some (thn (he xt s σ H _ I h) λv s1 ⟨x,H1,I1,r1,q1⟩=>⟨x,σ,H1,I1,r1,q1⟩)
def ad(c:TT)(t u:TS):TS:=λD σ H=>c σ H λb H1=>if b=true then t D σ H1 else u D σ H1
def Je(hc:PT X c tc)(ha:PSs X a t)(hb:PSs X b u):PS X (.If c a b pos) (ad tc t u):=by
 intro xt s σ H D I h;refine wpAny_If (thn (hc xt s σ H _ I h) λd s1 ⟨H1,I1,q1⟩=>?_)
 cases d with
 |true=>exact ha xt s1 σ H1 D I1 q1
 |false=>exact hb xt s1 σ H1 D I1 q1
def uR:TS:=λ_ _ _=>False
def lI:PS X st uR:=λ_ _ _ _ _ _ h=>h.elim
end
abbrev TG:=V->St->Hp->(St->Hp->Prop)->Prop
abbrev TGs:=List V->St->Hp->(St->Hp->Prop)->Prop
def PG(X:Cx)(target:Expr)(t:TG):Prop :=
 ∀(xt:xg) (s:xR) (σ:St) (H:Hp) (v:V) (u:xQ) (Q:St->Hp->Prop),Inv X xt σ H s->RelV v u->t v σ H Q ->
  wpAny (model X.prog X.w) X.A (assign target X.env u) (λ_ s'=>∃σ' H',Inv X xt σ' H' s'/\Q σ' H') X.xe s
def PGs(X:Cx)(ts:List Expr)(t:TGs):Prop :=
 ∀(xt:xg) (s:xR) (σ:St) (H:Hp) (vs:List V) (us:xm) (Q:St->Hp->Prop),Inv X xt σ H s->Vals vs us->t vs σ H Q ->
  wpAny (model X.prog X.w) X.A (assignInOrder ((assignEach ts X.env).map (·.2)) us) (λ_ s'=>∃σ' H',Inv X xt σ' H' s'/\Q σ' H') X.xe s
section
variable {X:Cx}{pos:Pos}
def Jh(i:Nat):TG:=λv σ H Q=>Q (σ.set i (some v)) H
def Ju(hN:X.N.Nodup)(hi:X.N[i]?=some x)(hx:Loc X.env.scope x)(hf:X.fn x=true\/X.env.scope.names.lookup x=some .local:=by first|exact .inl rfl|exact .inr rfl|assumption):PG X (.Name x pos) (Jh i):=by
 intro xt s σ H v u Q I r h;exact wpAny_assign_Name (Y3 I hN hi hx r (λs' I'=>⟨_,H,I',h⟩) hf)
def eC:TGs:=λvs σ H Q=>vs=[]/\Q σ H
def Y6(t:TG)(u:TGs):TGs:=λvs σ H Q=>∃v r,vs=v::r/\t v σ H λσ' H'=>u r σ' H' Q
def Xa:PGs X [] eC:=by
 intro xt s σ H vs us Q I r h;obtain⟨e,h⟩:=h;subst e
 cases r
 exact assignInOrder_nil ⟨σ,H,I,h⟩
def JZ(h1:PG X e t)(h2:PGs X es u)
 (hs:(assignEach (e::es) X.env).map (·.2)=assign e X.env::(assignEach es X.env).map (·.2):=by rfl):PGs X (e::es) (Y6 t u):=by
 intro xt s σ H vs us Q I r h;obtain⟨v,vr,e1,h⟩:=h;subst e1
 cases r with
 |cons r rr =>
  rw[hs];refine assignInOrder_cons (thn (h1 xt s σ H _ _ _ I r h) λ_ s1 ⟨σ1,H1,I1,q1⟩=>?_);exact h2 xt s1 σ1 H1 _ _ Q I1 rr q1
def eE(K:xh)(n:Nat)(t:TGs):TG:=λv σ H Q=>∃a xs,v=.ref a/\SqT K H a xs/\'h'=n/\t xs σ H Q
def Xb{k:Nat}{n:Nat}(hc:X.calm=true)(h:PGs X es t)
 (hn:(assignEach es X.env).length=n:=by rfl) (hst:(assignEach es X.env).findIdx? (·.1)=none:=by rfl):PG X (.Tuple es k pos) (eE X.K n t):=by
 intro xt s σ H v u Q I r hw;obtain⟨a,xs,e1,hq,hl,hw⟩:=hw;subst e1
 cases r
 obtain⟨its,rv,ht,hz⟩:=I.tuple hq;refine assign_Tuple_tuple (I.ok.hd hc) ht (by simp[hn,<- hl,rv.length]) hst λh' hx=>?_;have I1:Inv X xt σ H { s with heap:=h' }:=I.kept (t':=s.toks) λb o e=>hx b o (jQ (jI e)) e;exact h xt _ σ H xs _ Q I1 (by simpa using rv) hw
def QH(te:TE)(g:TG):TS:=λD σ H=>te σ H λx H1=>g x σ H1 D.nx
def uS(he:PE X e te)(hg:PG X tg g)(hs:swapsWithSole [tg] e pos.line X.env=pure false:=by rfl)(hw:swappedStores [tg] e X.env=pure none:=by rfl)
 (h1:(assignEach [tg] X.env).map (·.2)=[assign tg X.env]:=by rfl):PS X (.Assign [tg] e pos) (QH te g):=by
 intro xt s σ H D I h;refine wpAny_Assign_stores (thn (he xt s σ H _ I h) λv s1 pc=>?_) hs hw;obtain⟨x,H1,I1,r1,q1⟩:=pc;rw[h1];exact thn (hg xt s1 σ H1 x v _ I1 r1 q1) λ_ s2 q=>q
def Ja(hN:X.N.Nodup)(hi:X.N[i]?=some x)(hx:Loc X.env.scope x)(he:PE X e te)(hs:swapsWith e (some (.Name x xO)) pos.line X.env=pure false:=by rfl)(hf:X.fn x=true\/X.env.scope.names.lookup x=some .local:=by first|exact .inl rfl|exact .inr rfl|assumption) :
 PS X (.Assign [.Name x xO] e pos) (QH te (Jh i)):=by
 intro xt s σ H D I h;refine wpAny_Assign_Name (thn (he xt s σ H _ I h) λv s1 pc=>?_) hs;obtain⟨y,H1,I1,r1,q1⟩:=pc;exact Y3 I1 hN hi hx r1 (λs2 I2=>⟨_,H1,I2,q1⟩) hf
def uT(i j:Nat)(ta:TA):TS:=λD σ H=>ta σ H λvs H1=>∃v w,vs=[v,w]/\D.nx ((σ.set i (some v)).set j (some w)) H1
def uU(hc:X.calm=true)(hN:X.N.Nodup)(hi:X.N[i]?=some x)(hj:X.N[j]?=some y)(xF:i≠j)
 (hx:X.env.scope.names.lookup x=some .local) (hy:X.env.scope.names.lookup y=some .local) (ha:PA X [a,b] ta)
 (hw:swappedStores [.Tuple [.Name x px,.Name y py] kt pt] (.Tuple [a,b] k2 pt2) X.env=pure (some [x,y]))
 (hs:swapsWithSole [.Tuple [.Name x px,.Name y py] kt pt] (.Tuple [a,b] k2 pt2) pos.line X.env=pure false:=by rfl) :
 PS X (.Assign [.Tuple [.Name x px,.Name y py] kt pt] (.Tuple [a,b] k2 pt2) pos) (uT i j ta):=by
 intro xt s σ H D I h;rw[exec_Assign_arm];refine q8 (wpAny_standAt ?_);rw[hs];refine q8 (qf ?_);rw[qg 'd'];refine q8 (Tuple_ (thn (ha _ xt s σ H _ I h) λus s1 pc=>?_));obtain⟨vs,H1,I1,r1,q1⟩:=pc;obtain⟨v,w,e1,q1⟩:=q1;subst e1
 obtain⟨u1,u2,rfl,rv,rw'⟩:∃u1 u2,us=[u1,u2]/\RelV v u1/\RelV w u2:=by
  cases r1 with
  |cons p q =>
   cases q with
   |cons p' q' =>
    cases q'
    exact⟨_,_,rfl,p,p'⟩
 refine qu ?_ (by show 2<=sizeLine;decide);have I2:Inv X xt σ H1 { s1 with heap:=s1.heap.push { cls := .type "tuple",data := .seq [u1,u2].toArray } }:=I1.kept (t':=s1.toks) λb o e=>jC _ e;rw[hw];refine q8 (qf ?_);show wpAny (model X.prog X.w) X.A (do rule "assign.swapped-stores";let items <- unpackItems (.ref s1.heap.objs.size) 2 none;assignInOrder [λv=>bindName X.env y v,λv=>bindName X.env x v] items.reverse;pure Flow.next) _ _ _;refine q8 (qZ (q8 (unpackItems_tuple (items:=#[u1,u2]) (I.ok.hd hc) (IsTup.new s1.heap _) λh' hx'=>?_)));have I3:=I2.kept (h':=h') (t':=s1.toks) λb o e=>hx' b o (jQ (jI e)) e;show wpAny _ _ (assignInOrder [λv=>bindName X.env y v,λv=>bindName X.env x v] [u2,u1] >>= λ_=>pure Flow.next) _ _ _;refine q8 (assignInOrder_cons (wpAny_bindName (Y3 I3 hN hj (.inl hy) rw' (λs2 I4=>?_) (.inr hy))));refine assignInOrder_cons (wpAny_bindName (Y3 I4 hN hi (.inl hx) rv (λs3 I5=>assignInOrder_nil (qf ?_)) (.inr hx)));rw[List.set_comm _ _ (Ne.symm xF)]at I5;exact⟨_,H1,I5,q1⟩
end
section
variable {X:Cx}{pos:Pos}
def lJ(c:TT)(tb:TS):TS:=λD σ H=>∃W:Nat->St->Hp->Prop,(∃m,W m σ H)/\∀m σ H,W m σ H ->
 c σ H λb H1=>if b=true then ∃N:St->Hp->Prop,(∀σ' H',N σ' H'->∃m',m'<m/\W m' σ' H')/\tb { D with nx:=N,ct:=N,bk:=D.nx } σ H1 else D.nx σ H1
def lK(hp:PassesOwn (model X.prog X.w) X.A X.env X.xe)(hc:PT X c tc)(hb:PSs X body tb):PS X (.While c body [] pos) (lJ tc tb):=by
 intro xt s σ H D I h;obtain⟨W,⟨m0,w0⟩,turn⟩:=h;refine wpAny_While (codeAny_whileLoop (λn s'=>∃σ' H',Inv X xt σ' H' s'/\W n σ' H') ?_ m0 ⟨σ,H,I,w0⟩);rintro n s1 ⟨σ1,H1,I1,w1⟩;refine qW hp (thn (hc xt s1 σ1 H1 _ I1 (turn n σ1 H1 w1)) λb s2 ⟨H2,I2,q2⟩=>?_)
 cases b with
 |true =>
  obtain⟨N,hN,q2⟩:=q2;rw[qh rfl];refine qW hp (thn (hb xt s2 σ1 H2 _ I2 q2) λf s3 q3=>?_)
  cases f with
  |next =>
   obtain⟨σ3,H3,I3,n3⟩:=q3;obtain⟨m',hm,w3⟩:=hN σ3 H3 n3;exact⟨m',hm,σ3,H3,I3,w3⟩
  |cont =>
   obtain⟨σ3,H3,I3,n3⟩:=q3;obtain⟨m',hm,w3⟩:=hN σ3 H3 n3;exact⟨m',hm,σ3,H3,I3,w3⟩
  |brk=>exact q3
  |ret v=>exact q3
 |false =>
  rw[qg jR];exact xa ⟨σ1,H2,I2,q2⟩
end
structure It where
 go:Nat->Hp->Prop
 yld:Nat->Hp->V->Hp->Prop
 stop:Nat->Hp->Prop
def FpOk(X:Cx)(xt:xg)(H:Hp)(b:xS):Prop :=
 H b=none/\b≠X.env.locals/\b∉X.fs/\(b∈X.ex\/X.s₀.heap.objs.size<=b)/\(∀x c,X.env.cells.lookup x=some c->c≠b)/\∀p∈X.pn++xt,p.1≠b
def Inv.fpOk{X:Cx}{xt:xg}{σ:St}{H H':Hp}{s:xR}{b:xS}(I:Inv X xt σ H s)(hb:'g'<=b)(hn:H' b=none):FpOk X xt H' b:=by
 refine⟨hn,jo (jS I.lt hb),I.nofs hb,.inr (jg I.sz hb),λx c e z=>?_,λp hp z=>?_⟩
 . obtain⟨v,q⟩:=I.cell x c e;exact absurd (jS q.lt (by rw[z];exact hb)) (kA _)
 . exact absurd (jS (jI (I.pin p hp).1) (by rw[z];exact hb)) (kA _)
structure Turn (P:xT) (w:xU) (K:xh) (tg:Expr) (J:It) (fp:List xS) (it:xS) (tn:Nat->Heap->Prop):Prop where
 mem:it∈fp
 obj:∀i h,tn i h->∀b∈fp,∃o,h.get? b=some o/\∀v,o.data ≠ .cell v
 keep:∀i h h',tn i h->(∀b∈fp,∀o,h.get? b=some o->h'.get? b=some o)->tn i h'
 item:∀(X:Cx),X.prog=P->X.w=w->X.K=K->X.calm=true->∀(i:Nat) (xt:xg) (s:xR) (σ:St) (H:Hp) (E:xc),Inv X xt σ H s->(∀b∈fp,FpOk X xt H b)->tn i s.heap->J.go i H ->
  wpAny (model P w) X.A (pyNext (.ref it)) (λr s1=>∃u,r=some u /\
   wpAny (model P w) X.A (letOwnedTupleGo tg (.ref it) u) (λ_ s2=>∃x H',Inv X xt σ H' s2/\RelV x u/\J.yld i H x H'/\tn (i+1) s2.heap/\∀b∈fp,H' b=none) E s1) E s
 done:∀(X:Cx),X.prog=P->X.w=w->X.K=K->X.calm=true->∀(i:Nat) (xt:xg) (s:xR) (σ:St) (H:Hp) (E:xc),Inv X xt σ H s->(∀b∈fp,FpOk X xt H b)->tn i s.heap->J.stop i H ->
  wpAny (model P w) X.A (pyNext (.ref it)) (λr s1=>r=none/\Inv X xt σ H s1) E s
 self:∀(A:xV) (i:Nat) (s:xR) (Q:xc) (E:xc),tn i s.heap->Q (.ref it) s->wpAny (model P w) A (pyIter (.ref it)) Q E s
abbrev TI:=St->Hp->(It->Hp->Prop)->Prop
def PIE(X:Cx)(xt:xg)(σ:St)(tg:Expr)(R:It->Hp->Prop)(itv:xQ)(s2:xR):Prop :=
 ∃(it:xS) (fp:List xS) (tn:Nat->Heap->Prop) (J:It) (H':Hp),itv=.ref it/\Inv X xt σ H' s2/\Turn X.prog X.w X.K tg J fp it tn/\tn 0 s2.heap/\(∀b∈fp,FpOk X xt H' b)/\R J H'
def PI(X:Cx)(tg xC:Expr)(wi:TI):Prop :=
 ∀(xt:xg) (s:xR) (σ:St) (H:Hp) (R:It->Hp->Prop),Inv X xt σ H s->wi σ H R ->
  wpAny (model X.prog X.w) X.A (eval xC X.env) (λv s1=>wpAny (model X.prog X.w) X.A (pyIter v) (PIE X xt σ tg R) X.xe s1) X.xe s
def ae(ho:'i' it=some o)(hc:o.cls=.type n)(hd:o.data=.fields vs)
 (hn:["enumerate", "zip", "dict_itemiterator", "dict_reverseitemiterator", "odict_iterator", "itertools.zip_longest", "itertools.pairwise"].contains n=false) (hQ:Q () s):wpAny M A (letOwnedTupleGo tg (.ref it) u) Q E s:=by
 unfold letOwnedTupleGo
 cases tg<;>first
  |exact qf hQ
  |(cases u<;>first
   |exact qf hQ
   | (refine q8 (wpAny_load ho ?_)
      rw[hc,hd];show wpAny M A (if (["enumerate", "zip", "dict_itemiterator", "dict_reverseitemiterator", "odict_iterator", "itertools.zip_longest", "itertools.pairwise"].contains n&&vs[0]?==some (rawInt _))=true then _ else _) Q E s;rw[qg (by intro h;rw[hn,Bool.false_and]at h;cases h)];exact qf hQ))
def Itl(K:xh)(a:xS):It :=
 ⟨λi H=>∃xs x,SqL K H a xs/\xs[i]?=some x,λi H x H'=>H'=H/\∀xs,SqL K H a xs->xs[i]?=some x,λi H=>∃xs,SqL K H a xs/\'h'<=i⟩
def Itt(K:xh)(a:xS):It :=
 ⟨λi H=>∃xs x,SqT K H a xs/\xs[i]?=some x,λi H x H'=>H'=H/\∀xs,SqT K H a xs->xs[i]?=some x,λi H=>∃xs,SqT K H a xs/\'h'<=i⟩
def Itr(lo:Int)(n:Nat):It:=⟨λi _=>i<n,λi H x H'=>H'=H/\x=.int (lo+i),λi _=>n<=i⟩
theorem lL{P:xT}{w:xU}{K:xh}{tg:Expr}(a it:xS):Turn P w K tg (Itl K a) [it] it (λi h=>h.IsListIter it a i) where
 mem:=by simp
 obj:=λi h st b hb=>by
  have e:b=it:=by simpa using hb
  subst e;obtain⟨o,e,c,d⟩:=st;exact⟨o,e,λv z=>by rw[d]at z;cases z⟩
 keep:=λi h h' st k=>st.at λo e=>k it 'f' o e
 item:=by
  intro X hP hw hK hc i xt s σ H E I hf st hg;subst hP hw hK;obtain⟨xs,x,hq,hx⟩:=hg;obtain⟨its,rv,p,hz⟩:=I.list hq;obtain⟨u,hu,ru⟩:=rv.get hx;obtain⟨f0,f1,f2,f3,f4,f5⟩:=hf it 'f';refine wpAny_pyNext_list_item st p.isList (x:=u) (by simpa using hu) λh' st' sb=>?_;have I1:Inv X xt σ H { s with heap:=h' }:=I.turned (t':=s.toks) (λb o hb e=>(sb.2 b hb).trans e) f0 f1 f3 f4 f5;obtain⟨o,e,c,d⟩:=id st';exact⟨u,rfl,ae (s:={ s with heap:=h' }) e c d 'd' ⟨x,H,I1,ru,⟨rfl,λys hy=>by rw[I.list_inj hy hq];exact hx⟩,st',λb hb=>(hf b hb).1⟩⟩
 done:=by
  intro X hP hw hK hc i xt s σ H E I hf st hg;subst hP hw hK;obtain⟨xs,hq,hx⟩:=hg;obtain⟨its,rv,p,hz⟩:=I.list hq;obtain⟨f0,f1,f2,f3,f4,f5⟩:=hf it 'f';have hl:=rv.length;exact wpAny_pyNext_list_end (I.ok.hd hc) st p.isList (by simp;omega) λh' eb=>⟨rfl,I.turned (t':=s.toks) (λb o hb e=>eb b o hb e) f0 f1 f3 f4 f5⟩
 self:=λ_ _ _ _ _ st h=>wpAny_pyIter_listiter st h
theorem lM{P:xT}{w:xU}{K:xh}{tg:Expr}(a it:xS):Turn P w K tg (Itt K a) [it] it (λi h=>h.IsTupleIter it a i) where
 mem:=by simp
 obj:=λi h st b hb=>by
  have e:b=it:=by simpa using hb
  subst e;obtain⟨o,e,c,d⟩:=st;exact⟨o,e,λv z=>by rw[d]at z;cases z⟩
 keep:=λi h h' st k=>st.at λo e=>k it 'f' o e
 item:=by
  intro X hP hw hK hc i xt s σ H E I hf st hg;subst hP hw hK;obtain⟨xs,x,hq,hx⟩:=hg;obtain⟨its,rv,p,hz⟩:=I.tuple hq;obtain⟨u,hu,ru⟩:=rv.get hx;obtain⟨f0,f1,f2,f3,f4,f5⟩:=hf it 'f';refine wpAny_pyNext_tuple_item st (show s.heap.IsTuple a its.toArray from p) (x:=u) (by simpa using hu) λh' st' sb=>?_;have I1:Inv X xt σ H { s with heap:=h' }:=I.turned (t':=s.toks) (λb o hb e=>(sb.2 b hb).trans e) f0 f1 f3 f4 f5;obtain⟨o,e,c,d⟩:=id st';exact⟨u,rfl,ae (s:={ s with heap:=h' }) e c d 'd' ⟨x,H,I1,ru,⟨rfl,λys hy=>by rw[I.tuple_inj hy hq];exact hx⟩,st',λb hb=>(hf b hb).1⟩⟩
 done:=by
  intro X hP hw hK hc i xt s σ H E I hf st hg;subst hP hw hK;obtain⟨xs,hq,hx⟩:=hg;obtain⟨its,rv,p,hz⟩:=I.tuple hq;obtain⟨f0,f1,f2,f3,f4,f5⟩:=hf it 'f';have hl:=rv.length;exact wpAny_pyNext_tuple_end (I.ok.hd hc) st (show s.heap.IsTuple a its.toArray from p) (by simp;omega) λh' eb=>⟨rfl,I.turned (t':=s.toks) (λb o hb e=>eb b o hb e) f0 f1 f3 f4 f5⟩
 self:=λ_ _ _ _ _ st h=>wpAny_pyIter_tupleiter st h
theorem uV{P:xT}{w:xU}{K:xh}{tg:Expr}(it:xS)(lo:Int)(n:Nat):Turn P w K tg (Itr lo n) [it] it (λi h=>IsRangeIter h it (lo+(i:Nat)*1) ((n:Int) - (i:Nat)) 1) where
 mem:=by simp
 obj:=λi h st b hb=>by
  have e:b=it:=by simpa using hb
  subst e
  exact⟨_,st,λv z=>by
   have z':Data.fields _=Data.cell v:=z
   cases z'⟩
 keep:=λi h h' st k=>k it 'f' _ st
 item:=by
  intro X hP hw hK hc i xt s σ H E I hf st hg;subst hP hw hK;obtain⟨f0,f1,f2,f3,f4,f5⟩:=hf it 'f';have W:=Walks.range (prog:=X.prog) (w:=X.w) (I.ok.hd hc) it lo 1 n;refine W.item i s _ _ hg st λv h' tk hv st' kk=>?_;obtain⟨t,rfl⟩:=hv;have I1:Inv X xt σ H { s with heap:=h',toks:=tk }:=I.turned (λb o hb e=>kk b o (by simpa using hb) e) f0 f1 f3 f4 f5;refine⟨_,rfl,ae (s:={ s with heap:=h',toks:=tk }) (n := "range_iterator") st' rfl rfl 'd' ⟨.int (lo+i),H,I1,⟨t,?_⟩,⟨rfl,rfl⟩,st',λb hb=>(hf b hb).1⟩⟩;rw[Int.mul_one]
 done:=by
  intro X hP hw hK hc i xt s σ H E I hf st hg;subst hP hw hK;obtain⟨f0,f1,f2,f3,f4,f5⟩:=hf it 'f';exact wpAny_pyNext_range_end (I.ok.hd hc) st (by have:n<=i:=hg;omega) λh' eb=>⟨rfl,I.turned (t':=s.toks) (λb o hb e=>eb b o hb e) f0 f1 f3 f4 f5⟩
 self:=λ_ _ _ _ _ st h=>wpAny_pyIter_rangeiter st h
section
variable {X:Cx}{tg:Expr}
def uW(K:xh)(tl:TE):TI:=λσ H R=>tl σ H λx H1=>∃a,x=.ref a/\(∃xs,SqL K H1 a xs)/\R (Itl K a) H1
def lN(K:xh)(tl:TE):TI:=λσ H R=>tl σ H λx H1=>∃a,x=.ref a/\(∃xs,SqT K H1 a xs)/\R (Itt K a) H1
def Qj(hl:PE X l tl):PI X tg l (uW X.K tl):=by
 intro xt s σ H R I h;refine thn (hl xt s σ H _ I h) λv s1 pc=>?_;obtain⟨x,H1,I1,r1,q1⟩:=pc;obtain⟨a,e,⟨xs,hq⟩,q⟩:=q1;subst e
 cases r1
 obtain⟨its,rv,p,hz⟩:=I1.list hq;refine wpAny_pyIter_list p.isList ?_;refine⟨s1.heap.objs.size,[s1.heap.objs.size],_,_,H1,rfl,I1.kept (t':=s1.toks) λb o e=>jC _ e,lL a _,⟨_,jH _ rfl,rfl,rfl⟩,λb hb=>?_,q⟩;have e:b=s1.heap.objs.size:=by simpa using hb
 subst e;exact I1.fpOk (jE _) (I1.hok.fresh (jE _))
def Y7(hl:PE X l tl):PI X tg l (lN X.K tl):=by
 intro xt s σ H R I h;refine thn (hl xt s σ H _ I h) λv s1 pc=>?_;obtain⟨x,H1,I1,r1,q1⟩:=pc;obtain⟨a,e,⟨xs,hq⟩,q⟩:=q1;subst e
 cases r1
 obtain⟨its,rv,p,hz⟩:=I1.tuple hq;refine wpAny_pyIter_tuple (show s1.heap.IsTuple a its.toArray from p) ?_;refine⟨s1.heap.objs.size,[s1.heap.objs.size],_,_,H1,rfl,I1.kept (t':=s1.toks) λb o e=>jC _ e,lM a _,⟨_,jH _ rfl,rfl,rfl⟩,λb hb=>?_,q⟩;have e:b=s1.heap.objs.size:=by simpa using hb
 subst e;exact I1.fpOk (jE _) (I1.hok.fresh (jE _))
def uX{xt:xg}{σ:St}{H:Hp}{s:xR}{R:It->Hp->Prop}{E:xc}{lo hi:Int}{t u v:Tok}{tk:Nat}(I:Inv X xt σ H s)(h1 : -(2 ^ 62)<=lo)(h2:lo<2 ^ 62)(h3 : -(2 ^ 62)<=hi)(h4:hi<2 ^ 62)
 (q:R (Itr lo (hi - lo).toNat) H):wpAny (model X.prog X.w) X.A (pyIter (.ref 'g')) (PIE X xt σ tg R) E { s with heap:=s.heap.push { cls := .type "range",data := .fields #[.int lo t,.int hi u,.int 1 v] },toks:=tk }:=by
 refine wpAny_pyIter_range (IsRange.new ..) (small_one h1 h2 h3 h4) ?_;have I1:Inv X xt σ H { s with heap:=s.heap.push { cls := .type "range",data := .fields #[.int lo t,.int hi u,.int 1 v] },toks:=tk }:=I.kept λb o e=>jC _ e
 refine⟨(s.heap.push { cls := .type "range",data := .fields #[.int lo t,.int hi u,.int 1 v] }).objs.size,[(s.heap.push { cls := .type "range",data := .fields #[.int lo t,.int hi u,.int 1 v] }).objs.size],_,_,H,rfl,
  I1.kept (t':=tk) λb o e=>jC _ e,uV _ lo (hi - lo).toNat,?_,λb hb=>?_,q⟩
 . have e1:lo + ((0:Nat):Int) * 1=lo:=by simp
   have e2:(((hi - lo).toNat:Nat):Int) - ((0:Nat):Int)=Builtin.Range.rangeSize lo hi 1:=by rw[rangeSize_one];split<;>omega
   show IsRangeIter _ _ (lo+((0:Nat):Int)*1) ((((hi - lo).toNat:Nat):Int) - ((0:Nat):Int)) 1;rw[e1,e2];exact jH _ rfl
 . have e:b=(s.heap.push { cls := .type "range",data := .fields #[.int lo t,.int hi u,.int 1 v] }).objs.size:=by simpa using hb
   subst e;exact I1.fpOk (jE _) (I1.hok.fresh (jE _))
def uY(ta:TA):TI:=λσ H R=>ta σ H λvs H1=>∃j:Int,vs=[.int j] /\ -(2 ^ 62)<=j/\j<2 ^ 62/\R (Itr 0 j.toNat) H1
def Zj(hg:Gl X "range")(hm:X.mg "range" = none)(ha:PA X [a] ta)(hs:starEach [a] X.env=[(false,eval a X.env)]:=by rfl):PI X tg (.Call (.Name "range" p) [a] [] pos) (uY ta):=by
 intro xt s σ H R I h;refine Call_ (QR I hg hm boot_range (PyProof.Rows.callWith_type1 (thn (ha pos xt s σ H _ I h) λus s1 pc=>?_) hs rfl));obtain⟨vs,H1,I1,r1,q1⟩:=pc;obtain⟨j,e,q1,q2,q⟩:=q1;subst e
 cases r1 with
 |cons r rr =>
  cases rr
  obtain⟨t,rfl⟩:=r;exact call_range_1 (uX I1 'c' 'c' q1 q2 (by simpa using q))
def lO(wi:TI)(g:TG)(tb:TS):TS:=λD σ H=>wi σ H λJ H1=>∃W:Nat->Nat->St->Hp->Prop,(∃m,W 0 m σ H1)/\∀i m σ H,W i m σ H ->
 (J.stop i H/\D.nx σ H)\/(J.go i H/\∃N:St->Hp->Prop,(∀σ' H',N σ' H'->∃m',m'<m/\W (i+1) m' σ' H')/\∀x H',J.yld i H x H'->g x σ H' λxM H2=>tb { D with nx:=N,ct:=N,bk:=D.nx } xM H2)
def Y8(fp:List xS)(h:Heap):xg:=fp.filterMap λb=>(h.get? b).map λo=>(b,o)
def af(hb:b∈fp)(e:h.get? b=some o):(b,o)∈Y8 fp h:=List.mem_filterMap.mpr ⟨b,hb,by rw[e];rfl⟩
def uZ(hp:p∈Y8 fp h):p.1∈fp/\h.get? p.1=some p.2:=by
 obtain⟨b,hb,e⟩:=List.mem_filterMap.mp hp
 cases q:h.get? b with
 |none=>rw[q]at e;cases e
 |some o =>
  rw[q]at e;have e':(b,o)=p:=Option.some.inj e;subst e';exact⟨hb,q⟩
def Inv.pinned{xt:xg}{σ:St}{H:Hp}{s:xR}{fp:List xS}(I:Inv X xt σ H s)(hf:∀b∈fp,FpOk X xt H b)(ho:∀b∈fp,∃o,'i' b=some o/\∀v,o.data ≠ .cell v):Inv X (xt++Y8 fp s.heap) σ H s :=
 I.pins_of λp hp=>(je.mp hp).elim (λz=>I.pin p (jY _ z)) λz=>by
  obtain⟨hb,e⟩:=uZ z;obtain⟨f0,f1,f2,_⟩:=hf p.1 hb;obtain⟨o,e',d⟩:=ho p.1 hb;rw[e]at e';cases e';exact⟨e,f0,f1,f2,d⟩
def Inv.unpinned{xt pl:xg}{σ:St}{H:Hp}{s:xR}(I:Inv X (xt++pl) σ H s):Inv X xt σ H s:=I.pins_of λp hp=>I.pin p (jY _ (jw _ hp))
def QI(hp:PassesOwn (model X.prog X.w) X.A X.env X.xe)(hc:X.calm=true)(hi:PI X tg xC wi)(hg:PG X tg g)(hb:PSs X body tb)
 (hs:∀x,foldedSetIterable xC X.env x=pure x:=by intro _;rfl):PS X (.For tg xC body [] pos) (lO wi g tb):=by
 intro xt s σ H D I h;refine wpAny_For (thn (hi xt s σ H _ I h) λv s1 h1=>thn h1 λitv s2 h2=>?_) hs;obtain⟨it,fp,tn,J,H2,e,I2,T,st2,f2,W,⟨m0,w0⟩,turn⟩:=h2;subst e
 -- what stays true of the iterator's objects through the loop
 have stat:∀{H':Hp},(∀b∈fp,H' b=none)->∀b∈fp,FpOk X xt H' b:=λhn b hb=>⟨hn b hb,(f2 b hb).2⟩;refine codeAny_forLoop_any (λn s'=>∃i σ' H',Inv X xt σ' H' s'/\tn i s'.heap/\(∀b∈fp,H' b=none)/\W i n σ' H') ?_ m0 ⟨0,σ,H2,I2,st2,λb hb=>(f2 b hb).1,w0⟩;rintro n s3 ⟨i,σ3,H3,I3,st3,fr3,w3⟩;rcases turn i n σ3 H3 w3 with ⟨stop,qn⟩|⟨go,N,hN,step⟩
 . refine qW hp (thn (T.done X rfl rfl rfl hc i xt s3 σ3 H3 X.xe I3 (stat fr3) st3 stop) λr s4 ⟨hr,I4⟩=>?_);subst hr;exact xa ⟨σ3,H3,I4,qn⟩
 . refine qW hp (thn (T.item X rfl rfl rfl hc i xt s3 σ3 H3 X.xe I3 (stat fr3) st3 go) λr s4 ⟨u,hr,h4⟩=>?_);subst hr;refine qW hp (thn h4 λ_ s5 pc=>?_);obtain⟨x,H5,I5,r5,y5,st5,fr5⟩:=pc;have I5':=I5.pinned (stat fr5) (T.obj _ _ st5);refine qW hp (thn (hg _ s5 σ3 H5 x u _ I5' r5 (step x H5 y5)) λ_ s6 ⟨σ6,H6,I6,q6⟩=>?_);refine qW hp (thn (hb _ s6 σ6 H6 _ I6 q6) λf s7 q7=>?_)
   have again:∀{σ7:St}{H7:Hp},Inv X (xt++Y8 fp s5.heap) σ7 H7 s7->N σ7 H7->∃m,m<n/\∃i σ' H',Inv X xt σ' H' s7/\tn i s7.heap/\(∀b∈fp,H' b=none)/\W i m σ' H':=fun {σ7 H7} I7 n7=>by
    obtain⟨m',hm,w7⟩:=hN σ7 H7 n7;refine⟨m',hm,i+1,σ7,H7,I7.unpinned,T.keep _ _ _ st5 λb hb o e=>(I7.pin (b,o) (jY _ (jY _ (af hb e)))).1,λb hb=>?_,w7⟩;obtain⟨o,e,d⟩:=T.obj _ _ st5 b hb;exact(I7.pin (b,o) (jY _ (jY _ (af hb e)))).2.1
   cases f with
   |next=>obtain⟨σ7,H7,I7,n7⟩:=q7;exact again I7 n7
   |cont=>obtain⟨σ7,H7,I7,n7⟩:=q7;exact again I7 n7
   |brk=>obtain⟨σ7,H7,I7,q7⟩:=q7;exact⟨σ7,H7,I7.unpinned,q7⟩
   |ret v=>obtain⟨x7,σ7,H7,I7,r7,q7⟩:=q7;exact⟨x7,σ7,H7,I7.unpinned,r7,q7⟩
end
def X1{K:xh}{a:xS}{xs:List V}{g:TG}{tb:TS}{D:Ends}{σ:St}{H:Hp}(Pv:Nat->St->Hp->Prop)(h0:Pv 0 σ H)(hl:∀i σ H,i<='h'->Pv i σ H->SqL K H a xs)
 (hs:∀i x σ H,xs[i]?=some x->Pv i σ H->g x σ H λxM H2=>tb { D with nx:=Pv (i+1),ct:=Pv (i+1),bk:=D.nx } xM H2) (hd:∀σ H,Pv 'h' σ H->D.nx σ H) :
 ∃W:Nat->Nat->St->Hp->Prop,(∃m,W 0 m σ H)/\∀i m σ H,W i m σ H ->
  ((Itl K a).stop i H/\D.nx σ H)\/((Itl K a).go i H/\∃N:St->Hp->Prop,(∀σ' H',N σ' H'->∃m',m'<m/\W (i+1) m' σ' H')/\∀x H',(Itl K a).yld i H x H'->g x σ H' λxM H2=>tb { D with nx:=N,ct:=N,bk:=D.nx } xM H2):=by
 refine⟨λi m σ H=>m='h' - i/\i<='h'/\Pv i σ H,⟨'h',by simp,jT _,h0⟩,?_⟩;rintro i m σ H ⟨rfl,hi,p⟩;have q:=hl i σ H hi p
 by_cases hlt:i<'h'
 . refine .inr ⟨⟨xs,xs[i],q,by simp[hlt]⟩,Pv (i+1),λσ' H' p'=>⟨'h' - (i+1),by omega,rfl,hlt,p'⟩,λx H' y=>?_⟩;obtain⟨e,y⟩:=y;subst e;exact hs i x σ _ (y xs q) p
 . have e:i=xs.length:=by omega
   subst e;exact .inl ⟨⟨xs,q,jE _⟩,hd σ H p⟩
def v0{K:xh}{a:xS}{xs:List V}{g:TG}{tb:TS}{D:Ends}{σ:St}{H:Hp}(Pv:Nat->St->Hp->Prop)(h0:Pv 0 σ H)(hl:∀i σ H,i<='h'->Pv i σ H->SqT K H a xs)
 (hs:∀i x σ H,xs[i]?=some x->Pv i σ H->g x σ H λxM H2=>tb { D with nx:=Pv (i+1),ct:=Pv (i+1),bk:=D.nx } xM H2) (hd:∀σ H,Pv 'h' σ H->D.nx σ H) :
 ∃W:Nat->Nat->St->Hp->Prop,(∃m,W 0 m σ H)/\∀i m σ H,W i m σ H ->
  ((Itt K a).stop i H/\D.nx σ H)\/((Itt K a).go i H/\∃N:St->Hp->Prop,(∀σ' H',N σ' H'->∃m',m'<m/\W (i+1) m' σ' H')/\∀x H',(Itt K a).yld i H x H'->g x σ H' λxM H2=>tb { D with nx:=N,ct:=N,bk:=D.nx } xM H2):=by
 refine⟨λi m σ H=>m='h' - i/\i<='h'/\Pv i σ H,⟨'h',by simp,jT _,h0⟩,?_⟩;rintro i m σ H ⟨rfl,hi,p⟩;have q:=hl i σ H hi p
 by_cases hlt:i<'h'
 . refine .inr ⟨⟨xs,xs[i],q,by simp[hlt]⟩,Pv (i+1),λσ' H' p'=>⟨'h' - (i+1),by omega,rfl,hlt,p'⟩,λx H' y=>?_⟩;obtain⟨e,y⟩:=y;subst e;exact hs i x σ _ (y xs q) p
 . have e:i=xs.length:=by omega
   subst e;exact .inl ⟨⟨xs,q,jE _⟩,hd σ H p⟩
def v6{lo:Int}{n:Nat}{g:TG}{tb:TS}{D:Ends}(Pv:Nat->St->Hp->Prop)(h0:Pv 0 σ H)
 (hs:∀i σ H,i<n->Pv i σ H->g (.int (lo+i)) σ H λxM H2=>tb { D with nx:=Pv (i+1),ct:=Pv (i+1),bk:=D.nx } xM H2) (hd:∀σ H,Pv n σ H->D.nx σ H) :
 ∃W:Nat->Nat->St->Hp->Prop,(∃m,W 0 m σ H)/\∀i m σ H,W i m σ H ->
  ((Itr lo n).stop i H/\D.nx σ H)\/((Itr lo n).go i H/\∃N:St->Hp->Prop,(∀σ' H',N σ' H'->∃m',m'<m/\W (i+1) m' σ' H')/\∀x H',(Itr lo n).yld i H x H'->g x σ H' λxM H2=>tb { D with nx:=N,ct:=N,bk:=D.nx } xM H2):=by
 refine⟨λi m σ H=>m=n - i/\i<=n/\Pv i σ H,⟨n,by simp,jT _,h0⟩,?_⟩;rintro i m σ H ⟨rfl,hi,p⟩
 by_cases hlt:i<n
 . refine .inr ⟨hlt,Pv (i+1),λσ' H' p'=>⟨n - (i+1),by omega,rfl,hlt,p'⟩,λx H' y=>?_⟩;obtain⟨e,y⟩:=y;subst e y;exact hs i σ _ hlt p
 . have e:i=n:=by omega
   subst e;exact .inl ⟨jE _,hd σ H p⟩
def lP(Pv:St->Hp->Prop)(μ:St->Hp->Nat)(h0:Pv σ H)
 (hs:∀σ H,Pv σ H->c σ H λb H1=>if b=true then tb { D with nx:=λσ' H'=>Pv σ' H'/\μ σ' H'<μ σ H,ct:=λσ' H'=>Pv σ' H'/\μ σ' H'<μ σ H,bk:=D.nx } σ H1 else D.nx σ H1)
 (mono:∀σ H Q Q',(∀b H1,Q b H1->Q' b H1)->c σ H Q->c σ H Q'):lJ c tb D σ H:=by
 refine⟨λm σ H=>m=μ σ H/\Pv σ H,⟨_,rfl,h0⟩,?_⟩;rintro m σ H ⟨rfl,p⟩;refine mono σ H _ _ (λb H1 q=>?_) (hs σ H p)
 cases b with
 |true=>exact⟨_,λσ' H' ⟨p',l⟩=>⟨_,l,rfl,p'⟩,q⟩
 |false=>exact q
abbrev R2:=V->V->Hp->VK->Prop
def OpR(X:Cx)(f:xQ->xQ->Sem xQ)(r:R2):Prop :=
 ∀(xt:xg) (s:xR) (σ:St) (H:Hp) (x y:V) (v u:xQ) (Q:VK),Inv X xt σ H s->RelV x v->RelV y u->r x y H Q ->
  wpAny (model X.prog X.w) X.A (f v u) (EP X xt σ Q) X.xe s
def UnR(X:Cx)(f:xQ->Sem xQ)(r:V->Hp->VK->Prop):Prop :=
 ∀(xt:xg) (s:xR) (σ:St) (H:Hp) (x:V) (v:xQ) (Q:VK),Inv X xt σ H s->RelV x v->r x H Q ->
  wpAny (model X.prog X.w) X.A (f v) (EP X xt σ Q) X.xe s
def CallR(X:Cx)(f:xQ)(r:List V->Hp->VK->Prop):Prop :=
 ∀(xt:xg) (s:xR) (σ:St) (H:Hp) (xs:List V) (us:xm) (Q:VK),Inv X xt σ H s->Vals xs us->r xs H Q ->
  wpAny (model X.prog X.w) X.A (call f us) (EP X xt σ Q) X.xe s
def tOp(r:R2)(ta tb:TE):TE:=λσ H Q=>ta σ H λx H1=>tb σ H1 λy H2=>r x y H2 Q
def tUn(r:V->Hp->VK->Prop)(ta:TE):TE:=λσ H Q=>ta σ H λx H1=>r x H1 Q
def rI(C:Int->Int->Prop)(g:Int->Int->V):R2:=λx y H Q=>∃i j,x=.int i/\y=.int j/\C i j/\Q (g i j) H
def rI0(g:Int->Int->V):R2:=λx y H Q=>∃i j,x=.int i/\y=.int j/\Q (g i j) H
def rU(g:Int->V):V->Hp->VK->Prop:=λx H Q=>∃i,x=.int i/\Q (g i) H
section
variable {X:Cx}{a b c:Expr}{ta tb tc:TE}{pos:Pos}
def eI(ha:PE X a ta)(hb:PE X b tb){xt:xg}{s:xR}{σ:St}{H:Hp}{R:V->V->Hp->Prop}(I:Inv X xt σ H s)
 (h:ta σ H λx H1=>tb σ H1 λy H2=>R x y H2) {Q:xc}{f:xQ->xQ->Sem xQ}
 (hf:∀v u s2 x y H2,Inv X xt σ H2 s2->RelV x v->RelV y u->R x y H2->wpAny (model X.prog X.w) X.A (f v u) Q X.xe s2) :
 wpAny (model X.prog X.w) X.A (eval a X.env) (λv s₁=>wpAny (model X.prog X.w) X.A (eval b X.env) (λu s₂=>wpAny (model X.prog X.w) X.A (f v u) Q X.xe s₂) X.xe s₁) X.xe s:=by
 refine thn (ha xt s σ H _ I h) λv s1 pc=>?_;obtain⟨x,H1,I1,r1,q1⟩:=pc;refine thn (hb xt s1 σ H1 _ I1 q1) λu s2 pc=>?_;obtain⟨y,H2,I2,r2,q2⟩:=pc;exact hf v u s2 x y H2 I2 r1 r2 q2
def J5(ho:OpR X (binaryOp op) r)(ha:PE X a ta)(hb:PE X b tb):PE X (.BinOp a op b pos) (tOp r ta tb):=by
 intro xt s σ H Q I h;exact wpAny_BinOp (eI ha hb I h λv u s2 x y H2 I2 rx ry q=>ho xt s2 σ H2 x y v u Q I2 rx ry q)
def v7(ho:UnR X (unaryOp op) r)(ha:PE X a ta):PE X (.UnaryOp op a pos) (tUn r ta):=by
 intro xt s σ H Q I h;exact UnaryOp_ (thn (ha xt s σ H _ I h) λv s1 ⟨x,H1,I1,r1,q1⟩=>ho xt s1 σ H1 x v Q I1 r1 q1)
def opI{f:xQ->xQ->Sem xQ}{C:Int->Int->Prop}{g:Int->Int->Int}
 (rule:∀(i j:Int) (t u:Tok) (s:xR) (Q:xc) (E:xc),C i j->Q (.int (g i j) s.toks) { s with toks:=s.toks+1 }->wpAny (model X.prog X.w) X.A (f (.int i t) (.int j u)) Q E s) :
 OpR X f (rI C λi j => .int (g i j)):=by
 intro xt s σ H x y v u Q I rx ry h;obtain⟨i,j,rfl,rfl,hc,q⟩:=h;obtain⟨t,rfl⟩:=rx;obtain⟨t',rfl⟩:=ry;exact rule i j t t' s _ _ hc ⟨.int (g i j),H,I.tok _,⟨_,rfl⟩,q⟩
def lQ{f:xQ->xQ->Sem xQ}{g:Int->Int->Int}
 (rule:∀(i j:Int) (t u:Tok) (s:xR) (Q:xc) (E:xc),Q (.int (g i j) s.toks) { s with toks:=s.toks+1 }->wpAny (model X.prog X.w) X.A (f (.int i t) (.int j u)) Q E s) :
 OpR X f (rI0 λi j => .int (g i j)):=by
 intro xt s σ H x y v u Q I rx ry h;obtain⟨i,j,rfl,rfl,q⟩:=h;obtain⟨t,rfl⟩:=rx;obtain⟨t',rfl⟩:=ry;exact rule i j t t' s _ _ ⟨.int (g i j),H,I.tok _,⟨_,rfl⟩,q⟩
def Y9{f:xQ->xQ->Sem xQ}{g:Int->Int->Bool}
 (rule:∀(i j:Int) (t u:Tok) (s:xR) (Q:xc) (E:xc),Q (.bool (g i j)) s->wpAny (model X.prog X.w) X.A (f (.int i t) (.int j u)) Q E s) :
 OpR X f (rI0 λi j => .bl (g i j)):=by
 intro xt s σ H x y v u Q I rx ry h;obtain⟨i,j,rfl,rfl,q⟩:=h;obtain⟨t,rfl⟩:=rx;obtain⟨t',rfl⟩:=ry;exact rule i j t t' s _ _ ⟨.bl (g i j),H,I,rfl,q⟩
def v8(i j:Int):Prop:=0<=j/\j<=1000000/\i.natAbs<2 ^ 64
def Jz:OpR X (binaryOp .Add) (rI0 λi j => .int (i+j)):=lQ λ_ _ _ _ _ _ _ q=>add_int q
def ag:OpR X (binaryOp .Sub) (rI0 λi j => .int (i - j)):=lQ λ_ _ _ _ _ _ _ q=>sub_int q
def Jv:OpR X (binaryOp .Mod) (rI (λ_ j=>0<j) λi j => .int (i % j)):=opI λi j _ _ _ _ _ hc q=>by
 have h1:(0:Int)<j:=hc;exact mod_int' 'c' (by rw[Int.fmod_eq_emod_of_nonneg i 'c'];exact q)
def Yb:OpR X (binaryOp .Pow) (rI v8 λi j => .int (i ^ j.toNat)):=opI λ_ _ _ _ _ _ _ hc q=>pow_int_small hc.1 hc.2.1 hc.2.2 q
def unI{f:xQ->Sem xQ}{g:Int->Int}
 (rule:∀(i:Int) (t:Tok) (s:xR) (Q:xc) (E:xc),Q (.int (g i) s.toks) { s with toks:=s.toks+1 }->wpAny (model X.prog X.w) X.A (f (.int i t)) Q E s) :
 UnR X f (rU λi => .int (g i)):=by
 intro xt s σ H x v Q I rx h;obtain⟨i,rfl,q⟩:=h;obtain⟨t,rfl⟩:=rx;exact rule i t s _ _ ⟨.int (g i),H,I.tok _,⟨_,rfl⟩,q⟩
def v9:UnR X (unaryOp .USub) (rU λi => .int (-i)):=unI λ_ _ _ _ _ q=>neg_int q
end
def lR:V->V->Bool
 |.non,.non=>true | .non,.int _=>true | .int _,.non=>true | .non,.bl _=>true | .bl _,.non=>true | .non,.str _=>true | .str _,.non=>true
 |.int _,.int _=>true | .bl _,.bl _=>true | .str _,.str _=>true | .byt _,.byt _=>true
 |.int _,.str _=>true | .str _,.int _=>true | .bl _,.str _=>true | .str _,.bl _=>true
 |_,_=>false
def rEq:R2:=λx y H Q=>lR x y=true/\Q (.bl (decide (x=y))) H
def rNe:R2:=λx y H Q=>lR x y=true/\Q (.bl (!decide (x=y))) H
def lS:decide (V.int i=V.int j)=(i==j):=by
 rw[Bool.eq_iff_iff];simp
def lU:decide (V.bl i=V.bl j)=(i==j):=by
 rw[Bool.eq_iff_iff];simp
def lV:decide (V.str i=V.str j)=(i==j):=by
 rw[Bool.eq_iff_iff];simp
def lW:decide (V.byt i=V.byt j)=(i.toList==j.toList):=by
 rw[Bool.eq_iff_iff]
 cases i
 cases j
 simp
section
variable {X:Cx}{a b c:Expr}{ta tb tc:TE}{pos:Pos}
def Jx{xt:xg}{σ:St}{H:Hp}{s:xR}{Q:VK}{k k':Bool}(I:Inv X xt σ H s)(q:Q (.bl k) H)(e:k=k'):EP X xt σ Q (.bool k') s:=by
 subst e;exact⟨.bl k,H,I,rfl,q⟩
def lX:OpR X (compareOp .Eq) rEq:=by
 intro xt s σ H x y v u Q I rx ry h;obtain⟨hs,q⟩:=h
 cases x with
 |non =>
  cases rx
  cases y with
  |non=>cases ry;exact PySem.EqNone.eq_none_none (Jx I q 'f')
  |bl j=>cases ry;exact PySem.EqNone.eq_none_bool (Jx I q 'f')
  |int j=>obtain⟨t',rfl⟩:=ry;exact PySem.EqNone.eq_none_int (Jx I q 'f')
  |str j=>obtain⟨t',rfl⟩:=ry;exact PySem.EqNone.eq_none_str (Jx I q 'f')
  |_=>exact absurd (show false=true from hs) jR
 |bl i =>
  cases rx
  cases y with
  |non=>cases ry;exact PySem.EqNone.eq_bool_none (Jx I q 'f')
  |bl j=>cases ry;exact eq_bool (Jx I q lU)
  |str j=>obtain⟨t',rfl⟩:=ry;exact PySem.EqMixed.eq_bool_str (Jx I q 'f')
  |_=>exact absurd (show false=true from hs) jR
 |int i =>
  obtain⟨t,rfl⟩:=rx
  cases y with
  |non=>cases ry;exact PySem.EqNone.eq_int_none (Jx I q 'f')
  |int j=>obtain⟨t',rfl⟩:=ry;exact eq_int (Jx I q lS)
  |str j=>obtain⟨t',rfl⟩:=ry;exact PySem.EqMixed.eq_int_str (Jx I q 'f')
  |_=>exact absurd (show false=true from hs) jR
 |str i =>
  obtain⟨t,rfl⟩:=rx
  cases y with
  |non=>cases ry;exact PySem.EqNone.eq_str_none (Jx I q 'f')
  |bl j=>cases ry;exact PySem.EqMixed.eq_str_bool (Jx I q 'f')
  |int j=>obtain⟨t',rfl⟩:=ry;exact PySem.EqMixed.eq_str_int (Jx I q 'f')
  |str j=>obtain⟨t',rfl⟩:=ry;exact eq_str (Jx I q lV)
  |_=>exact absurd (show false=true from hs) jR
 |byt i =>
  obtain⟨t,rfl⟩:=rx
  cases y with
  |byt j=>obtain⟨t',rfl⟩:=ry;exact PySem.W.eq_bytes (Jx I q lW)
  |_=>exact absurd (show false=true from hs) jR
 |_=>cases y<;>exact absurd (show false=true from hs) jR
def lY:OpR X (compareOp .NotEq) rNe:=by
 intro xt s σ H x y v u Q I rx ry h;obtain⟨hs,q⟩:=h
 cases x with
 |non =>
  cases rx
  cases y with
  |non=>cases ry;exact PySem.EqNone.ne_none_none (Jx I q 'f')
  |bl j=>cases ry;exact PySem.EqNone.ne_none_bool (Jx I q 'f')
  |int j=>obtain⟨t',rfl⟩:=ry;exact PySem.EqNone.ne_none_int (Jx I q 'f')
  |str j=>obtain⟨t',rfl⟩:=ry;exact PySem.EqNone.ne_none_str (Jx I q 'f')
  |_=>exact absurd (show false=true from hs) jR
 |bl i =>
  cases rx
  cases y with
  |non=>cases ry;exact PySem.EqNone.ne_bool_none (Jx I q 'f')
  |bl j=>cases ry;exact ne_bool (Jx I q (qG not lU))
  |str j=>obtain⟨t',rfl⟩:=ry;exact PySem.EqMixed.ne_bool_str (Jx I q 'f')
  |_=>exact absurd (show false=true from hs) jR
 |int i =>
  obtain⟨t,rfl⟩:=rx
  cases y with
  |non=>cases ry;exact PySem.EqNone.ne_int_none (Jx I q 'f')
  |int j=>obtain⟨t',rfl⟩:=ry;exact ne_int (Jx I q (qG not lS))
  |str j=>obtain⟨t',rfl⟩:=ry;exact PySem.EqMixed.ne_int_str (Jx I q 'f')
  |_=>exact absurd (show false=true from hs) jR
 |str i =>
  obtain⟨t,rfl⟩:=rx
  cases y with
  |non=>cases ry;exact PySem.EqNone.ne_str_none (Jx I q 'f')
  |bl j=>cases ry;exact PySem.EqMixed.ne_str_bool (Jx I q 'f')
  |int j=>obtain⟨t',rfl⟩:=ry;exact PySem.EqMixed.ne_str_int (Jx I q 'f')
  |str j=>obtain⟨t',rfl⟩:=ry;exact ne_str (Jx I q (qG not lV))
  |_=>exact absurd (show false=true from hs) jR
 |byt i =>
  obtain⟨t,rfl⟩:=rx
  cases y with
  |byt j=>obtain⟨t',rfl⟩:=ry;exact PySem.W.ne_bytes (Jx I q (qG not lW))
  |_=>exact absurd (show false=true from hs) jR
 |_=>cases y<;>exact absurd (show false=true from hs) jR
def Yc:OpR X (compareOp .Lt) (rI0 λi j => .bl (decide (i<j))):=Y9 λ_ _ _ _ _ _ _ q=>lt_int q
def va:OpR X (compareOp .LtE) (rI0 λi j => .bl (decide (i<=j))):=Y9 λ_ _ _ _ _ _ _ q=>le_int q
def ai:OpR X (compareOp .Gt) (rI0 λi j => .bl (decide (j<i))):=Y9 λ_ _ _ _ _ _ _ q=>gt_int q
def lZ:OpR X (compareOp .NotIn) (λx y H Q=>∃i j,x=.str i/\y=.str j/\Q (.bl (!(!(Builtin.Str.occurrences j i 0 j.length 1).isEmpty))) H):=by
 intro xt s σ H x y v u Q I rx ry h;obtain⟨i,j,rfl,rfl,q⟩:=h;obtain⟨t,rfl⟩:=rx;obtain⟨t',rfl⟩:=ry;exact notIn_str (Jx I q rfl)
def OpR.or(h:OpR X f r)(h':OpR X f r'):OpR X f (λx y H Q=>r x y H Q\/r' x y H Q):=by
 intro xt s σ H x y v u Q I rx ry q;rcases q with q|q
 . exact h xt s σ H x y v u Q I rx ry q
 . exact h' xt s σ H x y v u Q I rx ry q
def J8(b:Expr)(h:op ≠ .In:=by decide)(h2:op ≠ .NotIn:=by decide):behindInMarks op b=false:=by
 have e1:(op==CmpOp.In)=false:=by cases op<;>first|rfl|exact absurd rfl h
 have e2:(op==CmpOp.NotIn)=false:=by cases op<;>first|rfl|exact absurd rfl h2
 cases b<;>simp[behindInMarks,e1,e2]
def Qb(ho:OpR X (compareOp op) r)(ha:PE X a ta)(hb:PE X b tb)(hm:behindInMarks op b=false):PE X (.Compare a [op] [b] pos) (tOp r ta tb):=by
 intro xt s σ H Q I h;exact wpAny_Compare1 (eI ha hb I h λv u s2 x y H2 I2 rx ry q=>ho xt s2 σ H2 x y v u Q I2 rx ry q) hm
def vb(t:TE):TT:=λσ H Q=>t σ H λx H'=>∃k,x=.bl k/\Q k H'
def Jd(ho:OpR X (compareOp op) r)(ha:PE X a ta)(hb:PE X b tb)(hm:behindInMarks op b=false):PT X (.Compare a [op] [b] pos) (vb (tOp r ta tb)):=by
 intro xt s σ H Q I h
 refine wpAny_isTrue_Compare1 (thn (ha xt s σ H _ I h) λv s1 ⟨x,H1,I1,r1,q1⟩=>thn (hb xt s1 σ H1 _ I1 q1) λu s2 ⟨y,H2,I2,r2,q2⟩ =>
  thn (ho xt s2 σ H2 x y v u _ I2 r1 r2 q2) λc s3 ⟨z,H3,I3,r3,k,e,q3⟩=>?_) hm
 subst e
 cases r3
 exact wpAny_truthy_bool ⟨H3,I3,q3⟩
def aj:(sizeLine:Nat)<2 ^ 63:=by rw[qH];decide
def JH:OpR X (binaryOp .Add) (λx y H Q=>∃i j,x=.str i/\y=.str j/\i.length+j.length<=sizeLine/\Q (.str (i++j)) H):=by
 intro xt s σ H x y v u Q I rx ry h;obtain⟨i,j,rfl,rfl,hz,q⟩:=h;obtain⟨t,rfl⟩:=rx;obtain⟨t',rfl⟩:=ry;exact add_str (λt' tk=>⟨.str (i++j),H,I.tok _,⟨_,rfl⟩,q⟩) hz
def Qc(r:Vals [x] us):∃u,us=[u]/\RelV x u:=by
 cases r with
 |cons r1 r2=>cases r2;exact⟨_,rfl,r1⟩
def am(r:Vals [x,y] us):∃u w',us=[u,w']/\RelV x u/\RelV y w':=by
 cases r with
 |cons r1 r2 =>
  cases r2 with
  |cons r3 r4=>cases r4;exact⟨_,_,rfl,r1,r3⟩
def m4:CallR X (.builtin "abs") (λxs H Q=>∃i,xs=[.int i]/\Q (.int (if i<0 then -i else i)) H):=by
 intro xt s σ H xs us Q I r h;obtain⟨i,rfl,q⟩:=h;obtain⟨u,rfl,t,rfl⟩:=Qc r;exact call_abs_int λu tk=>⟨.int (if i<0 then -i else i),H,I.tok _,⟨_,rfl⟩,q⟩
def Zk:CallR X (.type "int") (λxs H Q=>(∃i,xs=[.int i]/\Q (.int i) H)\/∃k,xs=[.bl k]/\Q (.int (if k then 1 else 0)) H):=by
 intro xt s σ H xs us Q I r h;rcases h with ⟨i,rfl,q⟩|⟨k,rfl,q⟩
 . obtain⟨u,rfl,t,rfl⟩:=Qc r;exact call_int_int ⟨.int i,H,I,⟨_,rfl⟩,q⟩
 . obtain⟨u,rfl,r1⟩:=Qc r
   cases r1
   exact call_int_bool ⟨.int (if k then 1 else 0),H,I.tok _,⟨_,rfl⟩,q⟩
def vc:CallR X (.type "str") (λxs H Q=>∃i,xs=[.int i]/\i.natAbs.log2<1920/\Q (.str (toString i)) H):=by
 intro xt s σ H xs us Q I r h;obtain⟨i,rfl,hz,q⟩:=h;obtain⟨u,rfl,t,rfl⟩:=Qc r;exact PySem.P.str_of_int hz ⟨.str _,H,I.tok _,⟨_,rfl⟩,q⟩
def eJ(K:xh)(x:V)(H:Hp)(n:Nat):Prop :=
 match x with
 |.str y=>y.length<=sizeLine/\n=y.length
 |.byt y=>y.size<=sizeLine/\n=y.size
 |.ref p=>(∃xs,SqL K H p xs/\n='h')\/∃xs,SqT K H p xs/\n='h'
 |_=>False
def vd:CallR X (.builtin "len") (λxs H Q=>∃x n,xs=[x]/\eJ X.K x H n/\Q (.int n) H):=by
 intro xt s σ H xs us Q I r h;obtain⟨x,n,rfl,e,q⟩:=h;obtain⟨u,rfl,rx⟩:=Qc r;have hl:=aj;have hs:sizeLine=16777216:=qH
 cases x with
 |str y =>
  obtain⟨t,rfl⟩:=rx;obtain⟨hy,e'⟩:y.length<=sizeLine/\n=y.length:=e;subst e';exact len_str 'c' ⟨.int _,H,I.tok _,⟨_,rfl⟩,q⟩
 |byt y =>
  obtain⟨t,rfl⟩:=rx;obtain⟨hy,e'⟩:y.size<=sizeLine/\n=y.size:=e;subst e';exact PySem.W.len_bytes 'c' ⟨.int _,H,I.tok _,⟨_,rfl⟩,q⟩
 |ref p =>
  cases rx
  have e':(∃xs,SqL X.K H p xs/\n='h')\/∃xs,SqT X.K H p xs/\n='h':=e;rcases e' with ⟨xs,hx,e'⟩|⟨xs,hx,e'⟩
  . subst e';obtain⟨its,r',pl,hz⟩:=I.list hx;have xx:=r'.length;exact Calls.call_len_list pl.isList (by simp only[jK];omega) ⟨.int 'h',H,I.tok _,⟨_,by simp only[jK];rw[xx]⟩,q⟩
  . subst e';obtain⟨its,r',pl,hz⟩:=I.tuple hx;have xx:=r'.length;exact len_tuple pl (by simp only[jK];omega) ⟨.int 'h',H,I.tok _,⟨_,by simp only[jK];rw[xx]⟩,q⟩
 |_=>exact(show False from e).elim
end
structure ObjM (h:Heap) (x dx C:xS) (mA:xf):Prop where
 obj:h.get? x=some (PySem.W.instObj C dx)
 ns:h.Ns1 dx mA
 ne:dx≠x
def vf{h:Heap}{dx:xS}{mA:xf}(n:h.Ns1 dx mA):∃od,h.get? dx=some od/\∀name,PySem.W.lookIn name od=some (mA name):=by
 obtain⟨o,es,ep,ho,hd,hk,_,hm⟩:=n;refine⟨o,ho,λname=>?_⟩;have e:=hm name;unfold nsFind findBy at e;rw[<- Array.find?_toList]at e;unfold PySem.W.lookIn;rw[hd];dsimp only;split
 . rename_i y q;rw[q]at e;exact qG some e
 . rename_i q;rw[q]at e
   have a:es.toList.any (·.refKey)=false:=by
    rw[List.any_eq_false];intro y hy;obtain⟨z,t,hkey⟩:=hk y (Array.mem_toList_iff.mp hy);simp[DictEntry.refKey,hkey]
   have a':¬es.toList.any (·.refKey)=true:=by rw[a];exact jR
   rw[qg a'];exact qG some e
def ObjM.look(I:ObjM h x dx C mA):∃od,PySem.W.InstAt h x (PySem.W.instObj C dx) C (some od)/\∀name,PySem.W.lookIn name od=some (mA name) :=
 let ⟨od,ho,hl⟩:=vf I.ns
 ⟨od,⟨I.obj,rfl,rfl,ho⟩,hl⟩
section
variable {prog:xT}{w:xU}{A:xV}{E:xc}{s:xR}{K:xh}{x dx C f:xS}{mA:xf}{name:Str}{v:xQ}
def vg(X:K.In s.heap)(I:ObjM s.heap x dx C mA)(hg:PySem.W.plainGet K C name=true)(hh:PySem.W.hasDictIn K C=true)
 (ha:PySem.W.findIn K (.ref C) name=some none) (hv:mA name=some v) (hv':PySem.W.handedIn v=true) (h:Q v { s with toks:=s.toks+1 }) :
 wpAny (model prog w) A (getAttr (.ref x) name expr) Q E s:=by
 obtain⟨od,J,hl⟩:=I.look;exact PySem.W.get_value X J (PySem.W.plainGet_of hg).1 (PySem.W.findObj_own hh ha rfl (by rw[hl,hv])) hv' h
def vh(X:K.In s.heap)(I:ObjM s.heap x dx C mA)(hg:PySem.W.plainGet K C name=true)
 (hf:PySem.W.findIn K (.ref C) name=some (some (.ref f))) (ht:PySem.W.isFn K (.ref f)=true) (hv:mA name=none) (h:Q (.ref f,[.ref x]) s) :
 wpAny (model prog w) A (getMethod (.ref x) name pl) Q E s:=by
 obtain⟨od,J,hl⟩:=I.look;exact PySem.W.method_fn X J (PySem.W.plainGet_of hg).1 (PySem.W.plainGet_of hg).2 hf (beq_iff_eq.mp ht) (by show(PySem.W.lookIn name od).map (·.isSome)=some false;rw[hl,hv];rfl) h
def vi(X:K.In s.heap)(I:ObjM s.heap x dx C mA)
 (hs:PySem.W.findIn K (.ref C) "__setattr__" = some (some (.builtin "object.__setattr__"))) (hp:PySem.W.plainOver K C=true) (ht:PySem.W.takerIn K C name=some none) (hh:PySem.W.hasDictIn K C=true)
 (hw:PySem.Within mA ns) (hsz:ns.length<=sizeLine)
 (h:∀h',ObjM h' x dx C (λy=>if y=name then some v else mA y)->Heap.SameBut dx s.heap h'->Q () { s with heap:=h',toks:=s.toks+2 }) :
 wpAny (model prog w) A (setAttr (.ref x) name v) Q E s:=by
 obtain⟨od,J,hl⟩:=I.look;refine PySem.W.set_plain X J hs (PySem.W.osa_open (s:={ s with toks:=s.toks+1 }) (r:=none) X J hp ht λb=>?_);obtain⟨cd,hc,hd'⟩:=PySem.W.any_some hh;have hx:'i' x=some ⟨.ref C,some dx,.plain,#[]⟩:=I.obj;refine q8 (qf (q8 (q8 (wpAny_loadPart hx (q8 (PySem.W.Looks.here (s:={ s with toks:=s.toks+1 }) (PySem.W.looks_clsIn X hc) ?_))))));rw[hd'];refine qf (a:=some dx) (q8 (qf (q8 ?_)));refine wpAny_nsSet1 (s:={ s with toks:=s.toks+1 }) I.ns λh' hn2 hs2=>?_;obtain⟨oD,esD,epD,hoD,hdD,hcD⟩:=hn2.count (PySem.Within.cons name v hw);refine q8 (wpAny_lookBehind hoD (by rw[hdD];exact pastItsLine_dict (jg hcD (by rw[jV];omega))) ?_);exact qf (h _ ⟨(hs2.2 _ (Ne.symm I.ne)).trans I.obj,hn2,I.ne⟩ hs2)
def vj(X:K.In s.heap)(hm:PySem.W.makesIn K C=true)
 (hi:PySem.W.findIn K (.ref C) "__init__" = some (some (.ref f))) (hf:PySem.W.typeIn K (.ref f)=some (.type "function"))
 (h:codeAny (model prog w) (A.under (.builtin "type.__call__" ⟨.ref C::vs,kw⟩)) (.call (.ref f) ⟨.ref ('g'+1)::vs,kw⟩) (PySem.W.InitBack ('g'+1) R)
  { s with heap:=(s.heap.push PySem.W.emptyDict).push (PySem.W.instObj C 'g') }) :
 codeAny (model prog w) A (.call (.ref C) ⟨vs,kw⟩) R s:=by
 obtain⟨hh,g,d,t,os⟩:=s;exact PySem.W.make_core (PySem.W.makes_of X hm) (PySem.W.looks_findIn X hi) (λself=>PySem.W.bind_fn X self hf) (.inl rfl) h
end
def Qd(f:Str)(v:V):List (Str×V)->List (Str×V)
 | []=>[(f,v)]
 |(g,x)::r=>if g=f then(g,v)::r else(g,x)::Qd f v r
theorem m5(f g:Str)(v:V):∀fs:List (Str×V),(Qd f v fs).lookup g=if g=f then some v else fs.lookup g
 | []=>by
  show List.lookup g [(f,v)]=_
  by_cases h:g=f
  . have hb:(g==f)=true:=beq_iff_eq.mpr h;simp only[List.lookup,hb,qh h]
  . have hb:(g==f)=false:=beq_eq_false_iff_ne.mpr h;simp only[List.lookup,hb,qg h]
 |(k,x)::r=>by
  have ih:=m5 f g v r;rw[show Qd f v ((k,x)::r)=(if k=f then(k,v)::r else(k,x)::Qd f v r) from rfl]
  by_cases hk:k=f
  . rw[qh hk]
    by_cases h:g=k
    . have hb:(g==k)=true:=beq_iff_eq.mpr h;simp only[List.lookup,hb,qh (h.trans hk)]
    . have hb:(g==k)=false:=beq_eq_false_iff_ne.mpr h;simp only[List.lookup,hb,qg (λe:g=f=>h (e.trans hk.symm))]
  . rw[qg hk]
    by_cases h:g=k
    . have hb:(g==k)=true:=beq_iff_eq.mpr h;simp only[List.lookup,hb,qg (λe:g=f=>hk (h.symm.trans e))]
    . have hb:(g==k)=false:=beq_eq_false_iff_ne.mpr h;simp only[List.lookup,hb];exact ih
theorem eK(f:Str)(v:V):∀fs:List (Str×V),f∈(Qd f v fs).map (·.1)/\∀g,g∈fs.map (·.1)->g∈(Qd f v fs).map (·.1)
 | []=>⟨by simp[Qd],λg h=>by simp at h⟩
 |(k,x)::r=>by
  obtain⟨i1,i2⟩:=eK f v r;rw[show Qd f v ((k,x)::r)=(if k=f then(k,v)::r else(k,x)::Qd f v r) from rfl]
  by_cases hk:k=f
  . rw[qh hk];subst hk;exact⟨by simp,λg h=>by simpa using h⟩
  . rw[qg hk];refine⟨?_,λg h=>?_⟩
    . rw[jM];exact jN _ i1
    . rw[jM]at h ⊢;rcases jJ.mp h with e | e
      . exact jJ.mpr (.inl e)
      . exact jN _ (i2 g e)
theorem m7(f:Str)(v:V):∀fs:List (Str×V),(Qd f v fs).length<=fs.length+1
 | []=>by simp[Qd]
 |(k,x)::r=>by
  have ih:=m7 f v r;rw[show Qd f v ((k,x)::r)=(if k=f then(k,v)::r else(k,x)::Qd f v r) from rfl]
  by_cases hk:k=f
  . rw[qh hk,jV,jV];omega
  . rw[qg hk,jV,jV];omega
def RelO.some_of(r:RelO (some v) o):∃u,o=some u/\RelV v u:=by
 cases o with
 |none=>exact(show False from r).elim
 |some u=>exact⟨u,rfl,r⟩
def RelO.none_of(r:RelO none o):o=none:=by
 cases o with
 |none=>rfl
 |some u=>exact(show False from r).elim
def vm(r:RelV v u):PySem.W.handedIn u=true:=by
 cases v with
 |non=>cases (show u=Value.none from r);rfl
 |bl b=>cases (show u=Value.bool b from r);rfl
 |int i=>obtain⟨t,e⟩:=(show ∃t,u=Value.int i t from r);cases e;rfl
 |str x=>obtain⟨t,e⟩:=(show ∃t,u=Value.str x t from r);cases e;rfl
 |byt b=>obtain⟨t,e⟩:=(show ∃t,u=Value.bytes b t from r);cases e;rfl
 |flt b=>obtain⟨t,e⟩:=(show ∃t,u=Value.float b t from r);cases e;rfl
 |ref a=>cases (show u=Value.ref a from r);rfl
 |ty n=>cases (show u=Value.type n from r);rfl
section
variable {P:xT}{w:xU}{H H':Hp}{h h':Heap}{a C dx:xS}{fs fs':List (Str×V)}
def aq(hok:HOk P w H h)(e:H a=some (.ins C dx fs)):∃mA,ObjM h a dx C mA/\(∀f,RelO (fs.lookup f) (mA f))/\PySem.Within mA (fs.map (·.1))/\fs.length<=1000/\H dx=some (.own a):=by
 obtain⟨d,z,ne,ob,mA,n,r,q⟩:=(show ObjOk P w H h a (.ins C dx fs) from hok a _ e);exact⟨mA,⟨ob,n,ne⟩,r,q,z,d⟩
end
structure Cls (K:xh) (C:xS):Prop where
 pg:PySem.W.plainGet K C Str.empty=true
 hd:PySem.W.hasDictIn K C=true
 po:PySem.W.plainOver K C=true
 sa:PySem.W.findIn K (.ref C) "__setattr__" = some (some (.builtin "object.__setattr__"))
def Cls.get{K:xh}{C:xS}(c:Cls K C)(f:Str):PySem.W.plainGet K C f=true:=c.pg
def NoAttr(K:xh)(C:xS)(f:Str):Prop:=PySem.W.findIn K (.ref C) f=some none
def NoAttr.taker{K:xh}{C:xS}{f:Str}(n:NoAttr K C f):PySem.W.takerIn K C f=some none:=by
 unfold PySem.W.takerIn;rw[show PySem.W.findIn K (.ref C) f=some none from n];rfl
structure Meth (K:xh) (C:xS) (m:Str) (f:xS):Prop where
 at_:PySem.W.findIn K (.ref C) m=some (some (.ref f))
 fn:PySem.W.isFn K (.ref f)=true
 kp:PySem.W.keepIn K (.ref f)=true
section
variable {X:Cx}{xt:xg}{σ:St}{H:Hp}{s:xR}{a C dx:xS}{fs:List (Str×V)}{f:Str}{v:V}{A:xV}{E:xc}
def vn(I:Inv X xt σ H s)(e:H a=some (.ins C dx fs))(c:Cls X.K C)(n:NoAttr X.K C f)(l:fs.lookup f=some v)
 (h:∀u s',Inv X xt σ H s'->RelV v u->Q u s'):wpAny (model X.prog X.w) A (getAttr (.ref a) f b) Q E s:=by
 obtain⟨mA,O,r,_,_,_⟩:=aq I.hok e;obtain⟨u,hu,ru⟩:=RelO.some_of (v:=v) (o:=mA f) (by rw[<- l];exact r f);exact vg I.kIn O (c.get f) c.hd n hu (vm ru) (h u _ (I.tok _) ru)
def vp(I:Inv X xt σ H s)(e:H a=some (.ins C dx fs))(c:Cls X.K C)(k:Meth X.K C m g)(l:fs.lookup m=none)
 (h:Q (.ref g,[.ref a]) s):wpAny (model X.prog X.w) A (getMethod (.ref a) m pl) Q E s:=by
 obtain⟨mA,O,r,_,_,_⟩:=aq I.hok e;have hn:mA m=none:=RelO.none_of (by rw[<- l];exact r m);exact vh I.kIn O (c.get m) k.at_ k.fn hn h
def vq(I:Inv X xt σ H s)(e:H a=some (.ins C dx fs))(c:Cls X.K C)(n:NoAttr X.K C f)(hl:fs.length<1000)(ry:RelV y u)
 (h:∀s',Inv X xt σ (upd H a (.ins C dx (Qd f y fs))) s'->Q () s'):wpAny (model X.prog X.w) A (setAttr (.ref a) f u) Q E s:=by
 obtain⟨mA,O,r,wi,_,ho⟩:=aq I.hok e;have hz:(fs.map (·.1)).length<=sizeLine:=by rw[jA,qH];omega
 refine vi I.kIn O c.sa c.po n.taker c.hd wi hz λh' O' sb=>h _ ?_;have hd:∃o,h'.get? dx=some o:=let ⟨o,_,_,e',_⟩:=O'.ns;⟨o,e'⟩;refine I.write (x:=a) (e:=dx) (by rw[e];exact True.intro) (.inr ho) (λb q hb z=>(sb.2 b hb).trans z) hd ?_;refine⟨by rw[xZ O.ne];exact ho,?_,O.ne,O'.obj,_,O'.ns,λg=>?_,λg hg=>?_⟩
 . have:=m7 f y fs;omega
 . show RelO ((Qd f y fs).lookup g) (if g=f then some u else mA g);rw[m5]
   by_cases q:g=f
   . rw[qh q,qh q];exact ry
   . rw[qg q,qg q];exact r g
 . by_cases q:g=f
   . rw[q];exact(eK f y fs).1
   . refine(eK f y fs).2 g (wi g λz=>hg ?_);show(if g=f then some u else mA g)=none;rw[qg q];exact z
def Inv.made(I:Inv X xt σ H s):Inv X xt σ (upd (upd H 'g' (.own ('g'+1))) ('g'+1) (.ins C 'g' []))
 { s with heap:=(s.heap.push PySem.W.emptyDict).push (PySem.W.instObj C 'g') }:=by
 have e1:(s.heap.push PySem.W.emptyDict).get? 'g'=some PySem.W.emptyDict:=jH s.heap rfl
 have e2:((s.heap.push PySem.W.emptyDict).push (PySem.W.instObj C 'g')).get? ('g'+1)=some (PySem.W.instObj C 'g'):=by
  have:=jH (s.heap.push PySem.W.emptyDict) (o:=PySem.W.instObj C 'g') rfl
  rwa [j8]at this
 have e3:(s.heap.push PySem.W.emptyDict).Ns 'g' (λ_=>none):=⟨PySem.W.emptyDict,#[],_,e1,rfl,(λe he=>absurd he 'f'),λ_=>rfl⟩;have I1:=I.laid (a:='g') (o := .own ('g'+1)) (h':=s.heap.push PySem.W.emptyDict) (t':=s.toks) (λb u q=>jC _ q) (jE _) ⟨_,e1⟩;refine I1.laid (a:='g'+1) (o := .ins C 'g' []) (t':=s.toks) (λb u q=>jC _ q) (Nat.le_of_eq (j8 _ _)) ?_;have ne:'g'≠'g'+1:=jQ (Nat.lt_succ_self _);refine⟨by rw[xZ ne,J1],jT _,ne,e2,λ_=>none,(Heap.Ns1.of_empty e3).at λo q=>jC _ q,λ_=>True.intro,λy hy=>absurd rfl hy⟩
def vt(hb:attributeBase e f env (eval e env)=eval e env)
 (h:wpAny (model prog w) A (eval e env) (λo s₁=>wpAny (model prog w) A (getAttr o f true) Q E s₁) E s):wpAny (model prog w) A (eval (.Attribute e f pos) env) Q E s :=
 Attribute_any_ h (by rw[arm_eval_Attribute,hb])
end
def vw(K:xh)(ta:TE)(f:Str):TE:=λσ H Q=>ta σ H λx H1=>∃a C dx fs v,x=.ref a/\H1 a=some (.ins C dx fs)/\Cls K C/\NoAttr K C f/\fs.lookup f=some v/\Q v H1
def m8(K:xh)(ta tv:TE)(f:Str):TS:=λD σ H=>tv σ H λy H1=>ta σ H1 λx H2=>∃a C dx fs,x=.ref a/\H2 a=some (.ins C dx fs)/\Cls K C/\NoAttr K C f/\fs.length<1000 /\
 D.nx σ (upd H2 a (.ins C dx (Qd f y fs)))
section
variable {X:Cx}{o e value:Expr}{f:Str}{pos xO tpos:Pos}{ta tv:TE}
def Q0(he:PE X e ta)(hb:attributeBase e f X.env (eval e X.env)=eval e X.env):PE X (.Attribute e f pos) (vw X.K ta f):=by
 intro xt s σ H Q I h;refine vt hb (thn (he xt s σ H _ I h) λu s1 pc=>?_);obtain⟨x,H1,I1,rx,a,C,dx,fs,v,ex,ea,c,n,l,q⟩:=pc;subst ex;obtain rfl:u=Value.ref a:=rx;exact vn I1 ea c n l λu' s2 I2 ru=>⟨v,H1,I2,ru,q⟩
def Zl(ha:PE X o ta)(hv:PE X value tv)(hs:swapsWith value (some (.Attribute o f xO)) pos.line X.env=pure false):PS X (.Assign [.Attribute o f xO] value pos) (m8 X.K ta tv f):=by
 intro xt s σ H D I h;refine plainObj_wpAny_Assign_Attribute (thn (hv xt s σ H _ I h) λu s1 pc=>?_) hs;obtain⟨y,H1,I1,ry,q⟩:=pc;refine thn (ha xt s1 σ H1 _ I1 q) λov s2 pc=>?_;obtain⟨x,H2,I2,rx,a,C,dx,fs,ex,ea,c,n,l,q2⟩:=pc;subst ex;obtain rfl:ov=Value.ref a:=rx;exact vq I2 ea c n l ry λs3 I3=>⟨σ,_,I3,q2⟩
end
section
variable {X:Cx}{xt:xg}{σ:St}{H:Hp}{s:xR}{A:xV}{E:xc}{Q:xc}{c:xQ}{b:Bool}
inductive TyOf (K:xh) (H:Hp):V->xQ->Prop where
 |non:TyOf K H .non (.type "NoneType")
 |bl (x:Bool):TyOf K H (.bl x) (.type "bool")
 |int (i:Int):TyOf K H (.int i) (.type "int")
 |str (x:Str):TyOf K H (.str x) (.type "str")
 |flt (x:UInt64):TyOf K H (.flt x) (.type "float")
 |lst {a:xS}{xs:List V} (e:H a=some (.lst xs)):TyOf K H (.ref a) (.type "list")
 |frz {a:xS}{o:Obj}{xs:List V} (e:H a=some (.frz o (.lst xs))):TyOf K H (.ref a) (.type "list")
 |tup {a:xS}{xs:List V} (e:H a=some (.tup xs)):TyOf K H (.ref a) (.type "tuple")
 |dK {a:xS}{kvs:List (Key×V)} (e:H a=some (.dK kvs)):TyOf K H (.ref a) (.type "dict")
 |dT {a:xS}{kvs:List (List Key×V)} (e:H a=some (.dT kvs)):TyOf K H (.ref a) (.type "dict")
 |ins {a C dx:xS}{fs:List (Str×V)} (e:H a=some (.ins C dx fs)) (cl:Cls K C) (ha:PySem.W.findIn K (.ref C) "__class__" = some (some (.builtin "object.__class__")))
  (hn:PySem.W.specialIn K (.builtin "object.__class__") "__get__" = some (some (.builtin "getset_descriptor.__get__"))) (htk:PySem.W.takesIn K (.builtin "object.__class__")=some true)
  (hm:PySem.W.mroIn K C (.type "object")=some true):TyOf K H (.ref a) (.ref C)
def vx(I:Inv X xt σ H s)(rx:RelV x u)(ty:TyOf X.K H x t)(e:PySem.W.kitOne X.K t c=some b)(h:∀tk,Q (.bool b) { s with toks:=tk }) :
 wpAny (model X.prog X.w) A (call (.builtin "isinstance") [u,c]) Q E s:=by
 cases ty with
 |non=>cases (show u=Value.none from rx);exact PySem.W.kia_one PySem.W.kitx_none I.kIn True.intro e (λz=>nomatch z) h
 |bl y=>cases (show u=Value.bool y from rx);exact PySem.W.kia_one PySem.W.kitx_bool I.kIn True.intro e (λz=>nomatch z) h
 |int i=>obtain⟨t,q⟩:=(show ∃t,u=Value.int i t from rx);cases q;exact PySem.W.kia_one PySem.W.kitx_int I.kIn True.intro e (λz=>nomatch z) h
 |str y=>obtain⟨t,q⟩:=(show ∃t,u=Value.str y t from rx);cases q;exact PySem.W.kia_one PySem.W.kitx_str I.kIn True.intro e (λz=>nomatch z) h
 |flt y=>obtain⟨t,q⟩:=(show ∃t,u=Value.float y t from rx);cases q;exact PySem.W.kia_one PySem.W.kitx_float I.kIn True.intro e (λz=>nomatch z) h
 | @lst a xs ea =>
  cases (show u=Value.ref a from rx)
  obtain⟨_,_,n,_,h1⟩:=(show ObjOk X.prog X.w H s.heap a (.lst xs) from I.hok a _ ea);exact PySem.W.kia_one PySem.W.kitx_list I.kIn ⟨_,h1,rfl⟩ e (λz=>nomatch z) h
 | @frz a ob xs ea =>
  cases (show u=Value.ref a from rx)
  obtain⟨_,_,_,n,_,h1⟩:=(show ObjOk X.prog X.w H s.heap a (.frz ob (.lst xs)) from I.hok a _ ea);exact PySem.W.kia_one PySem.W.kitx_list I.kIn ⟨_,h1,rfl⟩ e (λz=>nomatch z) h
 | @tup a xs ea =>
  cases (show u=Value.ref a from rx)
  obtain⟨_,_,_,p⟩:=(show ObjOk X.prog X.w H s.heap a (.tup xs) from I.hok a _ ea);obtain⟨o,h1,h2,_⟩:=p;exact PySem.W.kia_one PySem.W.kitx_tuple I.kIn ⟨o,h1,h2⟩ e (λz=>nomatch z) h
 | @dK a kvs ea =>
  cases (show u=Value.ref a from rx)
  obtain⟨_,_,vs,_,p⟩:=(show ObjOk X.prog X.w H s.heap a (.dK kvs) from I.hok a _ ea);obtain⟨o,es,ep,h1,h2,_⟩:=p;exact PySem.W.kia_one PySem.W.kitx_dict I.kIn ⟨o,h1,h2.1⟩ e (λz=>nomatch z) h
 | @dT a kvs ea =>
  cases (show u=Value.ref a from rx)
  obtain⟨_,_,xs,_,o,es,ep,h1,h2,_⟩:=(show ObjOk X.prog X.w H s.heap a (.dT kvs) from I.hok a _ ea);exact PySem.W.kia_one PySem.W.kitx_dict I.kIn ⟨o,h1,h2.1⟩ e (λz=>nomatch z) h
 | @ins a C dx fs ea cl ha hn htk hm =>
  cases (show u=Value.ref a from rx)
  obtain⟨mA,O,_⟩:=aq I.hok ea;obtain⟨od,J,_⟩:=O.look;exact PySem.W.kia_one (PySem.W.kitx_own (cl.get _) cl.hd ha hn htk hm) I.kIn J e (λz=>nomatch z) h
end
structure Room (k:Nat) (A:xV):Prop where
 hd:A.handled=none
 dp:A.depth+3*k+5<recursionLimit
 un:A.units+16*k+200<cLine
def Room.mono(r:Room k A)(h:j<=k):Room j A:=⟨r.hd,by have:=r.dp;omega,by have:=r.un;omega⟩
theorem Room.deeper(r:Room (k+1) A)(env:Env):Room k (A.deeper env) :=
 ⟨r.hd,by have:=r.dp;show A.depth+1+3*k+5<_;omega,by have:=r.un;show A.units+3+16*k+200<_;omega⟩
def vy{A:xV}{C:xS}{us:xm}{kw:List (Str×xQ)}:(A.under (.builtin "type.__call__" ⟨.ref C::us,kw⟩)).depth=A.depth+1:=by
 first|rfl|simp[Around.under,Code.weight,Code.isCreation,Code.isGuard,Code.isCaller,Code.frames,Code.isFrame,guardIds]
def vA{A:xV}{C:xS}{us:xm}{kw:List (Str×xQ)}:(A.under (.builtin "type.__call__" ⟨.ref C::us,kw⟩)).units=A.units+1:=by
 first|rfl|simp[Around.under,Code.cUnits,Code.frames,Code.isFrame]
def Room.make(r:Room (k+1) A)(C:xS)(us:xm)(kw:List (Str×xQ)):Room k (A.under (.builtin "type.__call__" ⟨.ref C::us,kw⟩)) :=
 ⟨r.hd,by have:=r.dp;rw[vy];omega,by have:=r.un;rw[vA];omega⟩
theorem Room.depth(r:Room k A):A.depth<recursionLimit:=by have:=r.dp;omega
theorem Room.units(r:Room k A):A.units+64<cLine:=by have:=r.un;omega
def JA:TA:=λ_ H Q=>Q [] H
def JF(ta:TE)(tr:TA):TA:=λσ H Q=>ta σ H λx H1=>tr σ H1 λxs H2=>Q (x::xs) H2
section
variable {X:Cx}{e:Expr}{es:List Expr}{te:TE}{t:TA}{pos:Pos}
def xY:PA X [] JA:=λ_ _ _ _ H Q I h=>Calls.spliced_nil ⟨[],H,I,.nil,h⟩
def xW(ha:PE X e te)(hr:PA X es t)(hs:starEach (e::es) X.env=(false,eval e X.env)::starEach es X.env:=by rfl):PA X (e::es) (JF te t):=by
 intro pos xt s σ H Q I h;rw[hs];show wpAny _ _ (spliced ((false,eval e X.env)::backTo pos (starEach es X.env))) _ _ s;refine Calls.spliced_cons (thn (ha xt s σ H _ I h) λu s1 pc=>?_);obtain⟨x,H1,I1,r1,q1⟩:=pc;exact thn (hr pos xt s1 σ H1 _ I1 q1) λus s2 ⟨xs,H2,I2,r2,q2⟩=>⟨x::xs,H2,I2,.cons r1 r2,q2⟩
def Zm(t:TA):TE:=λσ H Q=>t σ H λxs H1=>'h'<=sizeLine/\∀p,H1 p=none->Q (.ref p) (upd H1 p (.tup xs))
def ar(t:TA):TE:=λσ H Q=>t σ H λxs H1=>'h'<=sizeLine/\∀p,H1 p=none->Q (.ref p) (upd H1 p (.lst xs))
def Jq(h:PA X es t):PE X (.Tuple es x1 pos) (Zm t):=by
 intro xt s σ H Q I hq;refine wpAny_Tuple_spliced (thn (h pos xt s σ H _ I hq) λus s1 pc=>?_);obtain⟨xs,H1,I1,r,z,q⟩:=pc;refine ⟨by rw[<- r.length];exact z,?_⟩;have hf:H1 s1.heap.objs.size=none:=I1.hok.fresh (jE _);refine⟨.ref s1.heap.objs.size,upd H1 s1.heap.objs.size (.tup xs),I1.laid (t':=s1.toks) (λb u e=>jC _ e) (jE _) ?_,rfl,q _ hf⟩;exact⟨z,us,r,⟨_,jH _ rfl,rfl,_,rfl⟩⟩
def QB(h:PA X es t):PE X (.List es pos) (ar t):=by
 intro xt s σ H Q I hq;refine wpAny_List_spliced (thn (h pos xt s σ H _ I hq) λus s1 pc=>?_);obtain⟨xs,H1,I1,r,z,q⟩:=pc;refine ⟨by rw[<- r.length];exact z,?_⟩;have hf:H1 s1.heap.objs.size=none:=I1.hok.fresh (jE _);refine⟨.ref s1.heap.objs.size,upd H1 s1.heap.objs.size (.lst xs),I1.laid (t':=s1.toks) (λb u e=>jC _ e) (jE _) ?_,rfl,q _ hf⟩;exact⟨z,us,0,r,jH _ rfl⟩
end
abbrev Sp:=List V->Hp->VK->XK->Prop
abbrev CXT:=List Env->Hp->xR->XK->xc
structure Env0 (P:xT) (w:xU) (K:xh) (mg:xf) (base:Heap) (A:xV) (outer:List Env) (s:xR) (H:Hp):Prop where
 frames:A.frames=some outer
 mod:Mod K mg base
 bs:∀b o,base.get? b=some o->'i' b=some o/\H b=none
 bsz:base.objs.size<='g'
 funs:s.heap.FunFrames base outer
 frf:∀b∈frs outer,H b=none
 hok:HOk P w H s.heap
 bare:AllBare s.gens
def CE(outer:List Env)(P:xT)(w:xU)(H:Hp)(s:xR)(Q:VK)(u:xQ)(s':xR):Prop :=
 ∃v H',s'.os=s.os/\AllBare s'.gens/\Un (frs outer) [] H H' s.heap s'.heap/\HOk P w H' s'.heap/\RelV v u/\Q v H'
def CR(CX:CXT)(outer:List Env)(P:xT)(w:xU)(H:Hp)(s:xR)(Q:VK)(E:XK)(r:Result)(s':xR):Prop :=
 match r with
 |.ok (.ret u)=>CE outer P w H s Q u s'
 |.ok _=>False
 |.error e=>CX outer H s E e s'
structure FnOk (P:xT) (w:xU) (K:xh) (mg:xf) (base:Heap) (CX:CXT) (k:Nat) (f:xS) (fd:FuncData) (ps:xp) (sp:Sp):Prop where
 len:∀vs H Q E,sp vs H Q E->vs.length=ps.length
 run:∀(A:xV) (outer:List Env) (s:xR) (H:Hp) (args:Args) (us:xm) (vs:List V) (Q:VK) (E:XK),Room k A->Env0 P w K mg base A outer s H->BindsTo s fd args (ps.zip us)->Vals vs us->sp vs H Q E ->
  codeAny (model P w) A (.call (.ref f) args) (CR CX outer P w H s Q E) s
def Env0.make{P:xT}{w:xU}{K:xh}{mg:xf}{base:Heap}{A:xV}{outer:List Env}{s:xR}{H:Hp}(e:Env0 P w K mg base A outer s H)(C:xS)(us:xm)(kw:List (Str×xQ)) :
 Env0 P w K mg base (A.under (.builtin "type.__call__" ⟨.ref C::us,kw⟩)) outer s H:=⟨by first|exact e.frames|(simpa [Around.under,Code.envs,Code.isFrame,pushEnvs] using e.frames),e.mod,e.bs,e.bsz,e.funs,e.frf,e.hok,e.bare⟩
section
variable {X:Cx}{xt:xg}{σ:St}{H:Hp}{s s':xR}
def Inv.env0(I:Inv X xt σ H s):Env0 X.prog X.w X.K X.mg X.base X.A X.stack s H :=
 ⟨I.ok.frames,I.ok.mod,I.bs,jg I.ok.bsz I.sz,I.stack,I.stkFree,I.hok,I.bare⟩
def Inv.after(I:Inv X xt σ H s)(h:CE X.stack X.prog X.w H s Q u s'):EP X xt σ Q u s':=by
 obtain⟨v,H',os,bare,un,hok,r,q⟩:=h;obtain⟨hh,g,d,t,os'⟩:=s';obtain rfl:os'=s.os:=os;exact⟨v,H',I.call (h':=hh) (g':=g) (d':=d) (t':=t) (ch:=[]) un hok bare (λb z=>absurd z 'f'),r,q⟩
end
def Zn(sp:Sp)(dvs:List V)(E:XK)(t:TA):TE:=λσ H Q=>t σ H λvs H1=>sp (vs++dvs) H1 Q E
def eL(C:xS)(m:Str)(sp:Sp)(dvs:List V)(E:XK)(ta:TE)(t:TA):TE:=λσ H Q=>ta σ H λx H1=>∃a dx fs,x=.ref a/\H1 a=some (.ins C dx fs)/\fs.lookup m=none /\
 t σ H1 λvs H2=>sp (x::(vs++dvs)) H2 Q E
def Zo(C:xS)(sp:Sp)(dvs:List V)(E:XK)(t:TA):TE:=λσ H Q=>t σ H λvs H1=>∀x dx,H1 x=none->H1 dx=none->dx≠x ->
 sp (.ref x::(vs++dvs)) (upd (upd H1 dx (.own x)) x (.ins C dx [])) (λv H2=>v=.non/\Q (.ref x) H2) E
def Binds(K:xh)(fd:FuncData)(ps:xp)(ds:xm):Prop :=
 ∀(s:xR) (us:xm),K.In s.heap->(us++ds).length=ps.length->BindsTo s fd ⟨us,[]⟩ (ps.zip (us++ds))
def Binds.all{K:xh}{fd:FuncData}{ps:xp}(h:∀us:xm,us.length=ps.length->bindArgs fd ⟨us,[]⟩=pure (ps.zip us)):Binds K fd ps []:=λs us _ hl=>by
 rw[jk]at hl ⊢;exact .of_eq (h us hl)
def QC(CX:CXT)(X:Cx)(E:XK):Prop:=∀(xt:xg) (σ:St) (H:Hp) (s:xR) (e:xQ) (s':xR),Inv X xt σ H s->CX X.stack H s E e s'->X.xe e s'
section
variable {X:Cx}{CX:CXT}{k:Nat}{f C:xS}{fd:FuncData}{ps:xp}{sp:Sp}{dvs:List V}{ds:xm}{E:XK}{x m:Str}{p pos apos:Pos}{e o:Expr}{es:List Expr}{ta:TE}{t:TA}
def eM{xt:xg}{σ:St}{H:Hp}{s:xR}{Q:VK}{us:xm}{vs:List V}(F:FnOk X.prog X.w X.K X.mg X.base CX k f fd ps sp)(hr:Room k X.A)(hb:Binds X.K fd ps ds)(hd:Vals dvs ds)(hx:QC CX X E)
 (I:Inv X xt σ H s) (r:Vals vs us) (h:sp (vs++dvs) H Q E):wpAny (model X.prog X.w) X.A (call (.ref f) us) (EP X xt σ Q) X.xe s:=by
 have r2:Vals (vs++dvs) (us++ds):=r.append hd;have hl:(us++ds).length=ps.length:=by rw[<- r2.length];exact F.len _ _ _ _ h
 refine wpAny_call (codeAny_mono (F.run X.A X.stack s H ⟨us,[]⟩ (us++ds) (vs++dvs) Q E hr I.env0 (hb s us I.kIn hl) r2 h) λr s' hq=>?_)
 cases r with
 |error e=>exact hx xt σ H s e s' I hq
 |ok fl =>
  cases fl with
  |ret u=>exact I.after hq
  |next=>exact False.elim hq
  |brk=>exact False.elim hq
  |cont=>exact False.elim hq
def eO(F:FnOk X.prog X.w X.K X.mg X.base CX k f fd ps sp)(hr:Room k X.A)(hg:Gl X x)(hm:X.mg x=some (.ref f))(hk:PySem.W.keepIn X.K (.ref f)=true)(hb:Binds X.K fd ps ds)(hd:Vals dvs ds)(hx:QC CX X E)
 (ha:PA X (e::es) t) (hdb:(x==("__debug__" : Str))=false:=by decide) (he:starEach (e::es) X.env=(false,eval e X.env)::starEach es X.env:=by rfl) (hpl:(backTo pos (starEach es X.env)).any (·.1)=false:=by rfl) :
 PE X (.Call (.Name x p) (e::es) [] pos) (Zn sp dvs E t):=by
 intro xt s σ H Q I h;refine qI (Xu I hg hm ?_ hdb);refine PySem.W.callWith_K (h₀:=X.base) I.ok.mod.kin hk (thn (ha pos xt s σ H _ I h) λus s1 pc=>?_) he hpl;obtain⟨vs,H1,I1,r,q⟩:=pc;refine ⟨I1.kIn,?_⟩;exact eM F hr hb hd hx I1 r q
def vB{pl:Sem Bool}(he:PE X o ta)(c:Cls X.K C)(hm:Meth X.K C m f)(F:FnOk X.prog X.w X.K X.mg X.base CX k f fd ps sp)(hr:Room k X.A)(hb:Binds X.K fd ps ds)(hd:Vals dvs ds)(hx:QC CX X E)(ha:PA X (e::es) t)
 (hst:starEach (e::es) X.env=(false,eval e X.env)::starEach es X.env:=by rfl) (hpl:(backTo pos (starEach es X.env)).any (·.1)=false:=by rfl)
 (ht:eval (.Call (.Attribute o m apos) (e::es) [] pos) X.env=(do
  let ov <- eval o X.env
  standAt apos.atName
  let (f,first) <- holding [ov] (getMethod ov m pl)
  callWith pos f first (backTo pos (starEach (e::es) X.env)) (backToKw pos (keywordEach [] X.env))):=by rfl) :
 PE X (.Call (.Attribute o m apos) (e::es) [] pos) (eL C m sp dvs E ta t):=by
 intro xt s σ H Q I h;refine PySem.W.methodCall_KW (pl:=pl) (thn (he xt s σ H _ I h) λu s1 pc=>?_) ht;obtain⟨x,H1,I1,rx,a,dx,fs,ex,ea,l,q⟩:=pc;subst ex;obtain rfl:u=Value.ref a:=rx;refine vp I1 ea c hm l ?_;refine PySem.W.callWith_K (first:=[.ref a]) (h₀:=X.base) I.ok.mod.kin hm.kp (thn (ha pos xt s1 σ H1 _ I1 q) λus s2 pc=>?_) hst hpl;obtain⟨vs,H2,I2,r,q2⟩:=pc;refine ⟨I2.kIn,?_⟩;exact eM (us := .ref a::us) (vs := .ref a::vs) F hr hb hd hx I2 (.cons rfl r) q2
structure Mk (K:xh) (C f:xS):Prop where
 makes:PySem.W.makesIn K C=true
 init:PySem.W.findIn K (.ref C) "__init__" = some (some (.ref f))
 fn:PySem.W.isFn K (.ref f)=true
 kp:PySem.W.keepIn K (.ref C)=true
def vC{xt:xg}{σ:St}{H:Hp}{s:xR}{Q:VK}{us:xm}{vs:List V}(M:Mk X.K C f)(F:FnOk X.prog X.w X.K X.mg X.base CX k f fd ps sp)(hr:Room (k+1) X.A)(hb:Binds X.K fd ps ds)(hd:Vals dvs ds)
 (hx:QC CX X E) (I:Inv X xt σ H s) (r:Vals vs us)
 (h:∀x dx,H x=none->H dx=none->dx≠x->sp (.ref x::(vs++dvs)) (upd (upd H dx (.own x)) x (.ins C dx [])) (λv H2=>v=.non/\Q (.ref x) H2) E) :
 wpAny (model X.prog X.w) X.A (call (.ref C) us) (EP X xt σ Q) X.xe s:=by
 have hq:=h ('g'+1) 'g' (I.hok.fresh (Nat.le_succ _)) (I.hok.fresh (jE _)) (jQ (Nat.lt_succ_self _));have I2:=Inv.made (C:=C) I;have r2:Vals (V.ref ('g'+1)::(vs++dvs)) (Value.ref ('g'+1)::(us++ds)) := .cons rfl (r.append hd)
 have hl:(Value.ref ('g'+1)::us++ds).length=ps.length:=by
  have e:=r2.length;rw[F.len _ _ _ _ hq]at e;exact e.symm
 refine wpAny_call (vj (f:=f) I.kIn M.makes M.init (beq_iff_eq.mp M.fn) (codeAny_mono (F.run _ X.stack _ _ ⟨Value.ref ('g'+1)::us,[]⟩ (Value.ref ('g'+1)::(us++ds)) _ _ E (hr.make C us [])
  (I2.env0.make C us []) (hb _ (Value.ref ('g'+1)::us) I2.kIn hl) r2 hq) λr s' hq'=>?_))
 cases r with
 |error e=>exact hx xt σ _ _ e s' I2 hq'
 |ok fl =>
  cases fl with
  |ret u =>
   obtain⟨v,H',I3,rv,ev,q3⟩:=I2.after hq';subst ev;exact⟨rv,⟨V.ref ('g'+1),H',I3,rfl,q3⟩⟩
  |next=>exact False.elim hq'
  |brk=>exact False.elim hq'
  |cont=>exact False.elim hq'
def vD(M:Mk X.K C f)(F:FnOk X.prog X.w X.K X.mg X.base CX k f fd ps sp)(hr:Room (k+1) X.A)(hg:Gl X x)(hm:X.mg x=some (.ref C))(hb:Binds X.K fd ps ds)(hd:Vals dvs ds)(hx:QC CX X E)
 (ha:PA X (e::es) t) (hdb:(x==("__debug__" : Str))=false:=by decide) (he:starEach (e::es) X.env=(false,eval e X.env)::starEach es X.env:=by rfl) (hpl:(backTo pos (starEach es X.env)).any (·.1)=false:=by rfl) :
 PE X (.Call (.Name x p) (e::es) [] pos) (Zo C sp dvs E t):=by
 intro xt s σ H Q I h;refine qI (Xu I hg hm ?_ hdb);refine PySem.W.callWith_K (h₀:=X.base) I.ok.mod.kin M.kp (thn (ha pos xt s σ H _ I h) λus s1 pc=>?_) he hpl;obtain⟨vs,H1,I1,r,q⟩:=pc;refine ⟨I1.kIn,?_⟩;exact vC M F hr hb hd hx I1 r q
end
structure FnScope (N P:xp) (sc:Scope):Prop where
 kind:sc.kind=.function
 co:sc.isCoroutine=false
 gen:sc.isGenerator=false
 nd:N.Nodup
 pre:N.take P.length=P
 par:∀x∈P,sc.names.lookup x=some .local\/sc.names.lookup x=some .cell
 nofree:∀y∈sc.names,y.2 ≠ .free
theorem m9{kindOf:Str->Option NameKind}:∀{binds:List (Str×xQ)}{m:xf},(∀v,(x,v)∉binds)->bindL kindOf binds m x=m x
 | [],_,_=>rfl
 |(n,v)::r,m,h=>by
  unfold bindL;rw[m9 λw hw=>h w (jN _ hw)];split
  . have:x≠n:=by rintro rfl;exact h v jO
    simp[this]
  . rfl
theorem ma{kindOf:Str->Option NameKind}:∀{binds:List (Str×xQ)}{m:xf},(∀v,(x,v)∉binds)->bindC kindOf binds m x=m x
 | [],_,_=>rfl
 |(n,v)::r,m,h=>by
  unfold bindC;rw[ma λw hw=>h w (jN _ hw)];split
  . rfl
  . have:x≠n:=by rintro rfl;exact h v jO
    simp[this]
theorem me{kindOf:Str->Option NameKind}{x:Str}{v:xQ}:∀{P:xp}{vs:xm}{i:Nat}{m:xf},P.Nodup->P[i]?=some x->vs[i]?=some v->kindOf x=some .local ->
 bindL kindOf (P.zip vs) m x=some v
 | [],_,_,_,_,h,_,_=>by simp at h
 |_::_,[],_,_,_,_,h,_=>by simp at h
 |p::P,w::vs,0,m,nd,h1,h2,hk=>by
  simp at h1 h2;subst h1;subst h2;show bindL kindOf ((p,w)::P.zip vs) m p=_;unfold bindL;rw[m9 λv hv=>(jm.mp nd).1 (List.of_mem_zip hv).1,qh hk];simp
 |p::P,w::vs,i+1,m,nd,h1,h2,hk=>by
  show bindL kindOf ((p,w)::P.zip vs) m x=_;unfold bindL;exact me (i:=i) (jm.mp nd).2 (by simpa using h1) (by simpa using h2) hk
theorem mf{kindOf:Str->Option NameKind}{x:Str}{v:xQ}:∀{P:xp}{vs:xm}{i:Nat}{m:xf},P.Nodup->P[i]?=some x->vs[i]?=some v->kindOf x≠some .local ->
 bindC kindOf (P.zip vs) m x=some v
 | [],_,_,_,_,h,_,_=>by simp at h
 |_::_,[],_,_,_,_,h,_=>by simp at h
 |p::P,w::vs,0,m,nd,h1,h2,hk=>by
  simp at h1 h2;subst h1;subst h2;show bindC kindOf ((p,w)::P.zip vs) m p=_;unfold bindC;rw[ma λv hv=>(jm.mp nd).1 (List.of_mem_zip hv).1,qg hk];simp
 |p::P,w::vs,i+1,m,nd,h1,h2,hk=>by
  show bindC kindOf ((p,w)::P.zip vs) m x=_;unfold bindC;exact mf (i:=i) (jm.mp nd).2 (by simpa using h1) (by simpa using h2) hk
def JD(N:xp)(vs:List V):St:=vs.map some++List.replicate (N.length - vs.length) none
def QD(CX:CXT)(P:xT)(w:xU)(K:xh)(mg:xf)(base:Heap)(N:xp)(qual:Str)(scope:Scope)(f:xS)(cd:xQ)(A:xV)(outer:List Env)(s:xR)(H:Hp)(E:XK):Cx where
 prog:=P
 w:=w
 K:=K
 mg:=mg
 base:=base
 A:=A.deeper (envOfC qual scope 'g' f cd)
 N:=N
 s₀:=s
 H₀:=H
 env:=envOfC qual scope 'g' f cd
 outer:=outer
 stack:=envOfC qual scope 'g' f cd::outer
 ex:=[]
 calm:=true
 fn:=λ_=>true
 pn:=[]
 xe:=λe s'=>wpAny (model P w) (A.deeper (envOfC qual scope 'g' f cd)) (leaving (envOfC qual scope 'g' f cd) e) (λ_ s''=>CX outer H s E e s'') (λe' s''=>CX outer H s E e' s'') s'
def mh{sc:Scope}{n:Nat}{x:Str}(h:sc.names.lookup x=some .cell):∃c,(cellsFrom n sc.names []).lookup x=some c:=by
 have q:=PySem.W.cellsFrom_some sc.names n [] (.inl h);exact jt.mp q
def vE{CX:CXT}{P:xT}{w:xU}{K:xh}{mg:xf}{base:Heap}{N ps:xp}{qual:Str}{scope:Scope}{f:xS}{cd:xQ}{A:xV}{outer:List Env}{s s1:xR}{H:Hp}{E:XK}{us:xm}{vs:List V}
 (S:FnScope N ps scope) (hd:A.handled=none) (e0:Env0 P w K mg base A outer s H) (hl:vs.length=ps.length) (r:Vals vs us)
 (x:InCallC s 'g' (bindL (envOfC qual scope 'g' f cd).kindOf (ps.zip us) λ_=>none) (cellsFrom ('g'+1) scope.names []) (bindC (envOfC qual scope 'g' f cd).kindOf (ps.zip us) λ_=>none) s1) :
 Inv (QD CX P w K mg base N qual scope f cd A outer s H E) [] (JD N vs) H s1:=by
 have hpl:ps.length<=N.length:=by have:=qG List.length S.pre;rw[jW]at this;omega
 obtain⟨h1,tk,rfl,hk⟩:=x.done;have noA:∀b:xS,b∉(QD CX P w K mg base N qual scope f cd A outer s H E).ex:=λb z=>absurd (show b∈([]:List xS) from z) 'f'
 refine⟨⟨e0.mod,S.kind,rfl,rfl,jE _,λy z c h1 h2=>?_,λy hy=>?_,λy c _ h=>?_,λ_=>hd,Around.frames_deeper e0.frames,.inr ⟨rfl,rfl⟩,λb z=>absurd z (noA b),e0.bs,e0.bsz,λb _ _=>noA b,λb z=>absurd z (noA b),e0.funs,e0.frf⟩,
  rfl,e0.bare,Un.kept hk,⟨_,x.toInCall.ns,λi y v h1 h2 h3=>?_⟩,λy c h=>⟨_,x.cell y c h⟩,e0.hok.fresh (jE _),λy c h=>?_,λp hp=>absurd (show p∈([]:xg) from hp) 'f',e0.hok.kept hk,?_⟩
 . exact name_of_addr x.apart (PySem.mem_of_lookup h1) (PySem.mem_of_lookup h2)
 . have hy:scope.names.lookup y=some .cell\/scope.names.lookup y=some .free:=hy;rcases hy with hy | hy
   . exact mh hy
   . exact absurd rfl (S.nofree _ (PySem.mem_of_lookup hy))
 . exact kG (x.above y c (PySem.mem_of_lookup h))
 . have hi:i < vs.length:=by
    unfold JD at h2
    by_cases hi:i<vs.length
    . exact hi
    . rw[j3 (by simpa using hi)]at h2;rw[List.getElem?_replicate]at h2;split at h2<;>cases h2
   have ha:vs[i]?=some v:=by
    unfold JD at h2;rw[kU (by simpa using hi),jD]at h2
    cases e:vs[i]? with
    |none=>rw[e]at h2;cases h2
    |some a=>rw[e]at h2;cases h2;rfl
   obtain⟨u,hu,rv⟩:=r.get ha
   have hp:ps[i]?=some y:=by
    rw[<- S.pre,List.getElem?_take_of_lt 'c'];exact h1
   have ndP:ps.Nodup:=by rw[<- S.pre];exact S.nd.sublist (List.take_sublist _ _)
   refine⟨u,rv,?_⟩;rcases S.par y (jZ hp) with k|k
   . exact .inl ⟨k,me ndP hp hu k⟩
   . obtain⟨c,e⟩:=mh (n:='g'+1) k;refine .inr ⟨.inl k,c,e,?_⟩;have q:=x.cell y c e;rw[mf ndP hp hu (by show scope.names.lookup y≠_;rw[k];decide)]at q;exact q
 . exact e0.hok.fresh (kG (x.above y c (PySem.mem_of_lookup h)))
 . unfold JD;show _=N.length;rw[jU,jA,List.length_replicate];omega
def au{CX:CXT}{P:xT}{w:xU}{K:xh}{mg:xf}{base:Heap}{k:Nat}{f:xS}{name qual:Str}{params:Arguments}{body:List Stmt}{scope:Scope}{dV kV xI pm xu ct oc:xQ}{an od:Option xS}
 {osl:Array (xj)}{N ps:xp}{sp:Sp} (lk:K.lookup f=some ⟨oc,od,.func (PySem.W.fnOf name qual params body scope dV kV xI pm an xu ct),osl⟩) (hcd:PySem.W.codeIn K xu qual=true) (S:FnScope N ps scope)
 (len:∀vs H Q E,sp vs H Q E->vs.length=ps.length)
 (xB:∀(A:xV) (outer:List Env) (s:xR) (H:Hp) (vs:List V) (Q:VK) (E:XK),Room k (A.deeper (envOfC qual scope 'g' f xu))->sp vs H Q E ->
  ∃t,PSs (QD CX P w K mg base N qual scope f xu A outer s H E) body t/\t { nx:=λ_ H'=>Q .non H',rt:=Q } (JD N vs) H) :
 FnOk P w K mg base CX (k+1) f (PySem.W.fnOf name qual params body scope dV kV xI pm an xu ct) ps sp:=by
 refine⟨len,λA outer s H args us vs Q E hr e0 hb r hsp=>?_⟩;have hl:=len _ _ _ _ hsp;have KX:K.In s.heap:=e0.mod.kin.keeps λb o e=>(e0.bs b o e).1;have lim:s.heap.NoLimit:=e0.mod.nolimit.keeps λb o e=>(e0.bs b o e).1
 have hkind:∀y∈ps.zip us,scope.names.lookup y.1=some .local\/(scope.names.lookup y.1=some .cell/\((cellsFrom ('g'+1) scope.names []).lookup y.1).isSome=true):=λ⟨n,v⟩ hy=>by
  rcases S.par n (List.of_mem_zip hy).1 with q|q
  . exact .inl q
  . exact .inr ⟨q,PySem.W.cellsFrom_some _ _ _ (.inl q)⟩
 refine codeAny_call_function hr.depth (KX _ _ lk) rfl S.co S.gen rfl (PySem.W.codeRec_of KX hcd) (hb _ _ _ _ ?_);refine wpAny_newFunctionEnv_cells S.kind hkind λenv he s1 x=>?_;subst he;refine⟨lim.keeps x.toInCall.keep,codeAny_func ?_⟩;obtain⟨t,ht,hq⟩:=xB A outer s H vs Q E (hr.deeper _) hsp;have I:Inv (QD CX P w K mg base N qual scope f xu A outer s H E) [] (JD N vs) H s1:=vE S hr.hd e0 hl r x;refine qq (ht [] s1 (JD N vs) H _ I hq) (λfl s' hs=>?_) λe s' hs=>hs
 have fin:∀{σ':St}{H':Hp}{v:V}{u:xQ},Inv (QD CX P w K mg base N qual scope f xu A outer s H E) [] σ' H' s'->RelV v u->Q v H'->CE outer P w H s Q u s' :=
  fun {σ' H' v u} J rv q=>⟨v,H',J.os,J.bare,J.base,J.hok,rv,q⟩
 cases fl with
 |ret u =>
  obtain⟨v,σ',H',J,rv,q⟩:=hs;exact fin J rv q
 |next =>
  obtain⟨σ',H',J,q⟩:=hs;exact fin (v:=V.non) (u:=Value.none) J rfl q
 |brk =>
  obtain⟨_,_,_,q⟩:=hs;exact False.elim q
 |cont =>
  obtain⟨_,_,_,q⟩:=hs;exact False.elim q
section
variable {X:Cx}{x:Str}{p pos:Pos}{e:Expr}{es:List Expr}{t:TA}{id T:String}{r:List V->Hp->VK->Prop}
def tCB(r:List V->Hp->VK->Prop)(t:TA):TE:=λσ H Q=>t σ H λvs H1=>r vs H1 Q
theorem Q1(hc:CallR X (.builtin id) r)(hg:Gl X x)(hm:X.mg x=none)(hv:bootBuiltins x=some (.builtin id))(ha:PA X (e::es) t)(hn:x ≠ "__name__" := by decide)(hdb:(x==("__debug__" : Str))=false:=by decide)
 (he:starEach (e::es) X.env=(false,eval e X.env)::starEach es X.env:=by rfl) (hpl:(backTo pos (starEach es X.env)).any (·.1)=false:=by rfl):PE X (.Call (.Name x p) (e::es) [] pos) (tCB r t):=by
 intro xt s σ H Q I h;refine qI (QR I hg hm hv ?_ hn hdb);exact PyProof.Rows.callWith_builtin1 (thn (ha pos xt s σ H _ I h) λus s1 ⟨vs,H1,I1,r1,q1⟩=>hc xt s1 σ H1 vs us Q I1 r1 q1) he hpl
def JU(hc:CallR X (.type T) r)(hg:Gl X x)(hm:X.mg x=none)(hv:bootBuiltins x=some (.type T))(ha:PA X (e::es) t)(hn:x ≠ "__name__" := by decide)(hdb:(x==("__debug__" : Str))=false:=by decide)
 (he:starEach (e::es) X.env=(false,eval e X.env)::starEach es X.env:=by rfl) (hpl:(backTo pos (starEach es X.env)).any (·.1)=false:=by rfl):PE X (.Call (.Name x p) (e::es) [] pos) (tCB r t):=by
 intro xt s σ H Q I h;refine qI (QR I hg hm hv ?_ hn hdb);exact PyProof.Rows.callWith_type1 (thn (ha pos xt s σ H _ I h) λus s1 ⟨vs,H1,I1,r1,q1⟩=>hc xt s1 σ H1 vs us Q I1 r1 q1) he hpl
end
end L2
namespace HT
open PySem PyProof.Rows
def lexLt:xr->xr->Bool
 | [],[]=>false
 | [],_::_=>true
 |_::_,[]=>false
 |x::xs,y::ys=>if x=y then lexLt xs ys else decide (x<y)
def lexLt_cons(x y:Int)(xs ys:xr):lexLt (x::xs) (y::ys)=if x=y then lexLt xs ys else decide (x<y):=rfl
def vF:lexLt [] []=false:=rfl
def vG(y:Int)(ys:xr):lexLt [] (y::ys)=true:=rfl
def lexLt_cons_nil(x:Int)(xs:xr):lexLt (x::xs) []=false:=rfl
def vH(A:xV)(s:xR)(a:Int)(t:Tok)(c:Int)(u:Tok):∃e,SeqAt.EqAt A s (.int a t) (.int c u) e/\(e=true↔a=c) :=
 ⟨(a==c),SeqAt.EqAt.int_int a t c u,by simp⟩
def vI(A:xV)(s:xR)(a:Int)(t:Tok)(c:Int)(u:Tok)(prog:xT)(w:xU)(E:xc)(Q:xc)(h:Q (.bool (decide (a<c))) s) :
 wpAny (model prog w) A (richCompare .Lt (.int a t) (.int c u)) Q E s :=
 (PyProof.Rows.lt_int h:wpAny (model prog w) A (compareOp .Lt (.int a t) (.int c u)) Q E s)
section
open PySem.SeqAt
open PySem.AutoSeq1 (wpAny_loadPart')
open PySem.MeetsSeq PySem.MeetsSeq2 PySem.MeetsSeq3
def vJ(l b:xS)(items items2:xk)(n n2:Nat)(dd dd2:Option xS)(sl sl2:Array (xj))(ns ms:xr)(hi:IntsAre items.toList ns)(hj:IntsAre items2.toList ms) :
 Meets (Builtin.«tuple.__lt__» ⟨[.ref l,.ref b],[]⟩)
  (λ_ R s=>'i' l=some { cls := .type "tuple",dict:=dd,data := .seq items n,slots:=sl }/\'i' b=some { cls := .type "tuple",dict:=dd2,data := .seq items2 n2,slots:=sl2 } /\
   R (.ok (.ret (.bool (lexLt ns ms)))) s) :=
 .of_wp λprog w A R s h=>by
  obtain⟨hp,g,d,tk,os⟩:=s;obtain⟨hl,hb,h⟩:=h;have f2:=AutoSeq1.sub_tuple_tuple;have z1:items.size=ns.length:=by rw[<- hi.length];simp
  have z2:items2.size=ms.length:=by rw[<- hj.length];simp
  wp_walk using wpAny_loadPart' hl,wpAny_loadPart' hb,wpAny_forIn_list _ (λxy b s'=>b.1=none/\s'=⟨hp,g,d,tk,os⟩/\∃(vs ws:xm) (ns' ms':xr),xy=vs.zip ws /\
   IntsAre vs ns'/\IntsAre ws ms'/\ns'.length+items2.size=ms'.length+items.size/\R (.ok (.ret (.bool (lexLt ns' ms')))) ⟨hp,g,d,tk,os⟩) _
  case turn =>
   rintro⟨y,x⟩ xy b s' ⟨hb',rfl,vs,ws,ns',ms',hz,hvi,hwi,xx,hR⟩
   cases hvi with
   |nil=>rw[List.zip_nil_left]at hz;cases hz
   |cons a t hvi' =>
    cases hwi with
    |nil=>rw[List.zip_nil_right]at hz;cases hz
    |cons c u hwi' =>
     rw[List.zip_cons_cons]at hz;injection hz with hyx hrest
     injection hyx with hy hx
     subst hy hx;rw[lexLt_cons]at hR;simp only[jV]at xx;obtain⟨e,he,hiff⟩:=vH A.in1 ⟨hp,g,d,tk,os⟩ a t c u;refine q8 (he prog w _ _ ?_)
     cases e with
     |true =>
      rw[qh (hiff.mp rfl)]at hR;wp_walk;exact⟨rfl,rfl,_,_,_,_,hrest,hvi',hwi',by omega,hR⟩
     |false =>
      rw[qg (λq=>absurd (hiff.mpr q) jR)]at hR;have hri:=vI A.in1 ⟨hp,g,d,tk,os⟩ a t c u prog w;wp_walk using hri;exact⟨_,rfl,by simpa using hR⟩
  case fin =>
   rintro⟨b1,b2⟩ s' ⟨hb',rfl,vs,ws,ns',ms',hz,hvi,hwi,xx,hR⟩;simp only at hb';subst hb'
   have hv:lexLt ns' ms'=decide (items.size<items2.size):=by
    cases hvi with
    |nil =>
     cases hwi with
     |nil =>
      simp only[kF]at xx;rw[vF];exact(qj 'c').symm
     |cons c u hw =>
      simp only[kF,jV]at xx;rw[vG];exact(qi 'c').symm
    |cons a t hv =>
     cases hwi with
     |nil =>
      simp only[kF,jV]at xx;rw[lexLt_cons_nil];exact(qj 'c').symm
     |cons c u hw =>
      rw[List.zip_cons_cons]at hz
      cases hz
   rw[hv]at hR;wp_walk;exact⟨_,rfl,by simpa [Builtin.Tuple.tupleCompareSizes] using hR⟩
  case h =>
   exact⟨rfl,rfl,items.toList,items2.toList,ns,ms,rfl,hi,hj,by omega,h⟩
end
section
variable {prog:xT}{w:xU}{A:xV}{E:xc}{s:xR}
theorem lt_tupInts(hl:IsTup s.heap l items)(hb:IsTup s.heap b items2)(hi:IntsAre items.toList ns)(hj:IntsAre items2.toList ms)
 (hu:A.units<cLine) (h:Q (.bool (lexLt ns ms)) s):wpAny (model prog w) A (compareOp .Lt (.ref l) (.ref b)) Q E s:=by
 obtain⟨⟨cls,dd,data,sl⟩,ho,hc,n,hd⟩:=id hl;obtain⟨⟨cls2,dd2,data2,sl2⟩,ho2,hc2,n2,hd2⟩:=id hb;simp only at hc hd hc2 hd2;subst hc hd hc2 hd2
 exact richCompare_meets_room (op := .Lt) ⟨_,ho,rfl⟩ ⟨_,ho2,rfl⟩ PySem.F.slot_tuple_lt PySem.F.entry_tuple_lt (PySem.F.args_tuple_lt_2 _ _) (vJ l b items items2 n n2 dd dd2 sl sl2 ns ms hi hj)
  ⟨ho,ho2,show Value.bool (lexLt ns ms)≠Value.notImplemented/\Q (.bool (lexLt ns ms)) s from⟨(λx=>nomatch x),h⟩⟩ hu
theorem cat_tup(ht:IsTup s.heap t vs.toArray)(hb:IsTup s.heap b ws.toArray)(hv:vs≠[])
 (h1:ws=[]->Q (.ref t) s) (h2:ws≠[]->Q (.ref 'g') { s with heap:=s.heap.push { cls := .type "tuple",data := .seq (vs++ws).toArray } })
 (hsz:vs.length+ws.length<=sizeLine):wpAny (model prog w) A (binaryOp .Add (.ref t) (.ref b)) Q E s:=by
 obtain⟨⟨cls,dd,data,sl⟩,ho,hc,n,hd⟩:=id ht;obtain⟨⟨cls2,dd2,data2,sl2⟩,ho2,hc2,n2,hd2⟩:=id hb;simp only at hc hd hc2 hd2;subst hc hd hc2 hd2;have e:vs.toArray++ws.toArray=(vs++ws).toArray:=by simp
 by_cases hw:ws=[]
 . exact concat_meets ⟨_,ho,rfl⟩ ⟨_,ho2,rfl⟩ noFill_tuple_add seq_tuple_add PySem.F.slot_tuple_add PySem.F.entry_tuple_add (PySem.F.args_tuple_add_2 _ _)
    (tuple_addW1 t b vs.toArray ws.toArray n n2 dd dd2 sl sl2 (by simpa using hv) (by simp[hw])) ⟨ho,ho2,h1 hw⟩
 . refine concat_meets ⟨_,ho,rfl⟩ ⟨_,ho2,rfl⟩ noFill_tuple_add seq_tuple_add PySem.F.slot_tuple_add PySem.F.entry_tuple_add (PySem.F.args_tuple_add_2 _ _)
    (tuple_addW2 t b vs.toArray ws.toArray n n2 dd dd2 sl sl2 (by simpa using hv) (by simpa using hw) (by rw[jK,jK];exact hsz)) ⟨ho,ho2,?_⟩
   rw[e];exact h2 hw
def sIx(n d:Nat):Option Int->Nat
 |none=>d
 |some v=>if v<0 then(v+(n:Int)).toNat else min v.toNat n
def sIx_none(n d:Nat):sIx n d none=d:=rfl
def sIx_nat(n d k:Nat):sIx n d (some (k:Int))=min k n:=by
 show(if (k:Int)<0 then((k:Int)+(n:Int)).toNat else min (k:Int).toNat n)=min k n;rw[qg 'c',kC]
def vK(n d:Nat)(hd:d<=n)(o:Option Int):sIx n d o<=n:=by
 cases o with
 |none=>exact hd
 |some v =>
  show(if v<0 then(v+(n:Int)).toNat else min v.toNat n)<=n
  by_cases hv:v<0
  . rw[qh hv];omega
  . rw[qg hv];exact Nat.min_le_right _ _
def mi(v:Int)(n d:Nat):(if v<0 then max (v+(n:Int)) 0 else min v (n:Int))=((sIx n d (some v):Nat):Int):=by
 show(if v<0 then max (v+(n:Int)) 0 else min v (n:Int))=(((if v<0 then(v+(n:Int)).toNat else min v.toNat n):Nat):Int)
 by_cases hv:v<0
 . simp only[qh hv];omega
 . simp only[qg hv];omega
def vL(lo hi:Option Int)(n:Nat):Builtin.Slice.sliceAdjust lo hi 1 (n:Int)=(((sIx n 0 lo:Nat):Int),((sIx n n hi:Nat):Int)):=by
 have h1:¬((1:Int)<0):=by omega
 unfold Builtin.Slice.sliceAdjust;simp only[h1,qP];refine Prod.ext ?_ ?_
 . cases lo with
   |none=>rfl
   |some v=>exact mi v n 0
 . cases hi with
   |none=>rfl
   |some v=>exact mi v n n
def vM(i j:Nat):Builtin.Slice.slicePlaces (i:Int) (j:Int) 1=j - i:=by
 unfold Builtin.Slice.slicePlaces;have h1:(1:Int) > 0:=by omega
 simp only[h1,if_true,Int.ediv_one];split<;>omega
def mj(p:IsPart v o)(h:Q o s):wpAny (model prog w) A (Builtin.Slice.slicePartIndex v) Q E s:=by
 cases p with
 |none=>exact slicePart_none h
 |int i t=>exact slicePart_int h
theorem mq{lo hi:Option Int}{n:Nat}{Q:Int×Int×Nat->xR->Prop}(hs:s.heap.IsSliceOf sl vl vu .none)(pl:IsPart vl lo)(pu:IsPart vu hi)
 (h:Q (((sIx n 0 lo:Nat):Int),1,sIx n n hi - sIx n 0 lo) s):wpAny (model prog w) A (Builtin.Slice.sliceApplied (.ref sl) (pure (n:Int))) Q E s:=by
 obtain⟨os,hos,hcs,hds⟩:=id hs;unfold Builtin.Slice.sliceApplied Builtin.Slice.sliceFields;refine q8 (q8 (qk hos hds (x:=vl) rfl (q8 (qk hos hds (x:=vu) rfl (q8 (qk hos hds (x := .none) rfl (qf ?_)))))));refine q8 (slicePart_none ?_);show wpAny _ _ (if ((1:Int)==0)=true then _ else _) _ _ s;rw[qg 'd'];refine q8 (mj pl (q8 (mj pu (q8 (qf ?_)))));show wpAny _ _ (match Builtin.Slice.sliceAdjust lo hi 1 (n:Int) with|(lo,hi)=>pure (lo,(1:Int),Builtin.Slice.slicePlaces lo hi 1)) _ _ s;rw[vL lo hi n];show wpAny _ _ (pure (((sIx n 0 lo:Nat):Int),(1:Int),Builtin.Slice.slicePlaces ((sIx n 0 lo:Nat):Int) ((sIx n n hi:Nat):Int) 1)) _ _ s;rw[vM];exact qf h
def vN(xs:xk)(i k:Nat):((List.range k).filterMap λ(m:Nat)=>xs[((i:Int)+(m:Int)*1).toNat]?).toArray=((xs.toList.drop i).take k).toArray:=by
 have e:(λ(m:Nat)=>xs[((i:Int)+(m:Int)*1).toNat]?)=λm=>xs[i+m]? := by
  funext m
  have:((i:Int)+(m:Int)*1).toNat=i+m:=by omega
  rw[this]
 rw[e];have:=pick_run xs i k;rw[List.filterMap_map]at this;have e2:((λx=>xs[x]?) ∘ λx=>i+x)=λm=>xs[i+m]? := rfl;rw[e2]at this;rw[this]
theorem getItem_tuple_cut{items:xk}{lo hi:Option Int}{Q:xc}(ht:IsTup s.heap t items)(hs:s.heap.IsSliceOf sl vl vu .none)(pl:IsPart vl lo)(pu:IsPart vu hi)
 (hw:¬(sIx items.size 0 lo=0/\sIx items.size items.size hi=items.size))
 (h:Q (.ref 'g') { s with heap:=s.heap.push { cls := .type "tuple",data := .seq ((items.toList.drop (sIx items.size 0 lo)).take (sIx items.size items.size hi - sIx items.size 0 lo)).toArray } })
 (hsz:items.size<=sizeLine):wpAny (model prog w) A (getItem (.ref t) (.ref sl)) Q E s:=by
 have htake:sizeOk (.seq ((items.toList.drop (sIx items.size 0 lo)).take (sIx items.size items.size hi - sIx items.size 0 lo)).toArray):=by
  show((items.toList.drop (sIx items.size 0 lo)).take (sIx items.size items.size hi - sIx items.size 0 lo)).toArray.size<=sizeLine;rw[jK,jW,List.length_drop,js];omega
 have hj:sIx items.size items.size hi<=items.size:=vK _ _ (jE _) hi;obtain⟨os,hos,hcs,hds⟩:=id hs;have hTs:s.TypeIs (.ref sl) "slice" := ⟨os,hos,hcs⟩;unfold getItem
 try with_reducible refine qF ?_
 first|refine q8 (qf ?_)|skip
 refine q8 (wpAny_sequenceKey ht.typeIs 'd' ?_)
 refine q8 (qD (name:=Str.ofString "__getitem__") ht.typeIs PyProof.Rows.slot_tuple_getitem
  (qE PyProof.Rows.slot_tuple_getitem ht.typeIs entry_tuple_getitem ?_ (args_tuple_getitem _ _)))
 show wpAny _ _ (Builtin.Tuple.tupleItemsOf (.ref t) >>= _) _ _ s;refine q8 (tupleItemsOf_ ht ?_);refine q8 (qY hTs ?_);rw[qh 'd'];refine q8 (mq hs pl pu ?_)
 have hno:¬((((sIx items.size 0 lo:Nat):Int)==0&&(1:Int)==1&&(sIx items.size items.size hi - sIx items.size 0 lo)==items.size)=true):=by
  intro q;rw[kH,kH]at q;have q1:((sIx items.size 0 lo:Nat):Int)=0:=eq_of_beq q.1.1;have q2:sIx items.size items.size hi - sIx items.size 0 lo=items.size:=eq_of_beq q.2;exact hw ⟨by omega,by omega⟩
 show wpAny _ _ (if (((sIx items.size 0 lo:Nat):Int)==0&&(1:Int)==1&&(sIx items.size items.size hi - sIx items.size 0 lo)==items.size)=true then _ else _) _ _ s;rw[qg hno,vN]
 first
  |exact q8 (m:=Builtin.Tuple.tupleExact _) (qu (qf ⟨_,rfl,qf h⟩) htake)
  |exact q8 (m:=Builtin.Tuple.tupleExact _) (qu (q8 (qf (qf ⟨_,rfl,qf h⟩))) htake)
  |exact q8 (q8 (m:=Builtin.Tuple.tupleExact _) (qu (qf (qf ⟨_,rfl,qf h⟩)) htake))
  |exact q8 (q8 (m:=Builtin.Tuple.tupleExact _) (qu (qf ⟨_,rfl,qf h⟩) htake))
end
end HT
namespace L2
open PySem PySem.Spec PyProof.Rows
abbrev TO:=St->Hp->(Option Int->Hp->Prop)->Prop
def PO(X:Cx)(e:Option Expr)(t:TO):Prop :=
 ∀(xt:xg) (s:xR) (σ:St) (H:Hp) (Q:Option Int->Hp->Prop),Inv X xt σ H s->t σ H Q ->
  wpAny (model X.prog X.w) X.A (evalPart e X.env) (λu s'=>∃o H',Inv X xt σ H' s'/\IsPart u o/\Q o H') X.xe s
def vO:TO:=λ_ H Q=>Q none H
def vP(t:TE):TO:=λσ H Q=>t σ H λx H1=>∃i,x=.int i/\Q (some i) H1
def mr:∀{us:xm},Vals (ns.map V.int) us->IntsAre us ns:=by
 induction ns with
 |nil=>intro us r;rw[List.map_nil]at r;cases r;exact .nil
 |cons n ns ih =>
  intro us r;rw[jM]at r
  cases r with
  |cons r1 r2 =>
   obtain⟨t,e⟩:=r1;subst e;exact .cons n t (ih r2)
section
variable {X:Cx}{e:Expr}{te:TE}{lo hi:Option Expr}{tl th:TO}{pos p2:Pos}
def X2:PO X none vO:=by
 intro xt s σ H Q I h;rw[evalPart_none];exact qf ⟨none,H,I,.none,h⟩
def QJ(h:PE X e te):PO X (some e) (vP te):=by
 intro xt s σ H Q I hw;rw[evalPart_some];refine thn (h xt s σ H _ I hw) λu s1 pc=>?_;obtain⟨x,H1,I1,r1,q1⟩:=pc;obtain⟨i,rfl,q⟩:=q1;obtain⟨t,rfl⟩:=r1;exact⟨some i,H1,I1,.int i t,q⟩
def SlR(X:Cx)(r:V->Option Int->Option Int->Hp->VK->Prop):Prop :=
 ∀(xt:xg) (s:xR) (σ:St) (H:Hp) (x:V) (v vl vu:xQ) (lo hi:Option Int) (sl:xS) (Q:VK),Inv X xt σ H s->RelV x v->s.heap.IsSliceOf sl vl vu .none->IsPart vl lo->IsPart vu hi->r x lo hi H Q ->
  ∃T id,typeLookup (.type T) "__getitem__" = pure (some (.builtin id))/\s.TypeIs v T/\wpAny (model X.prog X.w) X.A (getItem v (.ref sl)) (EP X xt σ Q) X.xe s
def SlR.or(h:SlR X r)(h':SlR X r'):SlR X (λx lo hi H Q=>r x lo hi H Q\/r' x lo hi H Q):=by
 intro xt s σ H x v vl vu lo hi sl Q I rx hs pl pu q;rcases q with q|q
 . exact h xt s σ H x v vl vu lo hi sl Q I rx hs pl pu q
 . exact h' xt s σ H x v vl vu lo hi sl Q I rx hs pl pu q
def tSl(r:V->Option Int->Option Int->Hp->VK->Prop)(te:TE)(tl th:TO):TE:=λσ H Q=>te σ H λx H1=>tl σ H1 λl H2=>th σ H2 λu H3=>r x l u H3 Q
theorem QT(hr:SlR X r)(he:PE X e te)(hl:PO X lo tl)(hu:PO X hi th):PE X (.Subscript e (.Slice lo hi none p2) pos) (tSl r te tl th):=by
 intro xt s σ H Q I h;refine Subscript_ (thn (he xt s σ H _ I h) λv s1 pc=>?_);obtain⟨x,H1,I1,r1,q1⟩:=pc;refine wpAny_Slice (thn (hl xt s1 σ H1 _ I1 q1) λvl s2 pc=>?_);obtain⟨l,H2,I2,pl,q2⟩:=pc;refine thn (hu xt s2 σ H2 _ I2 q2) λvu s3 pc=>?_;obtain⟨u,H3,I3,pu,q3⟩:=pc;rw[evalPart_none];refine qf ?_;have I4:Inv X xt σ H3 { s3 with heap:=s3.heap.push { cls := .type "slice",data := .fields #[vl,vu,.none] } }:=I3.kept (t':=s3.toks) λb ob q=>jC _ q;obtain⟨T,id,hT,ht,hg⟩:=hr xt { s3 with heap:=s3.heap.push { cls := .type "slice",data := .fields #[vl,vu,.none] } } σ H3 x v vl vu l u s3.heap.objs.size Q I4 r1 (Heap.IsSliceOf.new ..) pl pu q3;show wpAny (model X.prog X.w) X.A (subscriptTail e (.Slice lo hi none p2) v (.ref s3.heap.objs.size)) (EP X xt σ Q) X.xe { s3 with heap:=s3.heap.push { cls := .type "slice",data := .fields #[vl,vu,.none] } };exact tail_any (ops:=[.ref s3.heap.objs.size,v]) ht hT hg (by with_unfolding_all rfl)
def JB(xs:List V)(lo hi:Option Int):List V:=(xs.drop (HT.sIx 'h' 0 lo)).take (HT.sIx 'h' 'h' hi - HT.sIx 'h' 0 lo)
def Yd(xs:List V)(lo hi:Option Int):(JB xs lo hi).length<='h':=by
 unfold JB;rw[jW,List.length_drop];omega
def mv(K:xh):V->Option Int->Option Int->Hp->VK->Prop:=λx lo hi H Q=>∃a xs,x=.ref a/\SqT K H a xs /\
 ¬(HT.sIx 'h' 0 lo=0/\HT.sIx 'h' 'h' hi='h')/\∀p,H p=none->Q (.ref p) (upd H p (.tup (JB xs lo hi)))
def mw:SlR X (mv X.K):=by
 intro xt s σ H x v vl vu lo hi sl Q I rx hs pl pu h;obtain⟨a,xs,rfl,hx,hw,q⟩:=h
 cases rx
 obtain⟨its,r,ht,hz⟩:=I.tuple hx;have xx:its.toArray.size='h':=by rw[jK];exact r.length.symm
 refine⟨"tuple",_,PyProof.Rows.slot_tuple_getitem.lookup,ht.typeIs,?_⟩;refine HT.getItem_tuple_cut ht hs pl pu (by rw[xx];exact hw) ?_ (by rw[xx];exact hz);rw[xx];refine⟨.ref 'g',_,I.laid (t':=s.toks) (o := .tup (JB xs lo hi)) (λb ob q=>jC _ q) (jE _) ?_,rfl,q _ (I.hok.fresh (jE _))⟩;exact⟨jg (Yd xs lo hi) hz,_,(r.drop (HT.sIx 'h' 0 lo)).take (HT.sIx 'h' 'h' hi - HT.sIx 'h' 0 lo),IsTup.new _ _⟩
def mx(K:xh):R2:=λx y H Q=>∃a b xs ys,x=.ref a/\y=.ref b/\SqT K H a xs/\SqT K H b ys/\xs≠[]/\'h'+ys.length<=sizeLine /\
 (ys=[]->Q (.ref a) H)/\(ys≠[]->∀p,H p=none->Q (.ref p) (upd H p (.tup (xs++ys))))
def Vals.nil_iff(r:Vals xs us):us=[]↔xs=[]:=by
 cases r with
 |nil=>simp
 |cons _ _=>simp
def my:OpR X (binaryOp .Add) (mx X.K):=by
 intro xt s σ H x y v u Q I rx ry h;obtain⟨a,b,xs,ys,rfl,rfl,ha,hb,hx,hz,q1,q2⟩:=h
 cases rx
 cases ry
 obtain⟨its,r1,p1,_⟩:=I.tuple ha;obtain⟨its2,r2,p2,_⟩:=I.tuple hb;refine HT.cat_tup p1 p2 (λz=>hx (r1.nil_iff.mp z)) (λz=>⟨.ref a,H,I,rfl,q1 (r2.nil_iff.mp z)⟩) (λz=>?_) (by rw[<- r1.length,<- r2.length];exact hz);refine⟨.ref 'g',_,I.laid (t':=s.toks) (o := .tup (xs++ys)) (λb ob q=>jC _ q) (jE _) ?_,rfl,q2 (λw=>z (r2.nil_iff.mpr w)) _ (I.hok.fresh (jE _))⟩;exact⟨by rw[jU];exact hz,_,r1.append r2,IsTup.new _ _⟩
end
def ixN(n:Nat)(i:Int):Option Nat:=if 0<=i then(if i<n then some i.toNat else none) else if -(n:Int)<=i then some (i+n).toNat else none
def atI{α:Type}(xs:List α)(i:Int):Option α:=(ixN 'h' i).bind λj=>xs[j]?
def vQ(h:ixN n i=some j):seqIndex? i n=some j/\j<n /\ -(n:Int)<=i/\i<n:=by
 unfold ixN at h
 by_cases h0:0<=i
 . rw[qh h0]at h
   by_cases h1:i<n
   . rw[qh h1]at h;have e:i.toNat=j:=Option.some.inj h;exact⟨by rw[seqIndex_of h0 h1,e],by omega,by omega,h1⟩
   . rw[qg h1]at h;cases h
 . rw[qg h0]at h
   by_cases h1 : -(n:Int)<=i
   . rw[qh h1]at h;have e:(i+n).toNat=j:=Option.some.inj h;exact⟨by rw[seqIndex_neg 'c' h1,e],by omega,h1,by omega⟩
   . rw[qg h1]at h;cases h
def eP{α:Type}{xs:List α}{i:Int}{v:α}(h:atI xs i=some v):∃j,seqIndex? i 'h'=some j/\xs[j]?=some v/\j<'h' /\ -('h':Int)<=i/\i<'h':=by
 unfold atI at h
 cases e:ixN 'h' i with
 |none=>rw[e]at h;cases h
 |some j =>
  rw[e]at h;obtain⟨h1,h2,h3,h4⟩:=vQ e;exact⟨j,h1,h,h2,h3,h4⟩
def Qe{α:Type}{xs:List α}{j:Nat}{v:α}(h:xs[j]?=some v):atI xs (j:Int)=some v:=by
 have hj:j<'h':=(jF.mp h).1
 have e:ixN 'h' (j:Int)=some j:=by
  unfold ixN;rw[qh 'c',qh 'c'];simp
 unfold atI;rw[e];exact h
def mz(b:Expr):Prop:=∀o i,subscripted b false o i=operate [o,i] (getItem o i)
def IxR(X:Cx)(r:R2):Prop :=
 ∀(value slice:Expr) (xt:xg) (s:xR) (σ:St) (H:Hp) (x y:V) (v u:xQ) (Q:VK),Inv X xt σ H s->RelV x v->RelV y u->r x y H Q ->
  subscripted slice false v u=operate [v,u] (getItem v u)->wpAny (model X.prog X.w) X.A (subscriptTail value slice v u) (EP X xt σ Q) X.xe s
def MtR(X:Cx)(id:String)(r:V->List V->Hp->VK->Prop):Prop :=
 ∀(xt:xg) (s:xR) (σ:St) (H:Hp) (x:V) (xs:List V) (v:xQ) (us:xm) (Q:VK),Inv X xt σ H s->RelV x v->Vals xs us->r x xs H Q ->
  wpAny (model X.prog X.w) X.A (call (.builtin id) (v::us)) (EP X xt σ Q) X.xe s
section
variable {X:Cx}{a b:Expr}{ta tb:TE}{pos:Pos}
def IxR.or(h:IxR X r)(h':IxR X r'):IxR X (λx y H Q=>r x y H Q\/r' x y H Q):=by
 intro value slice xt s σ H x y v u Q I rx ry q hs;rcases q with q|q
 . exact h value slice xt s σ H x y v u Q I rx ry q hs
 . exact h' value slice xt s σ H x y v u Q I rx ry q hs
def J4(hr:IxR X r)(ha:PE X a ta)(hb:PE X b tb)(hs:mz b):PE X (.Subscript a b pos) (tOp r ta tb):=by
 intro xt s σ H Q I h;exact Subscript_ (eI ha hb I h λv u s2 x y H2 I2 rx ry q=>hr a b xt s2 σ H2 x y v u Q I2 rx ry q (hs _ _))
def mB(K:xh):R2:=λx y H Q=>∃p xs i v,x=.ref p/\y=.int i/\SqL K H p xs/\atI xs i=some v/\Q v H
def mC(K:xh):R2:=λx y H Q=>∃p xs i v,x=.ref p/\y=.int i/\SqT K H p xs/\atI xs i=some v/\Q v H
def mD:R2:=λx y H Q=>∃z i c,x=.str z/\y=.int i/\z.length<=sizeLine/\atI z.cps.toList i=some c/\Q (.str ⟨#[c]⟩) H
def vR:IxR X (mB X.K):=by
 intro value slice xt s σ H x y v u Q I rx ry h hs;obtain⟨p,xs,i,z,rfl,rfl,hq,he,q⟩:=h
 cases rx
 obtain⟨t,rfl⟩:=ry;obtain⟨its,r,pl,hz⟩:=I.list hq;obtain⟨j,h1,h2,h3,h4,h5⟩:=eP he;obtain⟨w,ew,rw'⟩:=r.get h2;have hl:=r.length;have hn:=aj;have fin:EP X xt σ Q w s:=⟨z,H,I,rw',q⟩
 by_cases h0:0<=i
 . have hj:i.toNat=j:=by
    rw[seqIndex_of h0 h5]at h1;exact Option.some.inj h1
   exact item_listR pl.isList h0 'c' (by rw[hj];simpa using ew) fin hs
 . have hj:(i + (its.toArray.size:Int)).toNat=j:=by
    rw[seqIndex_neg 'c' h4]at h1;rw[jK,<- hl];exact Option.some.inj h1
   exact subscriptTail_builtinR (x:=w) pl.isList.typeIs slot_list_getitem.lookup
    (wpAny_getItem_list_neg (Q:=λr s'=>r=w/\EP X xt σ Q r s') pl.isList 'c' (by rw[jK]<;>omega) 'c' (by rw[hj];simpa using ew) ⟨rfl,fin⟩) hs
def vS:IxR X (mC X.K):=by
 intro value slice xt s σ H x y v u Q I rx ry h hs;obtain⟨p,xs,i,z,rfl,rfl,hq,he,q⟩:=h
 cases rx
 obtain⟨t,rfl⟩:=ry;obtain⟨its,r,pl,hz⟩:=I.tuple hq;obtain⟨j,h1,h2,h3,h4,h5⟩:=eP he;obtain⟨w,ew,rw'⟩:=r.get h2;have hl:=r.length;have hn:=aj;have fin:EP X xt σ Q w s:=⟨z,H,I,rw',q⟩
 exact subscriptTail_builtinR (x:=w) pl.typeIs slot_tuple_getitem.lookup
  (getItem_tuple (j:=j) (Q:=λr s'=>r=w/\EP X xt σ Q r s') pl 'c' 'c' (by rw[jK,<- hl];exact h1) (by simpa using ew) ⟨rfl,fin⟩) hs
def vT:IxR X mD:=by
 intro value slice xt s σ H x y v u Q I rx ry h hs;obtain⟨z,i,c,rfl,rfl,hz,he,q⟩:=h;obtain⟨t,rfl⟩:=rx;obtain⟨t',rfl⟩:=ry;obtain⟨j,h1,h2,h3,h4,h5⟩:=eP he;have hl:z.cps.toList.length=z.length:=by simp[Str.length]
 rw[hl]at h1 h4 h5;have hn:=aj
 exact tail_any (typeIs_str s z t) slot_str_getitem.lookup (getItem_str (c:=c) (by
  have e1:decide (i < -(2 ^ 63:Int))=false:=qj 'c';have e2:decide (i ≥ 2 ^ 63)=false:=qj 'c';rw[e1,e2,Bool.or_false]) (by rw[h1];simpa using h2) ⟨.str ⟨#[c]⟩,H,I.tok _,⟨_,rfl⟩,q⟩) hs
def rIx(K:xh):R2:=λx y H Q=>mB K x y H Q\/mC K x y H Q\/mD x y H Q
def vU:IxR X (rIx X.K):=vR.or (vS.or vT)
def vV(lo hi:Option Int)(n:Nat):(sliceBounds lo hi none n).1=((HT.sIx n 0 lo:Nat):Int)/\(sliceBounds lo hi none n).2.1=((HT.sIx n n hi:Nat):Int)/\(sliceBounds lo hi none n).2.2=1:=by
 refine⟨?_,?_,rfl⟩
 . cases lo with
   |none=>simp[sliceBounds,HT.sIx]
   |some i =>
    simp only[sliceBounds,HT.sIx,Option.getD_none,show(1:Int) > 0 by decide,if_true]
    by_cases h:i<0
    . simp only[h,if_true]<;>omega
    . simp only[h,qP]<;>omega
 . cases hi with
   |none=>simp[sliceBounds,HT.sIx]
   |some i =>
    simp only[sliceBounds,HT.sIx,Option.getD_none,show(1:Int) > 0 by decide,if_true]
    by_cases h:i<0
    . simp only[h,if_true]<;>omega
    . simp only[h,qP]<;>omega
def vW(its:xm)(lo hi:Option Int):slicePick its.toArray lo hi none=((its.drop (HT.sIx its.length 0 lo)).take (HT.sIx its.length its.length hi - HT.sIx its.length 0 lo)).toArray:=by
 obtain⟨h1,h2,h3⟩:=vV lo hi its.toArray.size;unfold slicePick;rw[h1,h2,h3];simp only[sliceRange_one,pick_run,jK]<;>rfl
def mE(K:xh):V->Option Int->Option Int->Hp->VK->Prop:=λx lo hi H Q=>∃a xs,x=.ref a/\SqL K H a xs/\∀p,H p=none->Q (.ref p) (upd H p (.lst (JB xs lo hi)))
def vX:SlR X (mE X.K):=by
 intro xt s σ H x v vl vu lo hi sl Q I rx hs pl pu h;obtain⟨a,xs,rfl,hx,q⟩:=h
 cases rx
 obtain⟨its,r,ht,hz⟩:=I.list hx;have xx:=r.length;refine⟨"list",_,slot_list_getitem.lookup,ht.isList.typeIs,?_⟩;refine wpAny_getItem_list_slice ht.isList hs pl pu .none 'f' ?_ (by rw[jK]<;>omega);rw[vW,<- xx];refine⟨.ref 'g',_,I.laid (t':=s.toks) (o := .lst (JB xs lo hi)) (λb ob q=>jC _ q) (jE _) ?_,rfl,q _ (I.hok.fresh (jE _))⟩;exact⟨jg (Yd xs lo hi) hz,_,0,(r.drop (HT.sIx 'h' 0 lo)).take (HT.sIx 'h' 'h' hi - HT.sIx 'h' 0 lo),jH _ rfl⟩
def QU:V->Bool
 |.non=>true
 |.bl _=>true
 |.int _=>true
 |.str _=>true
 |_=>false
def eqV:V->V->Bool
 |.non,.non=>true
 |.bl a,.bl b=>a==b
 |.bl a,.int b=>(if a then 1 else 0)==b
 |.int a,.bl b=>a==(if b then 1 else 0)
 |.int a,.int b=>a==b
 |.str a,.str b=>a==b
 |_,_=>false
def vY(ry:RelV y u)(rx:RelV x v)(fy:QU y=true)(fx:QU x=true):SeqAt.EqAt A s u v (eqV y x):=by
 cases y with
 |non =>
  cases ry
  cases x with
  |non=>cases rx;exact SeqAt.EqAt.same _
  |bl b=>cases rx;exact SeqAt.EqAt.none_bool b
  |int b=>obtain⟨t,rfl⟩:=rx;exact SeqAt.EqAt.none_int b t
  |str b=>obtain⟨t,rfl⟩:=rx;exact SeqAt.EqAt.none_str b t
  |_=>exact absurd (show false=true from fx) jR
 |bl a =>
  cases ry
  cases x with
  |non=>cases rx;exact SeqAt.EqAt.bool_none a
  |bl b=>cases rx;exact SeqAt.EqAt.bool_bool a b
  |int b=>obtain⟨t,rfl⟩:=rx;exact SeqAt.EqAt.bool_int a b t
  |str b=>obtain⟨t,rfl⟩:=rx;exact SeqAt.EqAt.bool_str a b t
  |_=>exact absurd (show false=true from fx) jR
 |int a =>
  obtain⟨t',rfl⟩:=ry
  cases x with
  |non=>cases rx;exact SeqAt.EqAt.int_none a t'
  |bl b=>cases rx;exact SeqAt.EqAt.int_bool a t' b
  |int b=>obtain⟨t,rfl⟩:=rx;exact SeqAt.EqAt.int_int a t' b t
  |str b=>obtain⟨t,rfl⟩:=rx;exact SeqAt.EqAt.int_str a t' b t
  |_=>exact absurd (show false=true from fx) jR
 |str a =>
  obtain⟨t',rfl⟩:=ry
  cases x with
  |non=>cases rx;exact SeqAt.EqAt.str_none a t'
  |bl b=>cases rx;exact SeqAt.EqAt.str_bool a t' b
  |int b=>obtain⟨t,rfl⟩:=rx;exact SeqAt.EqAt.str_int a t' b t
  |str b=>obtain⟨t,rfl⟩:=rx;exact SeqAt.EqAt.str_str a t' b t
  |_=>exact absurd (show false=true from fx) jR
 |_=>exact absurd (show false=true from fy) jR
def eqU(x:V)(u:xQ):Bool:=match u with
 |.none=>eqV .non x
 |.bool b=>eqV (.bl b) x
 |.int i _=>eqV (.int i) x
 |.str z _=>eqV (.str z) x
 |_=>false
def eQ(r:RelV y u)(f:QU y=true):eqU x u=eqV y x:=by
 cases y with
 |non=>cases r;rfl
 |bl b=>cases r;rfl
 |int i=>obtain⟨t,rfl⟩:=r;rfl
 |str z=>obtain⟨t,rfl⟩:=r;rfl
 |_=>exact absurd (show false=true from f) jR
theorem Ye:∀{xs:List V}{us:xm},Vals xs us->xs.all QU=true->us.any (eqU x)=xs.any λy=>eqV y x
 |_,_,.nil,_=>rfl
 |y::xs,u::us,.cons r t,f=>by
  rw[List.all_cons,kH]at f;rw[qC,qC,eQ r f.1,Ye t f.2]
theorem Zp{A:xV}{s:xR}{x:V}{v:xQ}(rx:RelV x v)(fx:QU x=true):∀{xs:List V}{us:xm},Vals xs us->xs.all QU=true->∀u∈us,SeqAt.EqAt A s u v (eqU x u)
 |_,_,.nil,_=>λu hu=>by cases hu
 |y::xs,u::us,.cons r t,f=>λu' hu=>by
  rw[List.all_cons,kH]at f;rcases jJ.mp hu with rfl|hu
  . rw[eQ r f.1];exact vY r rx f.1 fx
  . exact Zp rx fx t f.2 u' hu
def inV(x:V)(xs:List V):Bool:=xs.any λy=>eqV y x
def rIn(K:xh)(neg:Bool):R2:=λx y H Q=>∃p xs,y=.ref p/\(SqL K H p xs\/SqT K H p xs)/\QU x=true/\xs.all QU=true/\Q (.bl (if neg then !inV x xs else inV x xs)) H
def vZ:OpR X (compareOp .In) (rIn X.K false):=by
 intro xt s σ H x y v u Q I rx ry h;obtain⟨p,xs,rfl,hq,fx,fs,q⟩:=h
 cases ry
 rcases hq with hq|hq
 . obtain⟨its,r,pl,hz⟩:=I.list hq;refine SeqAt.in_listAt (eqU x) pl.isList (λw hw=>Zp rx fx r fs w (by simpa using hw)) ⟨.bl _,H,I,rfl,?_⟩;rw[show its.toArray.any (eqU x)=its.any (eqU x) by simp,Ye r fs];exact q
 . obtain⟨its,r,pl,hz⟩:=I.tuple hq;refine SeqAt.in_tupleAt (eqU x) pl (λw hw=>Zp rx fx r fs w (by simpa using hw)) ⟨.bl _,H,I,rfl,?_⟩;rw[show its.toArray.any (eqU x)=its.any (eqU x) by simp,Ye r fs];exact q
def w4:OpR X (compareOp .NotIn) (rIn X.K true):=by
 intro xt s σ H x y v u Q I rx ry h;obtain⟨p,xs,rfl,hq,fx,fs,q⟩:=h
 cases ry
 rcases hq with hq|hq
 . obtain⟨its,r,pl,hz⟩:=I.list hq;refine SeqAt.notIn_listAt (eqU x) pl.isList (λw hw=>Zp rx fx r fs w (by simpa using hw)) ⟨.bl _,H,I,rfl,?_⟩;rw[show its.toArray.any (eqU x)=its.any (eqU x) by simp,Ye r fs];exact q
 . obtain⟨its,r,pl,hz⟩:=I.tuple hq;refine SeqAt.notIn_tupleAt (eqU x) pl (λw hw=>Zp rx fx r fs w (by simpa using hw)) ⟨.bl _,H,I,rfl,?_⟩;rw[show its.toArray.any (eqU x)=its.any (eqU x) by simp,Ye r fs];exact q
def CallR.or(h:CallR X f r)(h':CallR X f r'):CallR X f (λxs H Q=>r xs H Q\/r' xs H Q):=by
 intro xt s σ H xs us Q I rs q;rcases q with q|q
 . exact h xt s σ H xs us Q I rs q
 . exact h' xt s σ H xs us Q I rs q
def w8:CallR X (.type "list") (λxs H Q=>∃p ys,xs=[.ref p]/\(SqL X.K H p ys\/SqT X.K H p ys)/\∀l,H l=none->Q (.ref l) (upd H l (.lst ys))):=by
 intro xt s σ H xs us Q I r h;obtain⟨p,ys,rfl,hq,q⟩:=h;obtain⟨u,rfl,rx⟩:=Qc r
 cases rx
 have fin:∀(its:xm),Vals ys its->ys.length<=sizeLine->∀(h':Heap) (c':Nat),(∀b o','i' b=some o'->h'.get? b=some o') ->
  h'.get? 'g'=some { cls := .type "list",dict:=none,data := .seq its.toArray c',slots:=#[] }->EP X xt σ Q (.ref 'g') { s with heap:=h' }:=λits r' hz h' c' kp e =>
  ⟨.ref 'g',_,I.laid (t':=s.toks) kp (jE _) (show ObjOk X.prog X.w _ h' _ (.lst ys) from⟨hz,its,c',r',e⟩),rfl,q _ (I.hok.fresh (jE _))⟩
 rcases hq with hq|hq
 . obtain⟨its,r',pl,hz⟩:=I.list hq;have xx:=r'.length;obtain⟨o,ho,hc,n,hd⟩:=pl.isList;exact call_list_seq p (.inl rfl) ho hc hd (λh' c' kp e=>fin its r' hz h' c' kp e) (by simp only[jK]<;>omega)
 . obtain⟨its,r',pl,hz⟩:=I.tuple hq;have xx:=r'.length;obtain⟨o,ho,hc,n,hd⟩:=pl;exact call_list_seq p (.inr rfl) ho hc hd (λh' c' kp e=>fin its r' hz h' c' kp e) (by simp only[jK]<;>omega)
def wb:CallR X (.type "tuple") (λxs H Q=>∃p ys,xs=[.ref p]/\((SqL X.K H p ys/\∀l,H l=none->Q (.ref l) (upd H l (.tup ys)))\/(SqT X.K H p ys/\Q (.ref p) H))):=by
 intro xt s σ H xs us Q I r h;obtain⟨p,ys,rfl,h⟩:=h;obtain⟨u,rfl,rx⟩:=Qc r
 cases rx
 rcases h with ⟨hq,q⟩|⟨hq,q⟩
 . obtain⟨its,r',pl,hz⟩:=I.list hq;have xx:=r'.length;refine call_tuple_list pl.isList (λh' kp=>?_) (by simp only[jK]<;>omega);have I1:Inv X xt σ H { s with heap:=h' }:=I.kept (t':=s.toks) kp
   have I2:Inv X xt σ (upd H h'.objs.size (.tup ys)) { s with heap:=h'.push { cls := .type "tuple",data := .seq its.toArray } } :=
    I1.laid (t':=s.toks) (λb o e=>jC _ e) (jE _) (show ObjOk X.prog X.w _ _ _ (.tup ys) from⟨hz,its,r',IsTup.new _ _⟩)
   exact⟨.ref h'.objs.size,_,I2,rfl,q _ (I1.hok.fresh (jE _))⟩
 . obtain⟨its,r',pl,hz⟩:=I.tuple hq;exact call_tuple_same pl ⟨.ref p,H,I,rfl,q⟩
def tyV(K:xh)(T:String)(x:V)(H:Hp):Prop:=match x with
 |.str _=>T = "str"
 |.int _=>T = "int"
 |.ref p=>(T = "list" /\ ∃xs,SqL K H p xs)\/(T = "tuple" /\ ∃o,K.lookup p=some o/\o.cls=.type "tuple" /\ o.dict=none) \/
  (T = "dict" /\ ((∃kvs,H p=some (.dK kvs))\/∃kvs,H p=some (.dT kvs)))\/(T = "set" /\ ∃S n,H p=some (.set S n))
 |_=>False
def wc{xt:xg}{σ:St}{H:Hp}{s:xR}{T:String}{x:V}{v:xQ}(I:Inv X xt σ H s)(r:RelV x v)(ty:tyV X.K T x H) :
 s.TypeIs v T/\∀a,v=.ref a->∃ob,'i' a=some ob/\ob.dict=none:=by
 cases x with
 |str z =>
  obtain⟨t,rfl⟩:=r
  cases (show T = "str" from ty)
  exact⟨typeIs_str s z t,λ_ e=>nomatch e⟩
 |int i =>
  obtain⟨t,rfl⟩:=r
  cases (show T = "int" from ty)
  exact⟨typeIs_int s i t,λ_ e=>nomatch e⟩
 |ref p =>
  cases r
  rcases ty with ⟨rfl,xs,hq⟩|⟨rfl,o,hk,hc,hd⟩|⟨rfl,hk⟩|⟨rfl,S,n,hk⟩
  . obtain⟨its,_,pl,_⟩:=I.list hq;refine⟨pl.isList.typeIs,λa e=>?_⟩
    cases e
    obtain⟨o,n,e,c,hd,_⟩:=pl;exact⟨o,e,hd⟩
  . refine⟨⟨o,I.kIn p o hk,hc⟩,λa e=>?_⟩
    cases e
    exact⟨o,I.kIn _ o hk,hd⟩
  . have z:∃o,s.heap.get? p=some o/\o.ExactDict:=by
     rcases hk with ⟨kvs,hk⟩|⟨kvs,hk⟩
     . obtain⟨_,_,_,_,o,_,_,e,ex,_⟩:=I.hok p _ hk;exact⟨o,e,ex⟩
     . obtain⟨_,_,_,_,o,_,_,e,ex,_⟩:=I.hok p _ hk;exact⟨o,e,ex⟩
    obtain⟨o,e,ex⟩:=z;refine⟨⟨o,e,ex.1⟩,λa e2=>?_⟩
    cases e2
    exact⟨o,e,ex.2.1⟩
  . obtain⟨o,_,_,_,e,ex,_⟩:=I.hok p _ hk;refine⟨⟨o,e,ex.1⟩,λa e2=>?_⟩
    cases e2
    exact⟨o,e,ex.2.1⟩
 |_=>exact False.elim ty
def tBM(K:xh)(T:String)(r:V->List V->Hp->VK->Prop)(to:TE)(t:TA):TE:=λσ H Q=>to σ H λx H1=>tyV K T x H1/\t σ H1 λxs H2=>r x xs H2 Q
variable {o e:Expr}{es:List Expr}{to:TE}{t:TA}{name:Str}{apos cpos:Pos}{T id:String}{r:V->List V->Hp->VK->Prop}
theorem Zq(pa:PlainAttrs T)(slot:Slot T name id)(hty:typeOf (.builtin id)=pure (.type "method_descriptor"))(hm:MtR X id r)(ho:PE X o to)(ha:PA X (e::es) t)
 (xK:attributeBase o name X.env (eval o X.env)=eval o X.env:=by rfl)
 (hfew:((backTo cpos (starEach (e::es) X.env)).all (λx => !x.1)&&(backToKw cpos (keywordEach [] X.env)).all (λx=>x.1.isSome)
  && decide ((e::es).length+([]:List Keyword).length+(if ([]:List Keyword).isEmpty then 0 else 1)<30))=true:=by rfl)
 (xL:(apos.endLine==cpos.line)=true:=by rfl) (hs:starEach (e::es) X.env=(false,eval e X.env)::starEach es X.env:=by rfl) (hplain:(backTo cpos (starEach es X.env)).any (·.1)=false:=by rfl) :
 PE X (.Call (.Attribute o name apos) (e::es) [] cpos) (tBM X.K T r to t):=by
 intro xt s σ H Q I h;refine wpAny_Call_method_late xK hfew xL rfl (thn (ho xt s σ H _ I h) λv s1 pc=>?_);obtain⟨x,H1,I1,r1,ty,q1⟩:=pc;obtain⟨h1,h2⟩:=wc I1 r1 ty;refine⟨T,id,pa,slot,hty,h1,h2,?_⟩;have hA:=ha cpos xt s1 σ H1 _ I1 q1;rw[hs]at hA ⊢;refine Calls.callWith_builtin (by show(false||(backTo cpos (starEach es X.env)).any (·.1))=false;rw[hplain]<;>rfl) (Calls.evalArgs_plain ?_);exact thn hA λus s2 ⟨vs,H2,I2,r2,q2⟩=>hm xt s2 σ H2 x vs v us Q I2 r1 r2 q2
end
def MtM(X:Cx)(id:String)(r:V->List V->Hp->VK->Prop):Prop :=
 ∀(xt:xg) (s:xR) (σ:St) (H:Hp) (x:V) (xs:List V) (v:xQ) (us:xm) (Q:VK),Inv X xt σ H s->RelV x v->Vals xs us->r x xs H Q ->
  wpAny (model X.prog X.w) X.A (call (.builtin id) (v::us)) (EP X xt σ Q) X.xe s
theorem Vals.one:∀{x:V}{us:xm},Vals [x] us->∃u,us=[u]/\RelV x u
 |_,_,.cons r .nil=>⟨_,rfl,r⟩
section
variable {X:Cx}{xt:xg}{σ:St}{H:Hp}{s:xR}{l b:xS}{xs ys zs:List V}
def Inv.lset{its its':xm}{n:Nat}{f:xk->xk}{t':Nat}(I:Inv X xt σ H s)(hH:H l=some (.lst xs))
 (e:'i' l=some { cls := .type "list",data := .seq its.toArray n }) (hf:f its.toArray=its'.toArray) (hv:Vals ys its') (hz:ys.length<=sizeLine) :
 Inv X xt σ (upd H l (.lst ys)) { s with heap:=s.heap.update l (Obj.mapSeq f),toks:=t' }:=by
 have q:=PySem.IsL.update e f;rw[hf]at q;refine I.write (x:=l) (e:=l) (by rw[hH];exact trivial) (.inl rfl) (λb' u hb hu=>(jc s.heap (Obj.mapSeq f) (Ne.symm hb)).trans hu) ⟨_,q⟩ ?_;exact⟨hz,its',_,hv,q⟩
def Inv.lnew(I:Inv X xt σ H s)(hv:Vals ys its)(hz:ys.length<=sizeLine) :
 Inv X xt σ (upd H 'g' (.lst ys)) { s with heap:=s.heap.push { cls := .type "list",data := .seq its.toArray },toks:=t' } :=
 I.laid (λ_ _ q=>jC _ q) (jE _) ⟨hz,its,0,hv,jH _ rfl⟩
theorem Inv.fresh(I:Inv X xt σ H s):H 'g'=none:=I.hok.fresh (jE _)
def Inv.lstM(I:Inv X xt σ H s)(hH:H l=some (.lst xs)):'h'<=sizeLine/\∃(its:xm) (n:Nat),Vals xs its/\'h'=its.length/\'i' l=some { cls := .type "list",data := .seq its.toArray n }:=by
 obtain⟨z,its,n,r,e⟩:=I.hok l _ hH;exact⟨z,its,n,r,r.length,e⟩
def wd(h:n<=sizeLine):Builtin.List.listTooLong n=false:=by
 unfold Builtin.List.listTooLong;exact qj 'c'
end
section
variable {X:Cx}
def we:V->List V->Hp->VK->Prop:=λx vs H Q=>∃l xs y,x=.ref l/\vs=[y]/\H l=some (.lst xs)/\'h'<sizeLine/\Q .non (upd H l (.lst (xs++[y])))
def Zr:MtM X "list.append" we:=by
 intro xt s σ H x vs v us Q I rx rv h;obtain⟨l,xs,y,rfl,rfl,hH,hz,q⟩:=h
 cases rx
 obtain⟨u,rfl,ru⟩:=rv.one;obtain⟨z,its,n,r,hl,e⟩:=I.lstM hH;refine call_meets F.slot_list_append ⟨_,e,rfl⟩ F.entry_list_append (F.args_list_append_2 _ _) (PySem.list_append l its.toArray n u (by rw[jK];omega)) ⟨e,?_⟩;refine⟨.non,_,I.lset (its':=its++[u]) hH e 'f' (r.append (.cons ru .nil)) ?_,rfl,q⟩;rw[jU,List.length_singleton];omega
def wf:R2:=λx y H Q=>∃l b xs zs,x=.ref l/\y=.ref b/\H l=some (.lst xs)/\H b=some (.lst zs)/\'h'+zs.length<=sizeLine/\∀p,H p=none->Q (.ref p) (upd H p (.lst (xs++zs)))
def JI:OpR X (binaryOp .Add) wf:=by
 intro xt s σ H x y v u Q I rx ry h;obtain⟨l,b,xs,zs,rfl,rfl,hH,hB,hz,q⟩:=h
 cases rx
 cases ry
 obtain⟨z,its,n,r,hl,e⟩:=I.lstM hH;obtain⟨z2,its2,n2,r2,hl2,e2⟩:=I.lstM hB;refine PySem.P.add_list e e2 ?_ (by rw[jK,jK];omega);have ea:its.toArray++its2.toArray=(its++its2).toArray:=by simp
 rw[ea];exact⟨.ref _,_,I.lnew (t':=s.toks) (r.append r2) (by rw[jU];omega),rfl,q _ I.fresh⟩
end
end L2
namespace Att
open PySem PySem.W PySem.Calls PyProof.Rows
def wg:∀(ns:xr) (vs:xm),WellAll P h vs (ns.map WData.int)->IntsAre vs ns:=by
 intro ns
 induction ns with
 |nil =>
  intro vs w;rw[List.map_nil]at w
  cases w
  exact .nil
 |cons n ns ih =>
  intro vs w;rw[jM]at w
  cases w with
  |cons a b =>
   cases a
   exact .cons _ _ (ih _ b)
def wj{l:OpenLaw}{n:Nat}(hn:l.most=some n){P:Params}{args:List WData}{vals:xm}
 (hpre:l.row.toRowW.claim.pre args=true) (hwl:WellAll P h vals args) :
 ∃a vs ns,vals=[Value.ref a]/\args=[WData.list (ns.map WData.int)]/\h.get? a=some { cls := .type "list",data := .seq vs.toArray }/\IntsAre vs ns/\ns.length<=n:=by
 have hsh:WShape.hasAll [] args [.list .int]=true:=(pre_splitW hpre).1;have hc:l.pre.holds [] { args:=args }=true:=(pre_splitW hpre).2;obtain⟨d,r,rfl,h1,h2⟩:=hasAllW_cons hsh;obtain rfl:=hasAllW_nil h2;obtain⟨xs,rfl,h3⟩:=hasW_list h1;obtain⟨ns,rfl⟩:=items_int h3
 have xx:ns.length<=n:=by
  unfold OpenLaw.pre at hc
  have h4:(WTm.not (.lt (.lit (.int (n:Int))) (.len (.arg 0)))).holds [] { args:=[.list (ns.map .int)] }=true:=by
   have h4:=(holds_andW hc).1;rw[hn]at h4;exact h4
  have h5:=condW_of h4 (w_not (w_lt w_lit (w_len_list (w_arg rfl))));rw[jA]at h5;refine Nat.le_of_not_lt λq=>?_;have q':(n:Int)<((ns.length:Nat):Int):=by omega
  first
   |(rw[qi q']at h5;exact absurd h5 'd')
   |(simp at h5;omega)
 cases hwl with
 |cons w1 w2 =>
  cases w2
  cases w1 with
  |list ho hall=>exact⟨_,_,ns,rfl,rfl,ho,wg ns _ hall,xx⟩
def wm(l:OpenLaw)(args:List WData):l.row.toRowW.claim.post args (.bool true) args=true :=
 postW_of (r:=l.row.toRowW) (X:=(true==true))
  (show WShape.has [] (.bool true) .bool=true by first|rfl|decide|simp[WShape.has,WShape.arms,WShape.armsAll])
  (show(WTm.eq .res (.lit (.bool true))).value [] { args:=args,res:=some (.bool true),after:=args }=some (.bool (true==true)) from w_eq_bool (w_res rfl) w_lit) rfl
def attach_call{l:OpenLaw}{n:Nat}{loose:xp}{XP:(xf)->Heap->Prop}{YP:xU->Heap->Prop}{d:DefRec}
 (hn:l.most=some n) (hdf:d.params.defaults=[])
 (call:∀(w:xU) (s₀ s₁:xR) (mg mb:xf) (fa:xS) (o:Obj) (pm cd xI:xQ) (a:xS) (vs:xm) (ns:xr),
  Ground q loose [] XP w s₀ mg mb s₁.heap->YP w s₁.heap ->
  s₁.heap.get? fa=some o->o.data=.func (docDef d.name d.params d.body d.scope pm cd xI)->s₁.heap.CodeRec cd d.name->mg d.name=some (.ref fa) ->
  s₁.heap.get? a=some { cls := .type "list",data := .seq vs.toArray }->IntsAre vs ns->ns.length<=n->s₁.gens=#[] ->
  codeAny (model l.prog w) callerA (.call (.ref fa) ⟨[.ref a],[]⟩) (λr s'=>r=.ok (.ret (.bool true))/\OldK s₁.heap s'.heap/\s'.os=s₁.os/\AllBare s'.gens) s₁) :
 WalkO q loose XP YP l.row.toRowW d [] (λf vs=>PySem.call f vs):=by
 intro w s₀ s₁ mg mb G Y fa o pm cd xI dV kV ho hd hcd hD hmg hg args vals as hpre hlay hrd hwl hlo;obtain rfl:dV=.none:=Dflts.none hD hdf;obtain rfl:kV=.none:=Dflts.noKw hD;obtain⟨a,vs,ns,rfl,rfl,hobj,hints,xx⟩:=wj hn hpre hwl;refine enter_call (codeAny_mono (call w s₀ s₁ mg mb fa o pm cd xI a vs ns G Y ho (fd_plain hd) hcd hmg hobj hints xx hg) λr s' hq=>?_);obtain⟨rfl,h2,h3,h4⟩:=hq;exact⟨.inl ⟨.bool true,.bool true,[],rfl,λ_=>rfl,.bool true,wm l _,λ_=>⟨List.Pairwise.nil,λ_ hm=>(nomatch hm)⟩⟩,h2,h3,h4⟩
end Att
namespace L2
open PySem PySem.Spec PyProof.Rows
theorem mF:∀{vs:xm}{ns:xr},IntsAre vs ns->Vals (ns.map V.int) vs
 |_,_,.nil => .nil
 |_,_,.cons n t h => .cons ⟨t,rfl⟩ (mF h)
def eR(H:Hp):Prop:=∀b,H b=none\/∃o xs,H b=some (.frz o (.lst xs))
def wo{P:xT}{w:xU}{K:xh}{mg mb:xf}{CX:CXT}{k:Nat}{fa a:xS}{fd:FuncData}{x:Str}{sp:Sp}{s₁:xR}{vs:xm}{ns:xr}
 (KX:K.In s₁.heap) (hns:s₁.heap.Ns mainGlobals mg) (hb:s₁.heap.Ns builtinsNs mb) (hbb:∀x:Str,x ≠ "__name__" -> mb x=bootBuiltins x) (hlim:s₁.heap.NoLimit) (hg:s₁.gens=#[])
 (ha:s₁.heap.get? a=some { cls := .type "list",data := .seq vs.toArray }) (hi:IntsAre vs ns) (hl:ns.length<=sizeLine) (hr:Room k callerA)
 (F:∀base:Heap,K.In base->base.Ns mainGlobals mg->FnOk P w K mg base CX k fa fd [x] sp) (hbind:∀(s:xR) (u:xQ),BindsTo s fd ⟨[u],[]⟩ [(x,u)])
 (hsp:∀H:Hp,eR H->SqL K H a (ns.map V.int)->sp [.ref a] H (λv _=>v=.bl true) λ_ _ _=>False)
 (hCX:∀H e s',CX [] H s₁ (λ_ _ _=>False) e s'->False) :
 codeAny (model P w) callerA (.call (.ref fa) ⟨[.ref a],[]⟩) (λr s'=>r=.ok (.ret (.bool true))/\OldK s₁.heap s'.heap/\s'.os=s₁.os/\AllBare s'.gens) s₁:=by
 have rv:=mF hi;have lenV:=hi.length
 -- from an abstract heap in which nothing but the script may be tracked
 have core:∀H:Hp,eR H->SqL K H a (ns.map V.int)->HOk P w H s₁.heap->(∀b,H b≠none->b=a)->(H a≠none->K.lookup a=none) ->
  codeAny (model P w) callerA (.call (.ref fa) ⟨[.ref a],[]⟩) (λr s'=>r=.ok (.ret (.bool true))/\OldK s₁.heap s'.heap/\s'.os=s₁.os/\AllBare s'.gens) s₁:=by
  intro H hO hS hok hA hK;have base_of:∀{b:xS}{o:Obj},s₁.heap.get? b=some o->H b=none->(X9 s₁.heap H).get? b=some o:=λe n=>uF e n
  have noA:∀{b:xS}{o:Obj}{es:Array DictEntry}{ep:Nat},s₁.heap.get? b=some o->o.data=.dict es ep->H b=none:=fun {b o es ep} e d=>by
   cases q:H b with
   |none=>rfl
   |some u =>
    have e':b=a:=hA b (by rw[q];simp);subst e';rw[ha]at e;cases e;have d':Data.seq vs.toArray _=Data.dict es ep:=d
    cases d'
  have nsK:∀{b:xS}{m:xf},s₁.heap.Ns b m->(X9 s₁.heap H).Ns b m:=fun {b m} ⟨o,es,ep,e,d,r⟩=>⟨o,es,ep,base_of e (noA e d),d,r⟩
  have hKb:K.In (X9 s₁.heap H):=λb o e=>base_of (KX b o e) (by
   cases q:H b with
   |none=>rfl
   |some u =>
    have e':b=a:=hA b (by rw[q];simp);subst e';rw[hK (by rw[q];simp)]at e;cases e)
  have hM:Mod K mg (X9 s₁.heap H):=⟨hKb,nsK hns,⟨mb,nsK hb,hbb⟩,let ⟨mc,h1,h2⟩:=hlim;⟨mc,nsK h1,h2⟩⟩;have e0:Env0 P w K mg (X9 s₁.heap H) callerA [] s₁ H:=⟨rfl,hM,λb o e=>uG e,Nat.le_of_eq (uE _ _),trivial,λb hb=>absurd (show b∈([]:List xS) from hb) 'f',hok,.of_eq hg⟩;refine codeAny_mono ((F _ hKb (nsK hns)).run callerA [] s₁ H ⟨[.ref a],[]⟩ [.ref a] [.ref a] _ _ hr e0 (hbind s₁ (.ref a)) (.cons rfl .nil) (hsp H hO hS)) λr s' h=>?_
  cases r with
  |error e=>exact(hCX H e s' h).elim
  |ok fl =>
   cases fl with
   |next=>exact False.elim h
   |brk=>exact False.elim h
   |cont=>exact False.elim h
   |ret u =>
    obtain⟨v,H',os,bare,un,hok',r',q⟩:=h;have q':v=.bl true:=q;subst q';obtain rfl:u=Value.bool true:=r';refine⟨rfl,OldK.of_keep λb o e=>?_,os,bare⟩
    cases q:H b with
    |none=>exact un.keep b o e q (by intro z;exact absurd (show b∈([]:List xS) from z) 'f') 'f'
    |some u =>
     rcases hO b with z|⟨ob,xs,z⟩
     . rw[q]at z;cases z
     . have z2:=un.frzs b ob _ z;obtain⟨e1,_⟩:=hok b _ z;obtain⟨e2,_⟩:=hok' b _ z2;rw[e]at e1;cases e1;exact e2
 cases hk:K.lookup a with
 |some o =>
  -- the script is one of the module's own objects
  have e:=KX a o hk;rw[ha]at e
  cases e
  refine core (λ_=>none) (λ_ => .inl rfl) (.inr ⟨_,vs.toArray,_,hk,rfl,rfl,rfl,by rw[jK,lenV];exact hl,by simpa using rv⟩) (λb u z=>by have z':(none:Option HO)=some u:=z;cases z') (λb z=>absurd rfl z) λz=>absurd rfl z
 |none =>
  refine core (λb=>if b=a then some (.frz { cls := .type "list",data := .seq vs.toArray } (.lst (ns.map V.int))) else none) (λb=>?_) (.inl (.inr ⟨{ cls := .type "list",data := .seq vs.toArray },qh rfl⟩)) (λb u z=>?_) (λb z=>?_) λ_=>hk
  . by_cases hb:b=a
    . exact .inr ⟨_,_,qh hb⟩
    . exact .inl (qg hb)
  . by_cases hb:b=a
    . have z':=(qh hb).symm.trans z
      cases z'
      subst hb;exact⟨ha,by rw[jA];exact hl,vs,_,rv,ha⟩
    . have z':=(qg hb).symm.trans z
      cases z'
  . by_cases hb:b=a
    . exact hb
    . exact absurd (qg hb) z
def wq{l:PySem.W.OpenLaw}{n k:Nat}{loose:xp}{XP:(xf)->Heap->Prop}{YP:xU->Heap->Prop}{d:DefRec}{K:Params->xh}{CX:xU->CXT}{sp:xU->Sp}{x:Str}
 (hn:l.most=some n) (hn2:n<=sizeLine) (hdf:d.params.defaults=[]) (hr:Room k callerA)
 (hY:∀(w:xU) (h:Heap),YP w h->(K w.params).In h)
 (F:∀(w:xU) (mg:xf) (fa:xS) (h:Heap),(K w.params).In h->h.Ns mainGlobals mg->mg d.name=some (.ref fa) ->
  ∃fd:FuncData,(∀(s:xR) (u:xQ),BindsTo s fd ⟨[u],[]⟩ [(x,u)]) /\
   ∀base:Heap,(K w.params).In base->base.Ns mainGlobals mg->FnOk l.prog w (K w.params) mg base (CX w) k fa fd [x] (sp w))
 (hsp:∀(w:xU) (H:Hp) (a:xS) (ns:xr),ns.length<=n->eR H->SqL (K w.params) H a (ns.map V.int)->sp w [.ref a] H (λv _=>v=.bl true) λ_ _ _=>False)
 (hCX:∀(w:xU) (H:Hp) (s:xR) (e:xQ) (s':xR),CX w [] H s (λ_ _ _=>False) e s'->False) :
 PySem.W.WalkO q loose XP YP l.row.toRowW d [] (λf vs=>PySem.call f vs):=by
 refine Att.attach_call hn hdf λw s₀ s₁ mg mb fa o pm cd xI a vs ns G Y ho hd hcd hmg hobj hints xx hg=>?_;have KX:=hY w _ Y;obtain⟨fd,hb,hF⟩:=F w mg fa _ KX G.T.g hmg;exact wo KX G.T.g G.T.b G.T.builtins G.T.nolimit hg hobj hints (jg xx hn2) hr hF hb (λH hO hS=>hsp w H a ns xx hO hS) λH e s'=>hCX w H s₁ e s'
def defArgs(s:Stmt):Arguments:=match s with
 |.FunctionDef _ a _ _ _ _ _ _ _ _=>a
 |_=>{ posonlyargs:=[],args:=[],vararg:=none,kwonlyargs:=[],kw_defaults:=[],kwarg:=none,defaults:=[] }
def defBody(s:Stmt):List Stmt:=match s with
 |.FunctionDef _ _ b _ _ _ _ _ _ _=>b
 |_=>[]
def defScope(s:Stmt):Scope:=match s with
 |.FunctionDef _ _ _ _ _ _ sc _ _ _=>sc
 |_=>{ kind := .function,names:=[],isGenerator:=false,isCoroutine:=false }
abbrev CX0:CXT:=λ_ _ _ _ _ _=>False
abbrev E0:XK:=λ_ _ _=>False
def wr:QC CX0 X E0:=λ_ _ _ _ _ _ _ h=>h.elim
structure Fun (K:xh) (x qual:Str) (st:Stmt) (f:xS) (fd:FuncData):Prop where
 ex:∃(oc:xQ) (od:Option xS) (kV xI pm:xQ) (an:Option xS) (xu ct:xQ) (osl:Array (xj)),
  fd=PySem.W.fnOf x qual (defArgs st) (defBody st) (defScope st) .none kV xI pm an xu ct/\K.lookup f=some ⟨oc,od,.func fd,osl⟩/\PySem.W.codeIn K xu qual=true
 kp:PySem.W.keepIn K (.ref f)=true
section
variable {P:xT}{w:xU}{K:xh}{mg:xf}{base:Heap}
def Fun.ok{x qual:Str}{st:Stmt}{f:xS}{fd:FuncData}{N ps:xp}{k:Nat}{sp:Sp}(F:Fun K x qual st f fd)(S:FnScope N ps (defScope st))(len:∀vs H Q E,sp vs H Q E->vs.length=ps.length)
 (xB:∀(xu:xQ) (A:xV) (outer:List Env) (s:xR) (H:Hp) (vs:List V) (Q:VK) (E:XK),Room k (A.deeper (envOfC qual (defScope st) 'g' f xu))->sp vs H Q E ->
  ∃t,PSs (QD CX0 P w K mg base N qual (defScope st) f xu A outer s H E).nox (defBody st) t/\t { nx:=λ_ H'=>Q .non H',rt:=Q } (JD N vs) H):FnOk P w K mg base CX0 (k+1) f fd ps sp:=by
 obtain⟨oc,od,kV,xI,pm,an,xu,ct,osl,rfl,lk,hcd⟩:=F.ex;refine au lk hcd S len λA outer s H vs Q E hr hsp=>?_;obtain⟨t,h,q⟩:=xB xu A outer s H vs Q E hr hsp;exact⟨t,h.nox,q⟩
def Fun.binds{x qual:Str}{st:Stmt}{f:xS}{fd:FuncData}{ps:xp}(F:Fun K x qual st f fd)
 (h:∀(kV xI pm:xQ) (an:Option xS) (xu ct:xQ) (us:xm),us.length=ps.length->bindArgs (PySem.W.fnOf x qual (defArgs st) (defBody st) (defScope st) .none kV xI pm an xu ct) ⟨us,[]⟩=pure (ps.zip us)):Binds K fd ps []:=by
 obtain⟨oc,od,kV,xI,pm,an,xu,ct,osl,rfl,lk,hcd⟩:=F.ex;exact .all (h kV xI pm an xu ct)
def av{x qual:Str}{st:Stmt}{f:xS}{oc:xQ}{od an:Option xS}{osl:Array (xj)}{kV xI pm xu ct:xQ}(l:K.lookup f=some ⟨oc,od,.func (PySem.W.fnOf x qual (defArgs st) (defBody st) (defScope st) .none kV xI pm an xu ct),osl⟩)
 (c:PySem.W.codeIn K xu qual=true) (k:PySem.W.keepIn K (.ref f)=true):Fun K x qual st f (PySem.W.fnOf x qual (defArgs st) (defBody st) (defScope st) .none kV xI pm an xu ct):=⟨⟨oc,od,kV,xI,pm,an,xu,ct,osl,rfl,l,c⟩,k⟩
end
def QV(hr:Room k A):A.units+1<cLine:=jd (Nat.add_le_add_left (by decide:1<=64) _) hr.units
def XX(h:n<=1000):n<sizeLine:=jd h 'd'
section
variable {X:Cx}
def pv(i:Nat){x:Str}{pos:Pos}(hN:X.N[i]?=some x:=by rfl)(hv:Vis X.env.scope x:=by first|exact Or.inl rfl|exact Or.inr (Or.inl rfl)|exact Or.inr (Or.inr rfl))(hd:(x==("__debug__" : Str))=false:=by decide)
 (hcd:(x==("__classdict__" : Str))=false:=by decide):PE X (.Name x pos) (lB i):=uH hN hv hd hcd
end
def Xc{A B:Prop}(h:B):if false=true then A else B:=by
 rw[qg jR];exact h
def Xv{A B:Prop}(h:A):if true=true then A else B:=by
 rw[qh rfl];exact h
def Same(H H':Hp):Prop:=∀b o,H b=some o->H' b=some o
def Same.refl(H:Hp):Same H H:=λ_ _ h=>h
def Same.trans(a:Same H H1)(b:Same H1 H2):Same H H2:=λc o h=>b c o (a c o h)
def Same.free(e:Same H H')(h:H' l=Option.none):H l=Option.none:=by
 cases q:H l with
 |none=>rfl
 |some o =>
  rw[e l o q]at h
  cases h
def Same.seq{K:xh}{H H':Hp}{a:xS}{xs:List V}(e:Same H H')(h:SqL K H a xs):SqL K H' a xs:=by
 rcases h with (h|⟨o,h⟩)|h
 . exact .inl (.inl (e _ _ h))
 . exact .inl (.inr ⟨o,e _ _ h⟩)
 . exact .inr h
section
variable {κ:Type} [DecidableEq κ]
def Jr(kvs:List (κ×V))(k:κ):Option V:=(kvs.find? λkv=>decide (kv.1=k)).map (·.2)
def Jf(kvs:List (κ×V))(k:κ)(v:V):List (κ×V) :=
 if (kvs.any λkv=>decide (kv.1=k))=true then kvs.map (λkv=>if kv.1=k then(kv.1,v) else kv) else kvs++[(k,v)]
def Qt{p:κ×V}{r:List (κ×V)}{k:κ}(e:p.1=k):Jr (p::r) k=some p.2:=by simp[Jr,jv,e]
def Qu{p:κ×V}{r:List (κ×V)}{k:κ}(e:¬p.1=k):Jr (p::r) k=Jr r k:=by simp[Jr,jv,e]
theorem aw(k:κ):∀kvs:List (κ×V),(kvs.any λkv=>decide (kv.1=k))=(Jr kvs k).isSome
 | []=>rfl
 |p::r=>by
  rw[qC]
  by_cases e:p.1=k
  . simp only[Qt e,qi e,Bool.true_or,Option.isSome_some]
  . rw[Qu e,qj e,Bool.false_or];exact aw k r
theorem mG(k j:κ)(y:V):∀kvs:List (κ×V),Jr (kvs.map λkv=>if kv.1=k then(kv.1,y) else kv) j=(Jr kvs j).map λx=>if j=k then y else x
 | []=>rfl
 |p::r=>by
  have ih:=mG k j y r;rw[jM]
  by_cases h:p.1=k
  . rw[qh h]
    by_cases e:p.1=j
    . rw[Qt (p:=(p.1,y)) e,Qt e,Option.map_some,qh (e.symm.trans h)]
    . rw[Qu (p:=(p.1,y)) e,Qu e,ih]
  . rw[qg h]
    by_cases e:p.1=j
    . rw[Qt (p:=p) e,Qt e,Option.map_some,qg (λz=>h (e.trans z))]
    . rw[Qu (p:=p) e,Qu e,ih]
theorem mH(k j:κ)(y:V):∀kvs:List (κ×V),Jr kvs k=none->Jr (kvs++[(k,y)]) j=if j=k then some y else Jr kvs j
 | [],_=>by
  by_cases e:k=j
  . rw[qh e.symm];exact Qt (p:=(k,y)) e
  . rw[qg (λz=>e z.symm)];exact Qu (p:=(k,y)) e
 |p::r,hn=>by
  rw[kL];have hk:¬p.1=k:=λz=>by rw[Qt z]at hn;cases hn
  rw[Qu hk]at hn;have ih:=mH k j y r hn
  by_cases e:p.1=j
  . rw[Qt e,Qt e,qg (λz=>hk (e.trans z))]
  . rw[Qu e,Qu e,ih]
def mI(kvs:List (κ×V))(k j:κ)(y:V):Jr (Jf kvs k y) j=if j=k then some y else Jr kvs j:=by
 unfold Jf
 by_cases a:(kvs.any λkv=>decide (kv.1=k))=true
 . rw[qh a,mG];rw[aw]at a
   by_cases e:j=k
   . obtain⟨x,hx⟩:=jt.mp a;rw[qh e,e,hx,Option.map_some,qh rfl]
   . rw[qg e]
     cases Jr kvs j with
     |none=>rfl
     |some x=>rw[Option.map_some,qg e]
 . rw[qg a];refine mH k j y kvs ?_;rw[aw]at a
   cases q:Jr kvs k with
   |none=>rfl
   |some x=>rw[q]at a;exact(a rfl).elim
def eT(kvs:List (κ×V))(k:κ)(v:V):(Jf kvs k v).length<=kvs.length+1:=by
 unfold Jf;split
 . rw[jA];omega
 . rw[jU,jV,kF];omega
def RelO.isSome_eq(r:RelO o u):o.isSome=u.isSome:=by
 cases o with
 |none=>cases u with
  |none=>rfl
  |some _=>exact(show False from r).elim
 |some _=>cases u with
  |none=>exact(show False from r).elim
  |some _=>rfl
def KV.val(r:KV kvs vs)(k:κ):RelO (Jr kvs k) (valueAt vs k):=by
 unfold KV at r
 induction r with
 |nil=>exact True.intro
 | @cons p q ps qs h t ih =>
  obtain⟨h1,h2⟩:=h
  by_cases e:p.1=k
  . have e':q.1=k:=h1.symm.trans e;have b:valueAt (q :: qs) k=some q.2:=by simp[valueAt,jv,e']
    rw[Qt e,b];exact h2
  . have e':¬q.1=k:=λz=>e (h1.trans z);have b:valueAt (q :: qs) k=valueAt qs k:=by simp[valueAt,jv,e']
    rw[Qu e,b];exact ih
theorem KV.any(r:KV kvs vs)(k:κ):(kvs.any λkv=>decide (kv.1=k))=vs.any λkv=>decide (kv.1=k):=by
 unfold KV at r
 induction r with
 |nil=>rfl
 |cons h t ih=>rw[qC,qC,ih,h.1]
def KV.repl(r:KV kvs vs)(k:κ)(ry:RelV y u) :
 KV (kvs.map λkv=>if kv.1=k then(kv.1,y) else kv) (vs.map λkv=>if kv.1=k then(kv.1,u) else kv):=by
 unfold KV at r ⊢
 induction r with
 |nil=>exact .nil
 | @cons p q ps qs h t ih =>
  rw[jM,jM];refine .cons ?_ ih;obtain⟨h1,h2⟩:=h
  by_cases e:p.1=k
  . rw[qh e,qh (h1.symm.trans e)];exact⟨h1,ry⟩
  . rw[qg e,qg (λz=>e (h1.trans z))];exact⟨h1,h2⟩
def KV.put(r:KV kvs vs)(k:κ)(ry:RelV y u):KV (Jf kvs k y) (stored vs k u):=by
 unfold Jf stored;rw[r.any k]
 by_cases e:(vs.any λkv=>decide (kv.1=k))=true
 . rw[qh e,qh e];exact r.repl k ry
 . rw[qg e,qg e];exact Paired.snoc r ⟨rfl,ry⟩
theorem KV.length{kvs:List (κ×V)}{vs:List (κ×xQ)}(r:KV kvs vs):kvs.length=vs.length:=Paired.length r
end
def Zs(r:RelV (kV k) u):(Jl P w).is k u=true:=by
 cases k with
 |inl i=>obtain⟨t,e⟩:=(show ∃t,u=Value.int i t from r);subst e;exact uC P w i t
 |inr x=>obtain⟨t,e⟩:=(show ∃t,u=Value.str x t from r);subst e;exact uD P w x t
theorem mJ:∀{ks:List Key}{us:xm},Vals (ks.map kV) us->ItemsAre (Jl P w) ks us
 | [],_,r=>by rw[List.map_nil]at r;cases r;exact .nil
 |k::ks,_,r=>by
  rw[jM]at r
  cases r with
  |cons h t=>exact .cons (Zs h) (mJ t)
abbrev KT(H:Hp):List (List Key×V)->List (List Key×xS×xQ)->Prop:=Paired λp q=>p.1=q.1/\H q.2.1=some (.tup (p.1.map kV))/\RelV p.2 q.2.2
def KT.val(r:KT H kvs xs)(k:List Key):RelO (Jr kvs k) ((atKey xs k).map (·.2)):=by
 induction r with
 |nil=>exact True.intro
 | @cons p q ps qs h t ih =>
  obtain⟨h1,_,h2⟩:=h
  by_cases e:p.1=k
  . have e':q.1=k:=h1.symm.trans e;have b:atKey (q :: qs) k=some q.2:=by simp[atKey,jv,e']
    rw[Qt e,b];exact h2
  . have e':¬q.1=k:=λz=>e (h1.trans z);have b:atKey (q :: qs) k=atKey qs k:=by simp[atKey,jv,e']
    rw[Qu e,b];exact ih
def KT.repl(r:KT H kvs xs)(k:List Key)(ry:RelV y u) :
 KT H (kvs.map λkv=>if kv.1=k then(kv.1,y) else kv) (xs.map (putAt k u)):=by
 induction r with
 |nil=>exact .nil
 | @cons p q ps qs h t ih =>
  rw[jM,jM];refine .cons ?_ ih;obtain⟨h1,h2,h3⟩:=h;unfold putAt
  by_cases e:p.1=k
  . rw[qh e,qh (h1.symm.trans e)];exact⟨h1,h2,ry⟩
  . rw[qg e,qg (λz=>e (h1.trans z))];exact⟨h1,h2,h3⟩
def KT.put(r:KT H kvs xs)(k:List Key)(hb:H b=some (.tup (k.map kV)))(ry:RelV y u) :
 KT H (Jf kvs k y) (storedH xs k b u):=by
 have e:(kvs.any λkv=>decide (kv.1=k))=(atKey xs k).isSome:=by
  rw[aw,(r.val k).isSome_eq,Option.isSome_map]
 unfold Jf storedH;rw[e]
 by_cases q:(atKey xs k).isSome=true
 . rw[qh q,qh q];exact r.repl k ry
 . rw[qg q,qg q];exact Paired.snoc r ⟨rfl,hb,ry⟩
def KT.keeps(r:KT H kvs xs)(ht:∀b ys,H b=some (.tup ys)->H' b=some (.tup ys)):KT H' kvs xs :=
 Paired.mapP r λ_ _ z=>⟨z.1,ht _ _ z.2.1,z.2.2⟩
section
variable {P:xT}{w:xU}{H:Hp}{h:Heap}{a:xS}
def mK(ok:HOk P w H h)(e:Rd H a u):ObjOk P w H h a u:=e.ok ok
def Yg(ok:HOk P w H h)(e:Rd H a (.dK kvs)):kvs.length<=sizeLine/\(a==sysModules)=false/\∃vs,KV kvs vs/\h.DictOf (Jl P w) a vs :=
 show ObjOk P w H h a (.dK kvs) from mK ok e
def ax(ok:HOk P w H h)(e:H a=some (.dK kvs)):kvs.length<=sizeLine/\(a==sysModules)=false/\∃vs,KV kvs vs/\h.DictOf (Jl P w) a vs:=Yg ok (.inl e)
def Zt(ok:HOk P w H h)(e:H a=some (.tup (ks.map kV))):(tupleKind (Jl P w)).is h ks a:=by
 obtain⟨_,its,r,o,h1,h2,n,h3⟩:=(show ObjOk P w H h a (.tup (ks.map kV)) from ok a _ e);exact⟨o,its.toArray,n,h1,h2,h3,by simpa using mJ r⟩
def Yh(ok:HOk P w H h)(e:Rd H a (.dT kvs)):kvs.length<=sizeLine/\(a==sysModules)=false /\
 ∃xs,KT H kvs xs/\h.DictOfH (tupleKind (Jl P w)) a xs:=by
 obtain⟨z,y,xs,r,o,es,ep,h1,h2,h3,h4,h5⟩:=(show ObjOk P w H h a (.dT kvs) from mK ok e);refine⟨z,y,xs,r,o,es,ep,h1,h2,h3,h4,λx hx=>?_,h5⟩
 have all:∀{l:List (List Key×V)}{m:List (List Key×xS×xQ)},KT H l m->∀x∈m,(tupleKind (Jl P w)).is h x.1 x.2.1:=by
  intro l m q
  induction q with
  |nil=>intro x hx;exact nomatch hx
  | @cons p q ps qs hq t ih =>
   intro x hx;rcases jJ.mp hx with e|hx
   . subst e;exact Zt ok (by rw[<- hq.1];exact hq.2.1)
   . exact ih x hx
 exact all r x hx
def mL(ok:HOk P w H h)(e:H a=some (.dT kvs)):kvs.length<=sizeLine/\(a==sysModules)=false /\
 ∃xs,KT H kvs xs/\h.DictOfH (tupleKind (Jl P w)) a xs:=Yh ok (.inl e)
end
def DGet(H:Hp)(a:xS)(y:V)(r:Option V):Prop :=
 (∃kvs k,Rd H a (.dK kvs)/\y=kV k/\r=Jr kvs k)\/∃kvs k b,Rd H a (.dT kvs)/\y=.ref b/\H b=some (.tup (k.map kV))/\r=Jr kvs k
def DPut(H:Hp)(a:xS)(y v:V)(H':Hp):Prop :=
 (∃kvs k,H a=some (.dK kvs)/\y=kV k/\kvs.length<sizeLine/\H'=upd H a (.dK (Jf kvs k v))) \/
 ∃kvs k b,H a=some (.dT kvs)/\y=.ref b/\H b=some (.tup (k.map kV))/\kvs.length<sizeLine/\H'=upd H a (.dT (Jf kvs k v))
theorem DGet.k{kvs:List (Key×V)}{k:Key}(e:H a=some (.dK kvs)):DGet H a (kV k) (Jr kvs k) := .inl ⟨kvs,k,.inl e,rfl,rfl⟩
def DGet.t{kvs:List (List Key×V)}{k:List Key}(e:H a=some (.dT kvs))(eb:H b=some (.tup (k.map kV))):DGet H a (.ref b) (Jr kvs k) := .inr ⟨kvs,k,b,.inl e,rfl,eb,rfl⟩
theorem DPut.k{kvs:List (Key×V)}{k:Key}{v:V}(e:H a=some (.dK kvs))(hl:kvs.length<sizeLine):DPut H a (kV k) v (upd H a (.dK (Jf kvs k v))) := .inl ⟨kvs,k,e,rfl,hl,rfl⟩
def DPut.t{kvs:List (List Key×V)}{k:List Key}{v:V}(e:H a=some (.dT kvs))(eb:H b=some (.tup (k.map kV)))(hl:kvs.length<sizeLine) :
 DPut H a (.ref b) v (upd H a (.dT (Jf kvs k v))) := .inr ⟨kvs,k,b,e,rfl,eb,hl,rfl⟩
section
variable {X:Cx}{xt:xg}{σ:St}{H:Hp}{s:xR}{a:xS}{y v:V}{u r:xQ}{o:Option V}{A:xV}{E:xc}
def Inv.big(I:Inv X xt σ H s):sysModules<'g':=by
 have h:mainGlobals<'g':=(I.mod.glob.keeps I.bk).lt;exact Nat.lt_trans 'd' h
def wt(hu:A.units+1<cLine)(I:Inv X xt σ H s)(g:DGet H a y (some v))(ry:RelV y u)(h:∀w' s',Inv X xt σ H s'->RelV v w'->Q w' s') :
 wpAny (model X.prog X.w) A (getItem (.ref a) u) Q E s:=by
 rcases g with ⟨kvs,k,e,ey,l⟩|⟨kvs,k,b,e,ey,eb,l⟩
 . subst ey;obtain⟨z,hd,vs,rel,dd⟩:=Yg I.hok e;obtain⟨w',hw,rw'⟩:=RelO.some_of (v:=v) (o:=valueAt vs k) (by rw[l];exact rel.val k);exact wpAny_getItem_of (Zs ry) dd.mapOf hw (h w' _ (I.tok _) rw')
 . subst ey
   cases (show u=Value.ref b from ry)
   obtain⟨z,hd,xs,rel,dd⟩:=Yh I.hok e;obtain⟨w',hw,rw'⟩:=RelO.some_of (v:=v) (o:=(atKey xs k).map (·.2)) (by rw[l];exact rel.val k);obtain⟨p,hp,hp2⟩:=jf.mp hw;refine wpAny_getItem_heap (tupleKind_room_in1 hu) (Zt I.hok eb) dd hp ?_;rw[hp2];exact h w' _ (I.tok _) rw'
def wu(hu:A.units+1<cLine)(I:Inv X xt σ H s)(g:DGet H a y o)(ry:RelV y u)(h:∀s',Inv X xt σ H s'->Q (.bool o.isSome) s') :
 wpAny (model X.prog X.w) A (compareOp .In u (.ref a)) Q E s:=by
 rcases g with ⟨kvs,k,e,ey,l⟩|⟨kvs,k,b,e,ey,eb,l⟩
 . subst ey;obtain⟨z,hd,vs,rel,dd⟩:=Yg I.hok e;refine wpAny_in_of (Zs ry) hd dd.mapOf ?_;rw[<- (rel.val k).isSome_eq,<- l];exact h _ (I.tok _)
 . subst ey
   cases (show u=Value.ref b from ry)
   obtain⟨z,hd,xs,rel,dd⟩:=Yh I.hok e;refine wpAny_in_heap (tupleKind_room_in1 hu) (Zt I.hok eb) hd dd ?_;have q:=(rel.val k).isSome_eq;rw[Option.isSome_map]at q;rw[<- q,<- l];exact h _ (I.tok _)
def ay(I:Inv X xt σ H s)(mu:Mut (H a))(hs:Heap.SameBut a s.heap h')(he:∃q,h'.get? a=some q)(new:ObjOk X.prog X.w (upd H a ob) h' a ob) :
 Inv X xt σ (upd H a ob) { s with heap:=h',toks:=t' } :=
 I.write (x:=a) (e:=a) mu (.inl rfl) (λb q hb z=>(hs.2 b hb).trans z) he new
def eU(z:kvs.length<=sizeLine)(hd:(a==sysModules)=false)(rel:KV kvs vs)(dd:h'.DictOf (Jl P w) a vs) :
 ObjOk P w H' h' a (.dK kvs):=⟨z,hd,vs,rel,dd⟩
def ww(hu:A.units+1<cLine)(I:Inv X xt σ H s)(g:DPut H a y v H')(ry:RelV y u)(rv:RelV v r)(h:∀s',Inv X xt σ H' s'->Q () s') :
 wpAny (model X.prog X.w) A (setItem (.ref a) u r) Q E s:=by
 rcases g with ⟨kvs,k,e,ey,l,eH⟩|⟨kvs,k,b,e,ey,eb,l,eH⟩
 . subst ey eH;obtain⟨z,hd,vs,rel,dd⟩:=ax I.hok e;have hz:vs.length<=sizeLine:=by rw[<- rel.length];exact z
   have hl:(Jf kvs k v).length<=sizeLine:=by have:=eT kvs k v;omega
   refine wpAny_setItem_pairs (hsz:=hz) (Zs ry) dd λh' dd' hs=>h _ ?_;have he:∃q,h'.get? a=some q:=let ⟨q,_,_,hq,_⟩:=dd';⟨q,hq⟩;exact ay I (by rw[e];exact True.intro) hs he (eU hl hd (rel.put k rv) dd')
 . subst ey eH
   cases (show u=Value.ref b from ry)
   obtain⟨z,hd,xs,rel,dd⟩:=mL I.hok e;have hz:'h'<=sizeLine:=by rw[<- Paired.length rel];exact z
   have hl:(Jf kvs k v).length<=sizeLine:=by have:=eT kvs k v;omega
   refine wpAny_setItem_heap (hsz:=hz) (tupleKind_room_in1 hu) (Zt I.hok eb) dd λh' dd' hs=>h _ ?_;obtain⟨q,es,ep,hq,h2,h3,h4,_,h5⟩:=dd';refine ay I (by rw[e];exact True.intro) hs ⟨q,hq⟩ ⟨hl,hd,_,(rel.put k eb rv).keeps λc ys ec=>?_,q,es,ep,hq,h2,h3,h4,h5⟩;rw[xZ (Qs ec e (λz=>nomatch z))];exact ec
end
def eV(i:Expr):Prop:=∀ov iv,subscripted i false ov iv=operate [ov,iv] (getItem ov iv)
theorem mM{E:xc}{env:Env}{pos:Pos}{T id:String}{Q:xc}
 (hl:typeLookup (.type T) "__getitem__" = pure (some (.builtin id))) (hs:eV slice)
 (h:wpAny (model prog w) A (eval value env) (λo s₁=>wpAny (model prog w) A (eval slice env) (λi s₂=>s₂.TypeIs o T/\wpAny (model prog w) A (getItem o i) Q E s₂) E s₁) E s) :
 wpAny (model prog w) A (eval (.Subscript value slice pos) env) Q E s:=by
 refine Subscript_ (qq h (λo s₁ h₁=>qq h₁ (λi s₂ h₂=>?_) λ_ _ x=>x) λ_ _ x=>x);obtain⟨hT,h₂⟩:=h₂;unfold subscriptTail;refine q8 ?_;rw[getitemInPython_of_ne hT.not_modules];refine q8 (xb hT hl ?_)
 have fin:wpAny (model prog w) A (subscripted slice false o i) (λr s₃=>wpAny (model prog w) A (letTemporaryGo value o r >>= λ_=>pure r) Q E s₃) E s₂:=by
  rw[hs o i];exact wpAny_operating (qq h₂ (λr s₃ h₃=>q8 (wpAny_letTemporaryGo (qf h₃))) λ_ _ x=>x)
 first
  |exact qf (q8 fin)
  |exact q8 (qf (q8 fin))
  |exact q8 fin
def wy{X:Cx}{xt:xg}{σ:St}{H:Hp}{s:xR}{a:xS}{y:V}{o:Option V}(I:Inv X xt σ H s)(g:DGet H a y o):s.TypeIs (.ref a) "dict" := by
 rcases g with ⟨kvs,k,e,_,_⟩|⟨kvs,k,b,e,_,_,_⟩
 . obtain⟨_,_,vs,_,dd⟩:=Yg I.hok e;exact dd.typeIs
 . obtain⟨_,_,xs,_,dd⟩:=Yh I.hok e;exact dd.typeIs
def wz(td ty:TE):TE:=λσ H Q=>td σ H λx H1=>ty σ H1 λy H2=>∃a v,x=.ref a/\DGet H2 a y (some v)/\Q v H2
def wA(td ty tv:TE):TS:=λD σ H=>tv σ H λv H1=>td σ H1 λx H2=>ty σ H2 λy H3=>∃a H4,x=.ref a/\DPut H3 a y v H4/\D.nx σ H4
section
variable {X:Cx}{o i e value:Expr}{pos xO tpos:Pos}{td ty tv:TE}
def Yi(hu:X.A.units+1<cLine)(ho:PE X o td)(hi:PE X i ty)(hs:eV i):PE X (.Subscript o i pos) (wz td ty):=by
 intro xt s σ H Q I h;refine mM PySem.F.slot_dict_getitem.lookup hs (thn (ho xt s σ H _ I h) λu s1 pc=>?_);obtain⟨x,H1,I1,rx,q1⟩:=pc;refine thn (hi xt s1 σ H1 _ I1 q1) λiv s2 pc=>?_;obtain⟨y,H2,I2,ry,a,v,ex,g,q2⟩:=pc;subst ex;obtain rfl:u=Value.ref a:=rx;exact⟨wy I2 g,wt hu I2 g ry λw' s3 I3 rw'=>⟨v,H2,I3,rw',q2⟩⟩
def aA(hu:X.A.units+1<cLine)(ho:PE X o td)(hi:PE X i ty)(hv:PE X value tv)(hs:swapsWith value (some (.Subscript o i xO)) pos.line X.env=pure false) :
 PS X (.Assign [.Subscript o i xO] value pos) (wA td ty tv):=by
 intro xt s σ H D I h;refine wpAny_Assign_Subscript (thn (hv xt s σ H _ I h) λr s1 pc=>?_) hs;obtain⟨v,H1,I1,rv,q1⟩:=pc;refine thn (ho xt s1 σ H1 _ I1 q1) λu s2 pc=>?_;obtain⟨x,H2,I2,rx,q2⟩:=pc;refine thn (hi xt s2 σ H2 _ I2 q2) λiv s3 pc=>?_;obtain⟨y,H3,I3,ry,a,H4,ex,g,q3⟩:=pc;subst ex;obtain rfl:u=Value.ref a:=rx;exact ww hu I3 g ry rv λs4 I4=>⟨σ,H4,I4,q3⟩
end
def wB(h:Heap)(hb:sysModules<h.objs.size):ObjOk P w H (h.push { cls := .type "dict",data := .dict #[] }) h.objs.size (.dK []) :=
 ⟨jT _,beq_eq_false_iff_ne.mpr (Ne.symm (jQ hb)),[],.nil,Heap.DictOf.new h⟩
def wC(h:Heap)(hb:sysModules<h.objs.size):ObjOk P w H (h.push { cls := .type "dict",data := .dict #[] }) h.objs.size (.dT []) :=
 ⟨jT _,beq_eq_false_iff_ne.mpr (Ne.symm (jQ hb)),[],.nil,_,#[],0,jH _ rfl,⟨rfl,rfl,rfl⟩,rfl,rfl,jp⟩
def wD:TE:=λ_ H Q=>∀p,H p=none->Q (.ref p) (upd H p (.dK []))
def wE:TE:=λ_ H Q=>∀p,H p=none->Q (.ref p) (upd H p (.dT []))
section
variable {X:Cx}{pos:Pos}
def aB:PE X (.Dict [] [] pos) wD:=λxt s σ H Q I h =>
 wpAny_Dict_empty ⟨.ref 'g',_,I.laid (a:='g') (o := .dK []) (t':=s.toks) (λ_ _ q=>jC _ q) (jE _) (wB s.heap I.big),rfl,h _ (I.hok.fresh (jE _))⟩
def mO:PE X (.Dict [] [] pos) wE:=λxt s σ H Q I h =>
 wpAny_Dict_empty ⟨.ref 'g',_,I.laid (a:='g') (o := .dT []) (t':=s.toks) (λ_ _ q=>jC _ q) (jE _) (wC s.heap I.big),rfl,h _ (I.hok.fresh (jE _))⟩
end
def eX:List (TE×TE)->St->Hp->(List (V×V)->Hp->Prop)->Prop
 | [],_,H,Q=>Q [] H
 |(tk,tv)::r,σ,H,Q=>tk σ H λx H1=>tv σ H1 λy H2=>eX r σ H2 λps H3=>Q ((x,y)::ps) H3
abbrev VV:List (V×V)->List (xQ×xQ)->Prop:=Paired λp q=>RelV p.1 q.1/\RelV p.2 q.2
def PPs(X:Cx)(pos:Pos)(keys:List (Option Expr))(values:List Expr)(trs:List (TE×TE)):Prop :=
 ∀(xt:xg) (s:xR) (σ:St) (H:Hp) (Q:List (V×V)->Hp->Prop),Inv X xt σ H s->eX trs σ H Q ->
  wpAny (model X.prog X.w) X.A (evalPairs (pairTrees keys values X.env pos)) (λvs s'=>∃ps H',Inv X xt σ H' s'/\VV ps vs/\Q ps H') X.xe s
def wF:PPs X pos [] [] []:=λxt s σ H Q I h=>pairTrees_nil_walk ⟨[],H,I,.nil,h⟩
def wG(hk:PE X k tk)(hv:PE X v tv)(hr:PPs X pos ks vs trs) :
 PPs X pos (some k::ks) (v::vs) ((tk,tv)::trs):=λxt s σ H Q I h =>
 pairTrees_cons_walk (thn (hk xt s σ H _ I h) λu s1 ⟨x,H1,I1,rx,q1⟩=>thn (hv xt s1 σ H1 _ I1 q1) λw2 s2 ⟨y,H2,I2,ry,q2⟩ =>
  thn (hr xt s2 σ H2 _ I2 q2) λws s3 ⟨ps,H3,I3,rel,q3⟩=>⟨(x,y)::ps,H3,I3,.cons ⟨rx,ry⟩ rel,q3⟩)
def JJ(kvs more:List (Key×V)):List (Key×V):=more.foldl (λacc kv=>Jf acc kv.1 kv.2) kvs
def KV.merge:∀{more:List (Key×V)}{rs:List (Key×xQ)}{kvs:List (Key×V)}{vs:List (Key×xQ)},KV more rs->KV kvs vs->KV (JJ kvs more) (merged vs rs):=by
 intro more rs kvs vs r;unfold KV at r
 induction r generalizing kvs vs with
 |nil=>intro q;exact q
 | @cons p q ps qs h t ih =>
  intro r0
  have e:KV (Jf kvs p.1 p.2) (stored vs q.1 q.2):=by
   have:=r0.put p.1 h.2;rw[<- h.1];exact this
  exact ih e
theorem eY:∀(more kvs:List (Key×V)),(JJ kvs more).length<=kvs.length+more.length
 | [],kvs=>by show kvs.length<=kvs.length+0;omega
 |p::r,kvs=>by
  have h1:=eY r (Jf kvs p.1 p.2);have h2:=eT kvs p.1 p.2;show(JJ (Jf kvs p.1 p.2) r).length<=_;rw[jV];omega
structure M2 (X:Cx) (o:Expr) (m:Str) (apos:Pos) (e f:Expr) (cpos:Pos):Prop where
 base:attributeBase o m X.env (eval o X.env)=eval o X.env
 few:((backTo cpos (starEach [e,f] X.env)).all (λx => !x.1)&&(backToKw cpos (keywordEach [] X.env)).all (λx=>x.1.isSome)
  && decide (([e,f]:List Expr).length+([]:List Keyword).length+(if ([]:List Keyword).isEmpty then 0 else 1)<30))=true
 line:(apos.endLine==cpos.line)=true
 trees:backTo cpos (starEach [e,f] X.env)=[(false,eval e X.env),(false,eval f X.env)]
def wH(H:Hp)(a:xS):Prop:=(∃kvs,Rd H a (.dK kvs))\/∃kvs,Rd H a (.dT kvs)
def aC{X:Cx}{xt:xg}{σ:St}{H:Hp}{s:xR}{a:xS}(I:Inv X xt σ H s)(d:wH H a) :
 s.TypeIs (.ref a) "dict" /\ (∀b,Value.ref a=.ref b->∃ob,'i' b=some ob/\ob.dict=none)/\(a==sysModules)=false:=by
 rcases d with ⟨kvs,e⟩|⟨kvs,e⟩
 . obtain⟨_,hd,vs,_,dd⟩:=Yg I.hok e;refine⟨dd.typeIs,λb q=>?_,hd⟩
   cases q
   obtain⟨ob,_,_,h1,h2,_⟩:=dd;exact⟨ob,h1,h2.2.1⟩
 . obtain⟨_,hd,xs,_,dd⟩:=Yh I.hok e;refine⟨dd.typeIs,λb q=>?_,hd⟩
   cases q
   obtain⟨ob,_,_,h1,h2,_⟩:=dd;exact⟨ob,h1,h2.2.1⟩
section
variable {X:Cx}
def JP:OpR X (binaryOp .Mult) (rI (λi j=>IntMulOk i j) λi j => .int (i*j)):=opI λ_ _ _ _ _ _ _ hc q=>mul_int q hc
def JV:OpR X (binaryOp .FloorDiv) (rI (λ_ j=>0<j/\j.natAbs.log2<9000) λi j => .int (i / j)):=opI λi j _ _ _ _ _ hc q=>by
 have h1:(0:Int)<j:=hc.1;exact floordiv_int 'c' (by rw[Int.fdiv_eq_ediv_of_nonneg i 'c'];exact q) (.inl (PyProof.noPylong_of_log2 hc.2))
def aD:OpR X (binaryOp .FloorDiv) (rI (λ_ j=>j≠0/\j.natAbs.log2<9000) λi j => .int (i.fdiv j)):=opI λi j _ _ _ _ _ hc q =>
 floordiv_int hc.1 q (.inl (PyProof.noPylong_of_log2 hc.2))
def JQ(ha:a.natAbs<2 ^ m)(hb:b.natAbs<2 ^ n)(h:m+n<=134217728):IntMulOk a b :=
 PyProof.Rows.mulOk_of_bits (PyProof.Rows.intBits_le ha) (PyProof.Rows.intBits_le hb) h
def Jm:OpR X (compareOp .Eq) (rI0 λi j => .bl (decide (i=j))):=Y9 λ_ _ _ _ _ _ _ q=>eq_int (by rw[ku];exact q)
def QE:OpR X (compareOp .NotEq) (rI0 λi j => .bl (!decide (i=j))):=Y9 λ_ _ _ _ _ _ _ q=>ne_int (by rw[bne,ku];exact q)
def Jj:OpR X (compareOp .Eq) (λx y H Q=>∃i j,x=.str i/\y=.str j/\Q (.bl (decide (i=j))) H):=by
 intro xt s σ H x y v u Q I rx ry h;obtain⟨i,j,rfl,rfl,q⟩:=h;have e:decide (V.str i=V.str j)=decide (i=j):=by simp
 refine lX xt s σ H _ _ v u Q I rx ry ⟨rfl,?_⟩;rw[e];exact q
def Qk:OpR X (compareOp .NotEq) (λx y H Q=>∃i j,x=.str i/\y=.str j/\Q (.bl (!decide (i=j))) H):=by
 intro xt s σ H x y v u Q I rx ry h;obtain⟨i,j,rfl,rfl,q⟩:=h;have e:decide (V.str i=V.str j)=decide (i=j):=by simp
 refine lY xt s σ H _ _ v u Q I rx ry ⟨rfl,?_⟩;rw[e];exact q
def Jo:OpR X (compareOp .Eq) (λx y H Q=>∃i j,x=.bl i/\y=.bl j/\Q (.bl (decide (i=j))) H):=by
 intro xt s σ H x y v u Q I rx ry h;obtain⟨i,j,rfl,rfl,q⟩:=h;have e:decide (V.bl i=V.bl j)=decide (i=j):=by simp
 refine lX xt s σ H _ _ v u Q I rx ry ⟨rfl,?_⟩;rw[e];exact q
def QW:OpR X (compareOp .NotEq) (λx y H Q=>∃i j,x=.bl i/\y=.bl j/\Q (.bl (!decide (i=j))) H):=by
 intro xt s σ H x y v u Q I rx ry h;obtain⟨i,j,rfl,rfl,q⟩:=h;have e:decide (V.bl i=V.bl j)=decide (i=j):=by simp
 refine lY xt s σ H _ _ v u Q I rx ry ⟨rfl,?_⟩;rw[e];exact q
def aE:V->xQ
 |.ty n => .type n
 |.ref a => .ref a
 |_ => .none
def isC:V->Bool
 |.ty _=>true
 |.ref _=>true
 |_=>false
def mP(r:RelV c u)(h:isC c=true):u=aE c:=by
 cases c<;>first|exact r|cases h
inductive TyD (K:xh) (H:Hp):V->xQ->Prop where
 |of {x:V}{t:xQ} (h:TyOf K H x t):TyD K H x t
 |tupS {a:xS}{xs:List V} (h:SqT K H a xs):TyD K H (.ref a) (.type "tuple")
 |lstS {a:xS}{xs:List V} (h:SqL K H a xs):TyD K H (.ref a) (.type "list")
def wI:CallR X (.builtin "isinstance") (λxs H Q=>∃x c t b,xs=[x,c]/\isC c=true/\TyD X.K H x t/\PySem.W.kitOne X.K t (aE c)=some b/\Q (.bl b) H):=by
 intro xt s σ H xs us Q I r h;obtain⟨x,c,t,b,rfl,hc,ty,e,q⟩:=h;obtain⟨u,w',rfl,rx,rc⟩:=am r;have:=mP rc hc;subst this
 cases ty with
 |of ty=>exact vx I rx ty e λtk=>⟨.bl b,H,I.tok _,rfl,q⟩
 |tupS hs =>
  cases rx
  obtain⟨its,_,⟨o,h1,h2,_⟩,_⟩:=I.tuple hs;exact PySem.W.kia_one PySem.W.kitx_tuple I.kIn ⟨o,h1,h2⟩ e (λz=>nomatch z) λtk=>⟨.bl b,H,I.tok _,rfl,q⟩
 |lstS hs =>
  cases rx
  obtain⟨its,_,pl,_⟩:=I.list hs;obtain⟨o,h1,h2,_⟩:=pl.isList;exact PySem.W.kia_one PySem.W.kitx_list I.kIn ⟨o,h1,h2⟩ e (λz=>nomatch z) λtk=>⟨.bl b,H,I.tok _,rfl,q⟩
end
structure Fn (K:xh) (mg:xf) (x:Str) (st:Stmt) (ps:xp):Prop where
 ex:∃f fd,Fun K x x st f fd/\Binds K fd ps []/\mg x=some (.ref f)
structure Def (P:xT) (w:xU) (K:xh) (mg:xf) (base:Heap) (x:Str) (k:Nat) (ps:xp) (sp:Sp):Prop where
 ex:∃f fd,FnOk P w K mg base CX0 k f fd ps sp/\Binds K fd ps []/\PySem.W.keepIn K (.ref f)=true/\mg x=some (.ref f)
section
variable {P:xT}{w:xU}{K:xh}{mg:xf}{base:Heap}
theorem Fn.ok{x:Str}{st:Stmt}{N ps:xp}{k:Nat}{sp:Sp}(F:Fn K mg x st ps)(S:FnScope N ps (defScope st))(len:∀vs H Q E,sp vs H Q E->vs.length=ps.length)
 (xB:∀(f:xS) (xu:xQ) (A:xV) (outer:List Env) (s:xR) (H:Hp) (vs:List V) (Q:VK) (E:XK),Room k (A.deeper (envOfC x (defScope st) 'g' f xu))->sp vs H Q E ->
  ∃t,PSs (QD CX0 P w K mg base N x (defScope st) f xu A outer s H E).nox (defBody st) t/\t { nx:=λ_ H'=>Q .non H',rt:=Q } (JD N vs) H):Def P w K mg base x (k+1) ps sp:=by
 obtain⟨f,fd,FF,b,m⟩:=F.ex;exact⟨f,fd,FF.ok S len (xB f),b,FF.kp,m⟩
end
section
variable {X:Cx}{k j:Nat}{ps:xp}{sp:Sp}{x:Str}{p pos:Pos}{e:Expr}{es:List Expr}{t:TA}
def J9(D:Def X.prog X.w X.K X.mg X.base x j ps sp)(hr:Room k X.A)(hg:Gl X x)(ha:PA X (e::es) t)(hjk:j<=k:=by decide)(hdb:(x==("__debug__" : Str))=false:=by decide)
 (he:starEach (e::es) X.env=(false,eval e X.env)::starEach es X.env:=by rfl) (hpl:(backTo pos (starEach es X.env)).any (·.1)=false:=by rfl) :
 PE X (.Call (.Name x p) (e::es) [] pos) (Zn sp [] E0 t):=by
 obtain⟨f,fd,F,b,kp,m⟩:=D.ex;exact eO F (hr.mono hjk) hg m kp b .nil wr ha hdb he hpl
end
def Ji{c:Prop}[Decidable c]{A B:Prop}(h1:c->A)(h2:¬c->B):if decide c=true then A else B:=by
 by_cases h:c
 . rw[qh (qi h)];exact h1 h
 . rw[qg (by rw[qj h];exact jR)];exact h2 h
def QF{c:Prop}[Decidable c]{A B:Prop}(h1:¬c->A)(h2:c->B):if (!decide c)=true then A else B:=by
 by_cases h:c
 . rw[qg (by rw[qi h];exact jR)];exact h2 h
 . rw[qh (by rw[qj h];rfl)];exact h1 h
def aF(xs:List V)(k:Nat):JB xs (some (k:Int)) none=xs.drop k:=by
 unfold JB;rw[HT.sIx_nat,HT.sIx_none]
 by_cases h:k<='h'
 . rw[Nat.min_eq_left h,j4 (by rw[List.length_drop];exact jE _)]
 . have h':xs.length<=k:=by omega
   rw[Nat.min_eq_right h',kY (jE _),kY h'];simp
def wJ(xs:List V)(k:Nat):JB xs none (some (k:Int))=xs.take k:=by
 unfold JB;rw[HT.sIx_nat,HT.sIx_none,List.drop_zero,Nat.sub_zero]
 by_cases h:k<='h'
 . rw[Nat.min_eq_left h]
 . have h':xs.length<=k:=by omega
   rw[Nat.min_eq_right h',j4 (jE _),j4 h']
def Zu{K:xh}{H:Hp}{a:xS}{xs:List V}(h:SqL K H a xs):eJ K (.ref a) H 'h' := .inl ⟨xs,h,rfl⟩
def Jb{X:Cx}{e:Expr}{es:List Expr}{te:TE}{t:TA}(ha:PE X e te)(hr:PA X es t)(hs:starEach (e::es) X.env=(false,eval e X.env)::starEach es X.env):PA X (e::es) (JF te t):=xW ha hr hs
end L2
namespace PySem
section
variable {prog:xT}{w:xU}{A:xV}{E:xc}{R:Result->xR->Prop}{s:xR}
def wK(I:Nat->xR->Prop)
 (turn:∀n s,I n s->wpAny (model prog w) A (pyNext it) (λr s₁=>match r with
  |none=>R (.ok .next) s₁
  |some v=>wpAny (model prog w) A (letOwnedTupleGo target it v) (λ_ s₁'=>wpAny (model prog w) A (assign target env v) (λ_ s₂ =>
   wpAny (model prog w) A (forIn ifs true λc r=>if r=true then do let ok <- isTrue c env (eval c env);pure (ForInStep.yield ok) else pure (ForInStep.yield r)) (λok s₃ =>
    if ok=true then wpAny (model prog w) A (eval elt env) (λx s₄ =>
     wpAny (model prog w) A (call (.builtin "list.append") [acc,x]) (λ_ s₅=>∃m,m<n/\I m s₅) (notedBy (model prog w) A env λe s'=>R (.error e) s') s₄) (notedBy (model prog w) A env λe s'=>R (.error e) s') s₃
    else ∃m,m<n/\I m s₃) (notedBy (model prog w) A env λe s'=>R (.error e) s') s₂) (notedBy (model prog w) A env λe s'=>R (.error e) s') s₁') (notedBy (model prog w) A env λe s'=>R (.error e) s') s₁) (notedBy (model prog w) A env λe s'=>R (.error e) s') s)
 (n:Nat) (h:I n s) :
 codeAny (model prog w) A (.compLoop (.ListComp elt [⟨target,xC,ifs,0⟩] scope pos) 0 it acc env) R s:=by
 refine codeAny_loop rfl I (λn s hI=>?_) n h;show wpAny _ A ((compTurn (.ListComp elt [⟨target,xC,ifs,0⟩] scope pos) 0 it acc env).onRaise (λx=>do noteFrame x env;theTreesLotGoes x)) _ _ s;refine wpAny_noted ?_;rw[compTurn_list];refine q8 (wpAny_standAt (q8 (qq (turn n s hI) (λr s₁ h₁=>?_) λ_ _ h'=>h')))
 cases r with
 |none=>exact qf h₁
 |some v =>
  refine q8 (qq h₁ (λ_ s₁' h₁'=>?_) λ_ _ h'=>h');refine q8 (qq h₁' (λ_ s₂ h₂=>q8 (qq h₂ (λok s₃ h₃=>?_) λ_ _ h'=>h')) λ_ _ h'=>h')
  cases ok with
  |false=>exact qf ⟨rfl,h₃⟩
  |true =>
   exact q8 (q8 (qq h₃ (λx s₄ h₄=>q8 (qq h₄ (λ_ s₅ h₅=>qf (qf ⟨rfl,h₅⟩)) λ_ _ h'=>h')) λ_ _ h'=>h'))
end
end PySem
namespace L2
open PySem PySem.Spec PyProof.Rows
section
variable {X:Cx}
def cap(ix:xq)(σ:St):St:=ix.map λi=>(σ[i]?).getD none
def Qv(ix:xq)(wi:TI)(tt:TT)(te:TE):TE:=λσ H Q=>wi σ H λJ H1=>∀D,H1 D=none->∃W:Nat->Nat->Hp->Prop,(∃m,W 0 m (upd H1 D (.lst []))) /\
 ∀i m H,W i m H->(J.stop i H/\Q (.ref D) H)\/(J.go i H/\∀x H',J.yld i H x H'->tt (some x::cap ix σ) H' λb H2 =>
  if b=true then te (some x::cap ix σ) H2 λy H3=>∃ys,H3 D=some (.lst ys)/\ys.length<sizeLine/\∃m',m'<m/\W (i+1) m' (upd H3 D (.lst (ys++[y]))) else ∃m',m'<m/\W (i+1) m' H2)
def QK(X:Cx)(zs M:xp)(scope:Scope)(cl:List (Str×xS))(C:xS)(xt:xg)(fp:List xS)(s:xR)(H:Hp):Cx where
 prog:=X.prog
 w:=X.w
 K:=X.K
 mg:=X.mg
 base:=X.base
 A:=X.A
 N:=zs++M
 s₀:=s
 H₀:=H
 env:=compEnvC scope cl C X.env
 outer:=X.stack
 stack:=X.stack
 ex:=fp
 calm:=X.calm
 fn:=λ_=>false
 pn:=X.pn++xt
 xe:=λ_ _=>False
abbrev Yj(X:Cx)(x:Str)(M:xp)(scope:Scope)(cl:List (Str×xS))(C:xS)(xt:xg)(fp:List xS)(s:xR)(H:Hp):Cx:=QK X [x] M scope cl C xt fp s H
structure CompOk (X:Cx) (x:Str) (M:xp) (ix:xq) (scope:Scope) (cl:List (Str×xS)):Prop where
 clos:closureFor scope X.env=pure cl
 kind:scope.kind=.function
 names:∀y∈scope.names,y.2=.local->scope.names.lookup y.1=some .local
 nocell:∀y∈scope.names,y.2 ≠ .cell
 loc:scope.names.lookup x=some .local
 sub:∀y c,cl.lookup y=some c->X.env.cells.lookup y=some c
 has:∀y,((compEnvC scope cl 0 X.env).kindOf y=some .cell\/(compEnvC scope cl 0 X.env).kindOf y=some .free)->∃c,cl.lookup y=some c
 len:ix.length=M.length
 cap:∀(i:Nat) (y:Str) (j:Nat),M[i]?=some y->ix[i]?=some j->X.N[j]?=some y/\Vis X.env.scope y/\∃c,cl.lookup y=some c/\((compEnvC scope cl 0 X.env).kindOf y=some .cell\/(compEnvC scope cl 0 X.env).kindOf y=some .free)/\X.env.kindOf y≠some .local
theorem wL{x:Str}{zs M:xp}{ix:xq}{scope:Scope}{cl:List (Str×xS)}{xt:xg}{σ:St}{H:Hp}{s:xR}{fp:List xS}{h4:Heap}{tk:Nat}{m:xf}(O:CompOk X x M ix scope cl)(I:Inv X xt σ H s)
 (hfp:∀b∈fp,FpOk X xt H b/\∃o,'i' b=some o) (hn:h4.Ns 'g' m) (hk:∀b o,'i' b=some o->h4.get? b=some o) :
 Inv (QK X zs M scope cl 'g' xt fp s H) [] (zs.map (λ_=>none)++cap ix σ) H { s with heap:=h4,toks:=tk }:=by
 have fresh:H 'g'=none:=I.hok.fresh (jE _)
 have ex1:∀b∈fp,b≠'g':=λb hb z=>by
  obtain⟨_,o,e⟩:=hfp b hb;exact absurd (jI e) (by rw[z];exact kA _)
 refine⟨⟨I.ok.mod,O.kind,I.ok.glob,I.ok.blt,jE _,λy z c h1 h2=>I.ok.inj y z c (O.sub y c h1) (O.sub z c h2),λy hy=>O.has y hy,λy c h=>(nomatch h),I.ok.hd,I.ok.frames,.inl rfl,λb hb=>⟨ex1 b hb,λy c e=>(hfp b hb).1.2.2.2.2.1 y c (O.sub y c e)⟩,
  I.bs,jg I.ok.bsz I.sz,λb o e hb=>?_,λb hb z=>?_,I.stack,I.stkFree⟩,rfl,I.bare,Un.kept hk,⟨m,hn,λi y v h1 h2 h3=>?_⟩,λy c e=>?_,fresh,λy c e=>I.freeC y c (O.sub y c e),λp hp=>?_,I.hok.kept hk,?_⟩
 . have f:=(hfp b hb).1.2.2.2.1;rcases f with f | f
   . exact I.ok.noex b o e f
   . exact absurd (jS (jI e) (jg I.ok.bsz f)) (kA _)
 . rcases jJ.mp (I.stkSub b z) with q | q
   . exact(hfp b hb).1.2.1 q
   . exact(hfp b hb).1.2.2.1 q
 . have h1:(zs ++ M)[i]? = some y:=h1;have h2:(zs.map (λ_=>none) ++ cap ix σ)[i]? = some (some v):=h2
   by_cases hz:i<zs.length
   . rw[kU (by rw[jA];exact hz),jD,jB hz]at h2;exact absurd (Option.some.inj h2) (λz=>nomatch z)
   . rw[j3 'c']at h1;rw[j3 (by rw[jA];omega),jA]at h2;generalize i - zs.length=i at h1 h2;have h2':(ix.map λi=>(σ[i]?).getD none)[i]? = some (some v):=h2;rw[jD]at h2'
     cases ej:ix[i]? with
     |none=>rw[ej]at h2';cases h2'
     |some j =>
      rw[ej]at h2';have h2'':(σ[j]?).getD none=some v:=Option.some.inj h2';obtain⟨hN,hV,c,hc,hk',hnl⟩:=O.cap i y j h1 ej
      cases eσ:σ[j]? with
      |none=>rw[eσ]at h2'';cases h2''
      |some ov =>
       rw[eσ]at h2'';have:ov=some v:=h2'';subst this;obtain⟨mm,hnn,hl⟩:=I.loc;obtain⟨u,r,l⟩:=hl j y v hN eσ hV;refine⟨u,r,?_⟩;rcases l with ⟨k,_⟩|⟨k,c',e',z⟩
       . exact absurd k hnl
       . have:c'=c:=Option.some.inj (e'.symm.trans (O.sub y c hc));subst this;obtain⟨o,ho,hd⟩:=z;exact .inr ⟨hk',c',hc,o,hk _ _ ho,hd⟩
 . obtain⟨v,o,ho,hd⟩:=I.cell y c (O.sub y c e);exact⟨v,o,hk _ _ ho,hd⟩
 . have hp':p∈X.pn ++ xt:=by
    have:=(je.mp hp);exact this.elim id λz=>absurd z 'f'
   obtain⟨e,n,ne,nf,d⟩:=I.pin p hp';refine⟨hk _ _ e,n,λz=>?_,λz=>?_,d⟩
   . exact absurd (jI e) (by rw[show p.1='g' from z];exact kA _)
   . rcases jJ.mp (I.stkSub _ z) with q | q
     . exact ne q
     . exact nf q
 . show(zs.map _++ix.map _).length=(zs++M).length;simp[O.len]
end
section
variable {X:Cx}
def PTs(X:Cx)(ifs:List Expr)(t:TT):Prop :=
 ∀(xt:xg) (s:xR) (σ:St) (H:Hp) (Q:Bool->Hp->Prop),Inv X xt σ H s->t σ H Q ->
  wpAny (model X.prog X.w) X.A (forIn ifs true λc r=>if r=true then do let ok <- isTrue c X.env (eval c X.env);pure (ForInStep.yield ok) else pure (ForInStep.yield r)) (TP X xt σ Q) X.xe s
def Q7:TT:=λ_ H Q=>Q true H
def Qf:PTs X [] Q7:=λ_ _ _ H _ I h=>wpAny_tests_nil ⟨H,I,h⟩
theorem eZ{elt xC tg:Expr}{x:Str}{g:TG}{ifs:List Expr}{scope:Scope}{cl:List (Str×xS)}{pos:Pos}{zs M:xp}{ix:xq}{tt:TT}{te:TE}{xt:xg}{σ:St}{H2:Hp}{s2:xR}{it:xS}{fp:List xS}{tn:Nat->Heap->Prop}{J:It}
 (O:CompOk X x M ix scope cl) (hc:X.calm=true) (hg:∀C xt fp s H,PG (QK X zs M scope cl C xt fp s H) tg g)
 (ht:∀C xt fp s H,PTs (QK X zs M scope cl C xt fp s H) ifs tt) (he:∀C xt fp s H,PE (QK X zs M scope cl C xt fp s H) elt te)
 (I2:Inv X xt σ H2 s2) (T:Turn X.prog X.w X.K (tg) J fp it tn) (st2:tn 0 s2.heap) (f2:∀b∈fp,FpOk X xt H2 b)
 {RR:xQ->xS->Result->xR->Prop}{E:xc}{Q:VK}
 (h:∀D,H2 D=none->∃W:Nat->Nat->Hp->Prop,(∃m,W 0 m (upd H2 D (.lst []))) /\
  ∀i m H,W i m H->(J.stop i H/\Q (.ref D) H)\/(J.go i H/\∀x H',J.yld i H x H'->∀vs:St,vs.length=zs.length->g x (vs++cap ix σ) H' λxM H'=>∃us:St,us.length=zs.length/\xM=us++cap ix σ/\tt xM H' λok H2 =>
   if ok=true then te xM H2 λy H3=>∃ys,H3 D=some (.lst ys)/\ys.length<sizeLine/\∃m',m'<m/\W (i+1) m' (upd H3 D (.lst (ys++[y]))) else ∃m',m'<m/\W (i+1) m' H2))
 (hR:∀(C D:xS) (H':Hp) (s':xR) (m:xf),Inv X xt σ H' s'->Q (.ref D) H'->s'.heap.Ns C m->H' C=none->C≠X.env.locals->X.s₀.heap.objs.size<=C->(∀y c,X.env.cells.lookup y=some c->c≠C)->(∀p∈X.pn++xt,p.1≠C)->RR (.ref D) C (.ok .next) s') :
 wpAny (model X.prog X.w) X.A (newList []) (λacc s₃=>wpAny (model X.prog X.w) X.A (newFunctionEnv scope X.env.globals cl [] X.env.qual none .none (some X.env)) (λcenv s₄ =>
  codeAny (model X.prog X.w) X.A (.compStart (.ListComp elt [⟨tg,xC,ifs,0⟩] scope pos) 0 (.ref it) acc { cenv with scope:=relabel scope X.env }) (RR acc cenv.locals) s₄) E s₃) E s2:=by
 have hD:H2 s2.heap.objs.size=none:=I2.hok.fresh (jE _);obtain⟨W,⟨m0,w0⟩,turn⟩:=h s2.heap.objs.size hD;refine qu (wpAny_newFunctionEnv O.nocell (by intro y hy;simp at hy) (λh₁ hns₁ hsb₁=>?_) O.kind);dsimp only at hns₁ hsb₁ ⊢;generalize hH3:s2.heap.push { cls := .type "list",dict:=none,data := .seq ([]:xm).toArray }=hp3 at hns₁ hsb₁ ⊢;have k23:∀b o,s2.heap.get? b=some o->hp3.get? b=some o:=λb o e=>hH3 ▸ jC _ e
 have I3:Inv X xt σ (upd H2 s2.heap.objs.size (.lst [])) { s2 with heap:=hp3,toks:=s2.toks }:=by
  refine I2.laid (o := .lst []) (t':=s2.toks) k23 (jE _) ?_;exact⟨jT _,[],0,.nil,hH3 ▸ jH _ rfl⟩
 have hfp:∀b∈fp,FpOk X xt (upd H2 s2.heap.objs.size (.lst [])) b/\∃o,hp3.get? b=some o:=λb hb=>by
  obtain⟨o,e,_⟩:=T.obj _ _ st2 b hb;obtain⟨q0,q1⟩:=f2 b hb;exact⟨⟨by rw[xZ (jQ (jI e))];exact q0,q1⟩,o,k23 b o e⟩
 have k34:∀b o,hp3.get? b=some o->h₁.get? b=some o:=λb o e=>hsb₁.extBut b o (jQ (jI e)) (jC _ e);have I4:=wL (zs:=zs) (tk:=s2.toks+([]:List (Str×xQ)).length) O I3 hfp hns₁ k34;have st4:tn 0 h₁:=T.keep _ _ _ st2 λb hb o e=>k34 b o (k23 b o e);have fr4:∀b∈fp,(upd H2 s2.heap.objs.size (.lst [])) b=none:=λb hb=>(hfp b hb).1.1
 -- what stays true of the iterator's objects in the block
 have stat:∀{H':Hp},(∀b∈fp,H' b=none)->∀b∈fp,FpOk (QK X zs M scope cl hp3.objs.size xt fp { s2 with heap:=hp3,toks:=s2.toks } (upd H2 s2.heap.objs.size (.lst []))) [] H' b:=λhn b hb=>by
  obtain⟨⟨_,q1,q2,q3,q4,q5⟩,o,e⟩:=hfp b hb;refine⟨hn b hb,jQ (jI e),λz=>?_,.inl hb,λy c ec=>q4 y c (O.sub y c ec),λp hp=>?_⟩
  . rcases jJ.mp (I3.stkSub b z) with q | q
    . exact q1 q
    . exact q2 q
  . have hp':p∈X.pn++xt:=(je.mp hp).elim id λz=>absurd z 'f';exact q5 p hp'
 have loop:codeAny (model X.prog X.w) X.A (.compLoop (.ListComp elt [⟨tg,xC,ifs,0⟩] scope pos) 0 (.ref it) (.ref s2.heap.objs.size) (compEnvC scope cl hp3.objs.size X.env)) (RR (.ref s2.heap.objs.size) hp3.objs.size)
  { s2 with heap:=h₁,toks:=s2.toks+([]:List (Str×xQ)).length }:=by
  refine wK (λn s'=>∃i vs H',vs.length=zs.length/\Inv (QK X zs M scope cl hp3.objs.size xt fp { s2 with heap:=hp3,toks:=s2.toks } (upd H2 s2.heap.objs.size (.lst []))) [] (vs++cap ix σ) H' s'/\tn i s'.heap/\(∀b∈fp,H' b=none)/\W i n H') ?_ m0 ⟨0,_,_,jA ..,I4,st4,fr4,w0⟩;rintro n s5 ⟨i,v5,H5,l5,I5,st5,fr5,w5⟩;rcases turn i n H5 w5 with ⟨stop,qn⟩|⟨go,step⟩
  . refine thn (T.done (QK X zs M scope cl hp3.objs.size xt fp { s2 with heap:=hp3,toks:=s2.toks } (upd H2 s2.heap.objs.size (.lst []))) rfl rfl rfl hc i [] s5 _ H5 _ I5 (stat fr5) st5 stop) λr s6 ⟨hr,I6⟩=>?_;subst hr;obtain⟨m6,hn6,_⟩:=id I6.loc
    have hch:∀b∈fp,(b∈X.ex\/X.s₀.heap.objs.size<=b)/\b≠X.env.locals/\(∀x c,X.env.cells.lookup x=some c->c≠b)/\∀p∈X.pn++xt,p.1≠b:=λb hb=>by
     obtain⟨⟨_,q1,q2,q3,q4,q5⟩,_⟩:=hfp b hb;exact⟨q3,q1,q4,q5⟩
    have IX:Inv X xt σ H5 s6:=I3.call' (s':=s6) (ch:=fp) I6.os I6.base I6.hok I6.bare hch;refine hR _ _ _ _ m6 IX qn hn6 I6.free (jo I3.lt) I3.sz (λy c e z=>?_) λp hp z=>?_
    . obtain⟨v,q⟩:=I3.cell y c e;exact absurd q.lt (by rw[z];exact kA _)
    . exact absurd (jI (I3.pin p hp).1) (by rw[z];exact kA _)
  . refine thn (T.item (QK X zs M scope cl hp3.objs.size xt fp { s2 with heap:=hp3,toks:=s2.toks } (upd H2 s2.heap.objs.size (.lst []))) rfl rfl rfl hc i [] s5 _ H5 _ I5 (stat fr5) st5 go) λr s6 ⟨u,hr,h6⟩=>?_;subst hr;refine thn h6 λ_ s7 pc=>?_;obtain⟨xv,H7,I7,r7,y7,st7,fr7⟩:=pc;have I7':=I7.pinned (stat fr7) (T.obj _ _ st7)
    have keepT:∀{σ8:St}{H8:Hp}{s8:xR},Inv (QK X zs M scope cl hp3.objs.size xt fp { s2 with heap:=hp3,toks:=s2.toks } (upd H2 s2.heap.objs.size (.lst []))) ([]++Y8 fp s7.heap) σ8 H8 s8->tn (i+1) s8.heap/\∀b∈fp,H8 b=none:=λI8=>by
     refine⟨T.keep _ _ _ st7 λb hb o e=>(I8.pin (b,o) (jY _ (jY _ (af hb e)))).1,λb hb=>?_⟩;obtain⟨o,e,d⟩:=T.obj _ _ st7 b hb;exact(I8.pin (b,o) (jY _ (jY _ (af hb e)))).2.1
    refine qq (hg _ _ _ _ _ _ s7 _ H7 xv u _ I7' r7 (step xv H7 y7 _ l5)) (λ_ s8 pc=>?_) λ_ _ z=>z.elim;obtain⟨σ8,H8,I8,us,lu,e8,step'⟩:=pc;subst e8;refine qq (ht _ _ _ _ _ _ s8 _ _ _ I8 step') (λok s9 ⟨H9,I9,q9⟩=>?_) λ_ _ z=>z.elim
    cases ok with
    |false =>
     rw[qg jR]
     have q9':∃m',m'<n/\W (i+1) m' H9:=by
      have:=q9
      rwa [qg jR]at this
     obtain⟨m',hm,w9⟩:=q9';obtain⟨k1,k2⟩:=keepT I9;exact⟨m',hm,i+1,us,H9,lu,I9.unpinned,k1,k2,w9⟩
    |true =>
     rw[qh rfl]at q9 ⊢;refine qq (he _ _ _ _ _ _ s9 _ H9 _ I9 q9) (λyv s10 pc=>?_) λ_ _ z=>z.elim;obtain⟨y,H10,I10,r10,ys,eD,hz,m',hm,w10⟩:=pc;refine qq (Zr (X:=QK X zs M scope cl hp3.objs.size xt fp { s2 with heap:=hp3,toks:=s2.toks } (upd H2 s2.heap.objs.size (.lst []))) _ s10 _ H10 (.ref s2.heap.objs.size) [y] (.ref s2.heap.objs.size) [yv] (λ_ H11=>H11=upd H10 s2.heap.objs.size (.lst (ys++[y]))) I10 rfl (.cons r10 .nil) ⟨_,ys,y,rfl,rfl,eD,hz,rfl⟩) (λ_ s11 pc=>?_) λ_ _ z=>z.elim;obtain⟨_,H11,I11,_,e11⟩:=pc;subst e11;obtain⟨k1,k2⟩:=keepT I11;exact⟨m',hm,i+1,us,_,lu,I11.unpinned,k1,k2,w10⟩
 exact codeAny_compStart_list loop (T.self X.A 0 _ _ _ st4 loop)
def wM{vs:St}{x:Str}(h:vs.length=[x].length):∃v,vs=[v]:=match vs,h with | [v],_=>⟨v,rfl⟩
theorem mQ {ix : List Nat} {tt : TT} {te : TE} {J : It} {Q : VK} {x : Str} (h : ∀ D, H2 D = none -> ∃ W : Nat -> Nat -> Hp -> Prop, (∃ m, W 0 m (upd H2 D (.lst []))) /\
      ∀i m H,W i m H->(J.stop i H/\Q (.ref D) H)\/(J.go i H/\∀x H',J.yld i H x H'->tt (some x::cap ix σ) H' λb H2 =>
       if b=true then te (some x::cap ix σ) H2 λy H3=>∃ys,H3 D=some (.lst ys)/\ys.length<sizeLine/\∃m',m'<m/\W (i+1) m' (upd H3 D (.lst (ys++[y]))) else ∃m',m'<m/\W (i+1) m' H2)) :
 ∀D,H2 D=none->∃W:Nat->Nat->Hp->Prop,(∃m,W 0 m (upd H2 D (.lst []))) /\
  ∀i m H,W i m H->(J.stop i H/\Q (.ref D) H)\/(J.go i H/\∀y H',J.yld i H y H'->∀vs:St,vs.length=[x].length->Jh 0 y (vs++cap ix σ) H' λxM H'=>∃us:St,us.length=[x].length/\xM=us++cap ix σ/\tt xM H' λok H2 =>
   if ok=true then te xM H2 λy H3=>∃ys,H3 D=some (.lst ys)/\ys.length<sizeLine/\∃m',m'<m/\W (i+1) m' (upd H3 D (.lst (ys++[y]))) else ∃m',m'<m/\W (i+1) m' H2):=λD hD=>by
 obtain⟨W,w0,t⟩:=h D hD;refine⟨W,w0,λi m H w=>(t i m H w).imp id λpc=>?_⟩;obtain⟨g,st⟩:=pc;refine ⟨g,λy H' hy vs hv=>?_⟩;obtain⟨v,rfl⟩:=wM hv;exact⟨[some y],rfl,rfl,st y H' hy⟩
def mR(O:CompOk X x M ix scope cl)(nd:(x::M).Nodup):∀C xt fp s H,PG (Yj X x M scope cl C xt fp s H) (.Name x px) (Jh 0):=λ_ _ _ _ _=>Ju nd rfl (.inl (qQ O.loc)) (.inr (qQ O.loc))
def QL
 (O:CompOk X x M ix scope cl) (hc:X.calm=true) (nd:(x::M).Nodup) (hi:PI X (.Name x px) xC wi)
 (ht:∀C xt fp s H,PTs (Yj X x M scope cl C xt fp s H) ifs tt) (he:∀C xt fp s H,PE (Yj X x M scope cl C xt fp s H) elt te) (hs:∀x,foldedSetIterable xC X.env x=pure x:=by intro _;rfl) :
 PE X (.ListComp elt [⟨.Name x px,xC,ifs,0⟩] scope pos) (Qv ix wi tt te):=by
 intro xt s σ H Q I h;rw[eval_ListComp];refine wpAny_comprehension_free (use:=none) rfl hs O.clos O.kind O.names (thn (hi xt s σ H _ I h) λxv s₁ h₁=>thn h₁ λitv s₂ pc=>?_);obtain⟨it,fp,tn,J,H2,e,I2,T,st2,f2,hW⟩:=pc;subst e;refine eZ (RR:=λacc C=>compPost (model X.prog X.w) X.A X.xe none (EP X xt σ Q) acc C) (Q:=Q) O hc (mR O nd) ht he I2 T st2 f2 (mQ hW) ?_;intro C D H' s' m IX q hn hC hCL hCz hcc hpc;refine⟨m,hn,λh' hs'=>⟨.ref D,H',?_,rfl,q⟩⟩;exact IX.turned (h':=h') (t':=s'.toks) (λb o hb e=>hs'.extBut b o hb e) hC (Ne.symm hCL).symm (.inr hCz) hcc hpc
end
section
variable {X:Cx}
def fh{x y:Str}{px py:Pos}{ifs:List Expr}{scope:Scope}{cl:List (Str×xS)}{pos spos:Pos}{M:xp}{ix:xq}{wi:TI}{tt:TT}{te:TE}{j:Nat}
 (hN:X.N.Nodup) (hj:X.N[j]?=some y) (hy:X.env.scope.names.lookup y=some .local)
 (O:CompOk X x M ix scope cl) (hc:X.calm=true) (nd:(x::M).Nodup) (hi:PI X (.Name x px) xC wi)
 (ht:∀C xt fp s H,PTs (Yj X x M scope cl C xt fp s H) ifs tt) (he:∀C xt fp s H,PE (Yj X x M scope cl C xt fp s H) elt te)
 (hsw:swapsWith (.ListComp elt [⟨.Name x px,xC,ifs,0⟩] scope pos) (some (.Name y py)) spos.line X.env=pure true:=by rfl) (hs:∀x,foldedSetIterable xC X.env x=pure x:=by intro _;rfl) :
 PS X (.Assign [.Name y py] (.ListComp elt [⟨.Name x px,xC,ifs,0⟩] scope pos) spos) (QH (Qv ix wi tt te) (Jh j)):=by
 intro xt s σ H D I h;rw[exec_Assign_Name_used _ _ _ _ hsw];refine q8 (wpAny_standAt (q8 ?_));show wpAny _ X.A (do let _ <- comprehension (.ListComp elt [⟨.Name x px,xC,ifs,0⟩] scope pos) scope X.env _ (newList []) false (eval xC X.env) (some (assign (.Name y py) X.env))) _ _ s
 refine q8 (qq (wpAny_comprehension_free (use:=some (assign (.Name y py) X.env)) (Q:=λ_ s'=>SP X xt D .next s') rfl hs O.clos O.kind O.names
  (thn (hi xt s σ H _ I h) λxv s₁ h₁=>thn h₁ λitv s₂ ⟨it,fp,tn,J,H2,e,I2,T,st2,f2,hW⟩=>?_)) (λ_ s' hq=>qf (qf hq)) λ_ _ e=>e)
 subst e;refine eZ (RR:=λacc C=>compPost (model X.prog X.w) X.A X.xe (some (assign (.Name y py) X.env)) (λ_ s'=>SP X xt D .next s') acc C) (Q:=λv H'=>D.nx (σ.set j (some v)) H') O hc (mR O nd) ht he I2 T st2 f2 (mQ (Q:=λv H'=>D.nx (σ.set j (some v)) H') hW) ?_;intro C Da H' s' m IX q hn hC hCL hCz hcc hpc;show wpAny _ X.A (assign (.Name y py) X.env (.ref Da)) _ _ _;refine wpAny_assign_Name (lA (v := .ref Da) IX hN hj (.inl hy) rfl (λs'' I'' ⟨a,sb,ha⟩=>?_) (.inr hy))
 have hCa:C≠a:=by
  rcases ha with z|z
  . rw[z];exact hCL
  . exact λw=>hcc _ _ z w.symm
 refine⟨m,hn.at' λo e=>sb.extBut C o hCa e,λh' hs'=>⟨_,H',?_,q⟩⟩;exact I''.turned (h':=h') (t':=s''.toks) (λb o hb e=>hs'.extBut b o hb e) hC hCL (.inr hCz) hcc hpc
def AllL{α:Type}(P:α->Prop):List α->Prop
 | []=>True
 |a::r=>P a/\AllL P r
theorem AllL.mem{α:Type}{P:α->Prop}:∀{l:List α},AllL P l->∀a∈l,P a
 |_::_,h,_,.head _=>h.1
 |_::_,h,a,.tail _ m=>AllL.mem h.2 a m
def capOk(X:Cx)(scope:Scope)(cl:List (Str×xS)):xp->xq->Prop
 |y::M,j::ix=>(X.N[j]?=some y/\X.env.scope.names.lookup y=some .cell/\(relabel scope X.env).names.lookup y=some .cell/\(cl.lookup y).isSome=true)/\capOk X scope cl M ix
 | [],[]=>True
 |_,_=>False
theorem capOk.len:∀{M:xp}{ix:xq},capOk X scope cl M ix->ix.length=M.length
 | [],[],_=>rfl
 |_::_,_::_,h=>qG Nat.succ (capOk.len h.2)
 | [],_::_,h=>h.elim
 |_::_,[],h=>h.elim
theorem capOk.at:∀{M:xp}{ix:xq},capOk X scope cl M ix->∀(i:Nat) (y:Str) (j:Nat),M[i]?=some y->ix[i]?=some j ->
 (X.N[j]?=some y/\X.env.scope.names.lookup y=some .cell/\(relabel scope X.env).names.lookup y=some .cell/\(cl.lookup y).isSome=true)
 | [],[],_,_,_,_,e,_=>by simp at e
 |_::_,_::_,h,0,_,_,e1,e2=>by simp at e1 e2;subst e1 e2;exact h.1
 |_::_,_::_,h,i+1,y,j,e1,e2=>capOk.at h.2 i y j (by simpa using e1) (by simpa using e2)
 | [],_::_,h,_,_,_,_,_=>h.elim
 |_::_,[],h,_,_,_,_,_=>h.elim
def wN(names:List (Str×NameKind))(cl:List (Str×xS)):Bool:=names.all λp => !(p.2==.cell||p.2==.free)||(cl.lookup p.1).isSome
theorem CompOk.of(clos:closureFor scope X.env=pure cl)(kind:scope.kind=.function)
 (names:∀y∈scope.names,y.2=.local->scope.names.lookup y.1=some .local) (nocell:∀y∈scope.names,y.2 ≠ .cell) (loc:scope.names.lookup x=some .local)
 (sub:AllL (λp=>X.env.cells.lookup p.1=some p.2) cl) (has:wN (relabel scope X.env).names cl=true) (cap:capOk X scope cl M ix):CompOk X x M ix scope cl where
 clos:=clos
 kind:=kind
 names:=names
 nocell:=nocell
 loc:=loc
 sub:=λy c h=>sub.mem _ (PySem.mem_of_lookup h)
 has:=λy h=>by
  have h':(relabel scope X.env).names.lookup y=some .cell\/(relabel scope X.env).names.lookup y=some .free:=h
  have q:∀k,(k=NameKind.cell\/k=NameKind.free)->(relabel scope X.env).names.lookup y=some k->∃c,cl.lookup y=some c:=λk hk e=>by
   have:=List.all_eq_true.mp has _ (PySem.mem_of_lookup e);have hk':(!(k==NameKind.cell||k==NameKind.free))=false:=by rcases hk with rfl|rfl<;>rfl
   simp only[hk',Bool.false_or]at this;exact jt.mp this
  rcases h' with e|e
  . exact q _ (.inl rfl) e
  . exact q _ (.inr rfl) e
 len:=cap.len
 cap:=λi y j e1 e2=>by
  obtain⟨h1,h2,h3,h4⟩:=cap.at i y j e1 e2;obtain⟨c,hc⟩:=jt.mp h4;exact⟨h1,.inr (.inl h2),c,hc,.inl h3,by rw[show X.env.kindOf y=X.env.scope.names.lookup y from rfl,h2];decide⟩
end
inductive D where
 |non|bl (b:Bool)|int (i:Int)|str (x:Str)|tup (ds:List D)|lst (ds:List D)
mutual
def IsD(K:xh)(H:Hp):D->V->Prop
 |.non,x=>x=.non
 |.bl b,x=>x=.bl b
 |.int i,x=>x=.int i
 |.str z,x=>x=.str z
 |.tup ds,x=>∃a xs,x=.ref a/\SqT K H a xs/\IsDs K H ds xs
 |.lst ds,x=>∃a xs,x=.ref a/\SqL K H a xs/\IsDs K H ds xs
def IsDs(K:xh)(H:Hp):List D->List V->Prop
 | [],xs=>xs=[]
 |d::ds,xs=>∃x r,xs=x::r/\IsD K H d x/\IsDs K H ds r
end
mutual
def D.deep:D->Nat
 |.tup ds=>D.deeps ds+1
 |.lst ds=>D.deeps ds+1
 |_=>0
def D.deeps:List D->Nat
 | []=>0
 |d::ds=>max d.deep (D.deeps ds)
end
def Same.tupq{K:xh}{H H':Hp}{a:xS}{xs:List V}(e:Same H H')(h:SqT K H a xs):SqT K H' a xs:=by
 rcases h with (h|⟨o,h⟩)|h
 . exact .inl (.inl (e _ _ h))
 . exact .inl (.inr ⟨o,e _ _ h⟩)
 . exact .inr h
mutual
theorem IsD.same{K:xh}{H H':Hp}(e:Same H H'):∀{d:D}{x:V},IsD K H d x->IsD K H' d x
 |.non,_,h=>h
 |.bl _,_,h=>h
 |.int _,_,h=>h
 |.str _,_,h=>h
 |.tup _,_,⟨a,xs,h1,h2,h3⟩=>⟨a,xs,h1,e.tupq h2,IsDs.same e h3⟩
 |.lst _,_,⟨a,xs,h1,h2,h3⟩=>⟨a,xs,h1,e.seq h2,IsDs.same e h3⟩
theorem IsDs.same{K:xh}{H H':Hp}(e:Same H H'):∀{ds:List D}{xs:List V},IsDs K H ds xs->IsDs K H' ds xs
 | [],_,h=>h
 |_::_,_,⟨x,r,h1,h2,h3⟩=>⟨x,r,h1,IsD.same e h2,IsDs.same e h3⟩
end
theorem IsDs.length{K:xh}{H:Hp}:∀{ds:List D}{xs:List V},IsDs K H ds xs->'h'=ds.length
 | [],_,h=>by
  have h':_=[]:=h;rw[h'];rfl
 |_::_,_,⟨x,r,h1,_,h3⟩=>by rw[h1];exact qG Nat.succ (IsDs.length h3)
theorem IsDs.get{K:xh}{H:Hp}:∀{ds:List D}{xs:List V}{i:Nat}{d:D},IsDs K H ds xs->ds[i]?=some d->∃x,xs[i]?=some x/\IsD K H d x
 | [],_,_,_,_,e=>by simp at e
 |_::_,_,0,_,⟨x,r,h1,h2,_⟩,e=>by
  simp at e;subst e h1;exact⟨x,rfl,h2⟩
 |_::_,_,i+1,_,⟨x,r,h1,_,h3⟩,e=>by
  obtain⟨y,e1,e2⟩:=IsDs.get (i:=i) h3 (by simpa using e);subst h1;exact⟨y,by simpa using e1,e2⟩
theorem IsDs.append{K:xh}{H:Hp}:∀{ds es:List D}{xs ys:List V},IsDs K H ds xs->IsDs K H es ys->IsDs K H (ds++es) (xs++ys)
 | [],_,_,_,h,h'=>by
  have:_=[]:=h;subst this;exact h'
 |_::_,_,_,_,⟨x,r,h1,h2,h3⟩,h'=>by subst h1;exact⟨x,_,rfl,h2,IsDs.append h3 h'⟩
section
variable {X:Cx}{xt:xg}{σ:St}{H:Hp}{s:xR}
def aG(n:Nat):(List.range n).all (λ_=>true)=true:=by simp
def Yk(A:xV):A.in1.units=A.units+1:=rfl
mutual
theorem wO(I:Inv X xt σ H s):∀(d:D) {A:xV}{x y:V}{u v:xQ},IsD X.K H d x->IsD X.K H d y->RelV x u->RelV y v->A.units+d.deep<cLine->SeqAt.EqAt A s u v true
 |.non,_,_,_,_,_,hx,hy,rx,ry,_=>by
  have hx':_=V.non:=hx;have hy':_=V.non:=hy;subst hx' hy';cases rx;cases ry;exact SeqAt.EqAt.same _
 |.bl b,_,_,_,_,_,hx,hy,rx,ry,_=>by
  have hx':_=V.bl b:=hx;have hy':_=V.bl b:=hy;subst hx' hy';cases rx;cases ry;exact SeqAt.EqAt.same _
 |.int i,A,_,_,_,_,hx,hy,rx,ry,_=>by
  have hx':_=V.int i:=hx;have hy':_=V.int i:=hy;subst hx' hy';obtain⟨t,rfl⟩:=rx;obtain⟨t',rfl⟩:=ry;have:=SeqAt.EqAt.int_int (A:=A) (s:=s) i t i t'
  rwa [beq_self_eq_true]at this
 |.str z,A,_,_,_,_,hx,hy,rx,ry,_=>by
  have hx':_=V.str z:=hx;have hy':_=V.str z:=hy;subst hx' hy';obtain⟨t,rfl⟩:=rx;obtain⟨t',rfl⟩:=ry;have:=SeqAt.EqAt.str_str (A:=A) (s:=s) z t z t'
  rwa [beq_self_eq_true]at this
 |.tup ds,A,_,_,_,_,⟨a,xs,hx,qx,dx⟩,⟨b,ys,hy,qy,dy⟩,rx,ry,hu=>by
  subst hx hy
  cases rx;cases ry
  by_cases e:a=b
  . subst e;exact SeqAt.EqAt.same _
  . have hu':A.units + (D.deeps ds + 1) < cLine:=hu;obtain⟨its,r1,t1,_⟩:=I.tuple qx;obtain⟨jts,r2,t2,_⟩:=I.tuple qy
    have:=SeqAt.RcAt.tuples (A:=A) (e:=λ_=>true) t1 t2 'c' λj h1 h2=>by
     have q:=Yl I ds (A:=A.in1) dx dy r1 r2 (by rw[Yk];omega) j (by simpa using h1) (by simpa using h2);simpa using q
    have l1:=r1.length;have l2:=r2.length;have l3:=dx.length;have l4:=dy.length;have sz:(its.toArray.size==jts.toArray.size)=true:=by rw[jK,jK,beq_iff_eq];omega
    rw[aG,sz]at this;exact SeqAt.EqAt.of_refs e this
 |.lst ds,A,_,_,_,_,⟨a,xs,hx,qx,dx⟩,⟨b,ys,hy,qy,dy⟩,rx,ry,hu=>by
  subst hx hy
  cases rx;cases ry
  by_cases e:a=b
  . subst e;exact SeqAt.EqAt.same _
  . have hu':A.units + (D.deeps ds + 1) < cLine:=hu;obtain⟨its,r1,t1,_⟩:=I.list qx;obtain⟨jts,r2,t2,_⟩:=I.list qy;have l1:=r1.length;have l2:=r2.length;have l3:=dx.length;have l4:=dy.length
    have:=SeqAt.RcAt.lists (A:=A) (e:=λ_=>true) t1.isList t2.isList (by rw[jK,jK];omega) 'c' λj h1 h2=>by
     have q:=Yl I ds (A:=A.in1) dx dy r1 r2 (by rw[Yk];omega) j (by simpa using h1) (by simpa using h2);simpa using q
    rw[aG]at this;exact SeqAt.EqAt.of_refs e this
theorem Yl(I:Inv X xt σ H s):∀(ds:List D) {A:xV}{xs ys:List V}{us vs:xm},IsDs X.K H ds xs->IsDs X.K H ds ys->Vals xs us->Vals ys vs->A.units+D.deeps ds<cLine ->
 ∀(j:Nat) (h1:j<us.length) (h2:j<vs.length),SeqAt.EqAt A s us[j] vs[j] true
 | [],_,_,_,_,_,hx,_,rx,_,_=>λj h1 _=>by
  have hx':_=([]:List V):=hx;subst hx';have:=rx.length;simp at this;omega
 |d::ds,A,_,_,_,_,⟨x,xs,ex,hx,hxs⟩,⟨y,ys,ey,hy,hys⟩,rx,ry,hu=>by
  subst ex ey;have hu':A.units+max d.deep (D.deeps ds)<cLine:=hu
  cases rx with
  |cons r1 t1 =>
   cases ry with
   |cons r2 t2 =>
    intro j h1 h2
    cases j with
    |zero=>exact wO I d hx hy r1 r2 'c'
    |succ j=>exact Yl I ds hxs hys t1 t2 'c' j (by simpa using h1) (by simpa using h2)
end
def mS(X:Cx)(b:Bool):R2:=λx y H Q=>∃d,IsD X.K H d x/\IsD X.K H d y/\(∃a,x=.ref a)/\X.A.units+d.deep<cLine/\Q (.bl b) H
def mT(I:Inv X xt σ H s)(hx:IsD X.K H d (.ref a))(hy:IsD X.K H d y)(ry:RelV y v)(hu:A.units+d.deep<cLine) :
 SeqAt.RcAt A s (.ref a) v true/\SeqAt.RcNeAt A s (.ref a) v false:=by
 cases d with
 |non=>exact absurd (show V.ref a=V.non from hx) (λz=>nomatch z)
 |bl b=>exact absurd (show V.ref a=V.bl b from hx) (λz=>nomatch z)
 |int b=>exact absurd (show V.ref a=V.int b from hx) (λz=>nomatch z)
 |str b=>exact absurd (show V.ref a=V.str b from hx) (λz=>nomatch z)
 |tup ds =>
  obtain⟨a',xs,ex,qx,dx⟩:=hx
  cases ex
  obtain⟨b,ys,ey,qy,dy⟩:=hy;subst ey;cases ry;have hu':A.units+(D.deeps ds+1)<cLine:=hu;obtain⟨its,r1,t1,_⟩:=I.tuple qx;obtain⟨jts,r2,t2,_⟩:=I.tuple qy;have l1:=r1.length;have l2:=r2.length;have l3:=dx.length;have l4:=dy.length;have sz:(its.toArray.size==jts.toArray.size)=true:=by rw[jK,jK,beq_iff_eq];omega
  have he:∀j (h1:j<its.toArray.size) (h2:j<jts.toArray.size),SeqAt.EqAt A.in1 s its.toArray[j] jts.toArray[j] true:=λj h1 h2=>by
   have q:=Yl I ds (A:=A.in1) dx dy r1 r2 (by rw[Yk];omega) j (by simpa using h1) (by simpa using h2);simpa using q
  have q1:=SeqAt.RcAt.tuples (A:=A) (e:=λ_=>true) t1 t2 'c' he;have q2:=SeqAt.RcNeAt.tuples (A:=A) (e:=λ_=>true) t1 t2 'c' he;rw[aG,sz]at q1 q2;exact⟨q1,q2⟩
 |lst ds =>
  obtain⟨a',xs,ex,qx,dx⟩:=hx
  cases ex
  obtain⟨b,ys,ey,qy,dy⟩:=hy;subst ey;cases ry;have hu':A.units+(D.deeps ds+1)<cLine:=hu;obtain⟨its,r1,t1,_⟩:=I.list qx;obtain⟨jts,r2,t2,_⟩:=I.list qy;have l1:=r1.length;have l2:=r2.length;have l3:=dx.length;have l4:=dy.length;have sz:its.toArray.size=jts.toArray.size:=by rw[jK,jK];omega
  have he:∀j (h1:j<its.toArray.size) (h2:j<jts.toArray.size),SeqAt.EqAt A.in1 s its.toArray[j] jts.toArray[j] true:=λj h1 h2=>by
   have q:=Yl I ds (A:=A.in1) dx dy r1 r2 (by rw[Yk];omega) j (by simpa using h1) (by simpa using h2);simpa using q
  have q1:=SeqAt.RcAt.lists (A:=A) (e:=λ_=>true) t1.isList t2.isList sz 'c' he;have q2:=SeqAt.RcNeAt.lists (A:=A) (e:=λ_=>true) t1.isList t2.isList sz 'c' he;rw[aG]at q1 q2;exact⟨q1,q2⟩
def wP:OpR X (compareOp .Eq) (mS X true):=by
 intro xt s σ H x y v u Q I rx ry h;obtain⟨d,hx,hy,⟨a,rfl⟩,hu,q⟩:=h
 cases rx
 exact(mT I hx hy ry hu).1 _ _ _ _ ⟨.bl true,H,I,rfl,q⟩
def wQ:OpR X (compareOp .NotEq) (mS X false):=by
 intro xt s σ H x y v u Q I rx ry h;obtain⟨d,hx,hy,⟨a,rfl⟩,hu,q⟩:=h
 cases rx
 exact(mT I hx hy ry hu).2 _ _ _ _ ⟨.bl false,H,I,rfl,q⟩
end
mutual
def D.noL:D->Bool
 |.lst _=>false
 |.tup ds=>D.noLs ds
 |_=>true
def D.noLs:List D->Bool
 | []=>true
 |d::ds=>d.noL&&D.noLs ds
end
def SqT.updL{K:xh}{H:Hp}{a b:xS}{xs ys zs:List V}(e:H b=some (.lst ys))(h:SqT K H a xs):SqT K (upd H b (.lst zs)) a xs:=by
 rcases h with (h|⟨o,h⟩)|h
 . exact .inl (.inl (by rw[xZ (Qs h e (λz=>nomatch z))];exact h))
 . exact .inl (.inr ⟨o,by rw[xZ (Qs h e (λz=>nomatch z))];exact h⟩)
 . exact .inr h
mutual
theorem IsD.updL{K:xh}{H:Hp}{b:xS}{ys zs:List V}(e:H b=some (.lst ys)):∀{d:D}{x:V},d.noL=true->IsD K H d x->IsD K (upd H b (.lst zs)) d x
 |.non,_,_,h=>h
 |.bl _,_,_,h=>h
 |.int _,_,_,h=>h
 |.str _,_,_,h=>h
 |.tup _,_,n,⟨a,xs,h1,h2,h3⟩=>⟨a,xs,h1,h2.updL e,IsDs.updL e n h3⟩
 |.lst _,_,n,_=>nomatch n
theorem IsDs.updL{K:xh}{H:Hp}{b:xS}{ys zs:List V}(e:H b=some (.lst ys)):∀{ds:List D}{xs:List V},D.noLs ds=true->IsDs K H ds xs->IsDs K (upd H b (.lst zs)) ds xs
 | [],_,_,h=>h
 |d::ds,_,n,⟨x,r,h1,h2,h3⟩=>by
  have n':(d.noL&&D.noLs ds)=true:=n;rw[kH]at n';exact⟨x,r,h1,IsD.updL e n'.1 h2,IsDs.updL e n'.2 h3⟩
end
theorem Zv:∀{ds:List D},(∀d∈ds,d.noL=true)->D.noLs ds=true
 | [],_=>rfl
 |d::ds,h=>by
  show(d.noL&&D.noLs ds)=true;rw[h d (jO ..),Zv λe he=>h e (jN _ he)];rfl
theorem fj:∀{ds:List D},D.noLs ds=true->∀d∈ds,d.noL=true
 |d::ds,h,e,he=>by
  have h':(d.noL&&D.noLs ds)=true:=h;rw[kH]at h';rcases jJ.mp he with rfl|he
  . exact h'.1
  . exact fj h'.2 e he
def J6(h:H p=none)(o:HO):Same H (upd H p o):=λb u q=>by rw[xZ (Jp q h)];exact q
def XY(h:H p=none)(e:Same H H'):Same H (upd H' p o):=λb u q=>by rw[xZ (Jp q h)];exact e b u q
def Q5(ix:xq)(te:TE)(σ:St)(Q:VK):It->Hp->Prop:=λJ H1=>∀D,H1 D=none->∃W:Nat->Nat->Hp->Prop,(∃m,W 0 m (upd H1 D (.lst []))) /\
 ∀i m H,W i m H->(J.stop i H/\Q (.ref D) H)\/(J.go i H/\∀x H',J.yld i H x H'->Q7 (some x::cap ix σ) H' λb H2 =>
  if b=true then te (some x::cap ix σ) H2 λy H3=>∃ys,H3 D=some (.lst ys)/\ys.length<sizeLine/\∃m',m'<m/\W (i+1) m' (upd H3 D (.lst (ys++[y]))) else ∃m',m'<m/\W (i+1) m' H2)
def nxt{D:Ends}(h:D.nx σ H):lH D σ H:=h
def aH{ix:xq}{wi:TI}{te:TE}{g:TG}{u:TS}{D:Ends}(h:wi σ H (Q5 ix te σ λx H1=>g x σ H1 (u D))):QS (QH (Qv ix wi Q7 te) g) u D σ H:=h
def wR(h:wi σ H (Q5 ix te σ Q)):Qv ix wi Q7 te σ H Q:=h
def fk{K:xh}{J:It}{ix:xq}{te:TE}{σ:St}{H:Hp}{Q:VK}(n:Nat)(xs:Nat->V)(fs:List D)(hn:fs.length=n)(hz:n<=sizeLine)(hf:D.noLs fs=true)
 (hstop:∀H',Same H H'->J.stop n H') (hgo:∀i H',i<n->Same H H'->J.go i H'/\∀x xw,J.yld i H' x xw->x=xs i/\xw=H')
 (step:∀(i:Nat) (d:D) (H':Hp) (R:VK),i<n->fs[i]?=some d->Same H H'->(∀y xw,Same H' xw->IsD K xw d y->R y xw)->te (some (xs i)::cap ix σ) H' R)
 (fin:∀p H' ys,Same H H'->H' p=some (.lst ys)->IsDs K H' fs ys->Q (.ref p) H') :
 Q5 ix te σ Q J H:=by
 intro Da hD;refine⟨λi m H'=>m=n - i/\i<=n/\Same H H'/\∃ys,H' Da=some (.lst ys)/\IsDs K H' (fs.take i) ys,⟨n,by simp,jT _,J6 hD _,[],J1,rfl⟩,?_⟩;rintro i m H' ⟨rfl,hi,sm,ys,eD,dys⟩
 by_cases hlt:i<n
 . obtain⟨g,y⟩:=hgo i H' hlt sm;refine .inr ⟨g,λx xw hy=>?_⟩;obtain⟨rfl,rfl⟩:=y x xw hy;show te (some (xs i) :: cap ix σ) xw _;have hi':i < fs.length:=by omega
   refine step i fs[i] xw _ hlt (jB hi') sm λy H3 sm3 dy=>?_;have e3:H3 Da=some (.lst ys):=sm3 _ _ eD;have ly:=dys.length;rw[jW]at ly;refine⟨ys,e3,by omega,n - (i+1),by omega,rfl,hlt,XY hD (sm.trans sm3),ys++[y],J1,?_⟩;have nt:D.noLs (fs.take (i+1))=true:=Zv λd hd=>fj hf d (jj hd);refine IsDs.updL e3 nt ?_;rw[ja hi'];exact(dys.same sm3).append ⟨y,[],rfl,dy,rfl⟩
 . have e:i=n:=by omega
   subst e;have:fs.take i=fs:=j4 'c';rw[this]at dys;exact .inl ⟨hstop H' sm,fin Da H' ys sm eD dys⟩
def fm{K:xh}{a:xS}{xs:List V}{ix:xq}{te:TE}{σ:St}{H:Hp}{Q:VK}(fs:List D)(hS:SqL K H a xs)(hn:fs.length='h')(hz:'h'<=sizeLine)(hf:D.noLs fs=true)
 (step:∀(i:Nat) (x:V) (d:D) (H':Hp) (R:VK),xs[i]?=some x->fs[i]?=some d->Same H H'->(∀y xw,Same H' xw->IsD K xw d y->R y xw)->te (some x::cap ix σ) H' R)
 (fin:∀p H' ys,Same H H'->H' p=some (.lst ys)->IsDs K H' fs ys->Q (.ref p) H') :
 Q5 ix te σ Q (Itl K a) H:=by
 refine fk (K:=K) 'h' (λi=>xs.getD i .non) fs hn hz hf (λH' sm=>⟨xs,sm.seq hS,jE _⟩) (λi H' hi sm=>⟨⟨xs,xs[i],sm.seq hS,jB hi⟩,λx xw hy=>?_⟩) (λi d H' R hi hd sm hR=>?_) fin
 . obtain⟨e,y⟩:=hy;refine⟨?_,e⟩;have:=y xs (sm.seq hS);rw[jL,this];rfl
 . have e:xs[i]? = some (xs.getD i .non):=by rw[jL,jB hi];rfl
   exact step i _ d H' R e hd sm hR
def mU{K:xh}{a:xS}{xs:List V}{ix:xq}{te:TE}{σ:St}{H:Hp}{Q:VK}(fs:List D)(hS:SqL K H a xs)(hn:fs.length='h')(hz:'h'<=sizeLine)(hf:D.noLs fs=true)
 (step:∀(i:Nat) (x:V) (d:D) (H':Hp) (R:VK),xs[i]?=some x->fs[i]?=some d->Same H H'->(∀y xw,Same H' xw->IsD K xw d y->R y xw)->te (some x::cap ix σ) H' R)
 (fin:∀p H',Same H H'->IsD K H' (.lst fs) (.ref p)->Q (.ref p) H') :
 Q5 ix te σ Q (Itl K a) H:=fm fs hS hn hz hf step λp H' ys sm hd hy=>fin p H' sm ⟨p,ys,rfl,.of hd,hy⟩
def wS{K:xh}{lo:Int}{n:Nat}{ix:xq}{te:TE}{σ:St}{H:Hp}{Q:VK}(fs:List D)(hn:fs.length=n)(hz:n<=sizeLine)(hf:D.noLs fs=true)
 (step:∀(i:Nat) (d:D) (H':Hp) (R:VK),i<n->fs[i]?=some d->Same H H'->(∀y xw,Same H' xw->IsD K xw d y->R y xw)->te (some (.int (lo+i))::cap ix σ) H' R)
 (fin:∀p H',Same H H'->IsD K H' (.lst fs) (.ref p)->Q (.ref p) H') :
 Q5 ix te σ Q (Itr lo n) H:=by
 refine fk (K:=K) n (λi => .int (lo+i)) fs hn hz hf (λH' sm=>jE _) (λi H' hi sm=>⟨hi,λx xw hy=>⟨hy.2,hy.1⟩⟩) step λp H' ys sm hd hy=>fin p H' sm ⟨p,ys,rfl,.of hd,hy⟩
def Ym{K:xh}{a:xS}{xs:List V}{ix:xq}{te:TE}{σ:St}{H:Hp}{Q:VK}(fs:List D)(hS:SqT K H a xs)(hn:fs.length='h')(hz:'h'<=sizeLine)(hf:D.noLs fs=true)
 (step:∀(i:Nat) (x:V) (d:D) (H':Hp) (R:VK),xs[i]?=some x->fs[i]?=some d->Same H H'->(∀y xw,Same H' xw->IsD K xw d y->R y xw)->te (some x::cap ix σ) H' R)
 (fin:∀p H' ys,Same H H'->H' p=some (.lst ys)->IsDs K H' fs ys->Q (.ref p) H'):Q5 ix te σ Q (Itt K a) H:=by
 refine fk (K:=K) 'h' (λi=>xs.getD i .non) fs hn hz hf (λH' sm=>⟨xs,sm.tupq hS,jE _⟩) (λi H' hi sm=>⟨⟨xs,xs[i],sm.tupq hS,jB hi⟩,λx xw hy=>?_⟩) (λi d H' R hi hd sm hR=>?_) fin
 . obtain⟨e,y⟩:=hy;refine⟨?_,e⟩;have z:=y xs (sm.tupq hS);rw[jL,z];rfl
 . have e:xs[i]? = some (xs.getD i .non):=by rw[jL,jB hi];rfl
   exact step i _ d H' R e hd sm hR
def wT(h:wi σ H (Q5 ix te σ λx H1=>tr σ H1 λxs H2=>Q (x::xs) H2)):JF (Qv ix wi Q7 te) tr σ H Q:=h
theorem QX{K:xh}{H:Hp}:∀{ns:xr}{ys:List V},IsDs K H (ns.map D.int) ys->ys=ns.map V.int
 | [],_,h=>h
 |n::ns,_,⟨x,r,h1,h2,h3⟩=>by
  have h2':x=V.int n:=h2;rw[h1,h2',QX (ns:=ns) h3];rfl
def Xd(ns:xr):D.noLs (ns.map D.int)=true:=Zv λd hd=>by
 obtain⟨n,_,rfl⟩:=jG.mp hd;rfl
section
variable {X:Cx}
def XZ(K:xh)(hK:X.K=K):CallR X (.builtin "len") (λxs H Q=>∃x n,xs=[x]/\eJ K x H n/\Q (.int n) H):=hK ▸ vd
def J3(K:xh)(hK:X.K=K):IxR X (rIx K):=hK ▸ vU
def Xw(K:xh)(hK:X.K=K):SlR X (mE K):=hK ▸ vX
def Xx(K:xh)(hK:X.K=K):SlR X (mv K):=hK ▸ mw
def JK(K:xh)(hK:X.K=K):OpR X (binaryOp .Add) (mx K):=hK ▸ my
def wU(K:xh)(hK:X.K=K):OpR X (compareOp .In) (rIn K false):=hK ▸ vZ
def mV(K:xh)(hK:X.K=K):OpR X (compareOp .NotIn) (rIn K true):=hK ▸ w4
def mW(K:xh)(hK:X.K=K):CallR X (.type "list") (λxs H Q=>∃p ys,xs=[.ref p]/\(SqL K H p ys\/SqT K H p ys)/\∀l,H l=none->Q (.ref l) (upd H l (.lst ys))):=hK ▸ w8
def Zw(K:xh)(hK:X.K=K):CallR X (.type "tuple") (λxs H Q=>∃p ys,xs=[.ref p]/\((SqL K H p ys/\∀l,H l=none->Q (.ref l) (upd H l (.tup ys)))\/(SqT K H p ys/\Q (.ref p) H))):=hK ▸ wb
def mX(K:xh)(hK:X.K=K):CallR X (.builtin "isinstance") (λxs H Q=>∃x c t b,xs=[x,c]/\isC c=true/\TyD K H x t/\PySem.W.kitOne K t (aE c)=some b/\Q (.bl b) H):=hK ▸ wI
def mY(K:xh)(b:Bool):R2:=λx y H Q=>∃d,IsD K H d x/\IsD K H d y/\(∃a,x=.ref a)/\d.deep<=60/\Q (.bl b) H
def Jn(K:xh)(hK:X.K=K)(hu:X.A.units+64<cLine):OpR X (compareOp .Eq) (mY K true):=by
 subst hK;intro xt s σ H x y v u Q I rx ry h;obtain⟨d,hx,hy,ha,hd,q⟩:=h;exact wP xt s σ H x y v u Q I rx ry ⟨d,hx,hy,ha,by omega,q⟩
def Ql(K:xh)(hK:X.K=K)(hu:X.A.units+64<cLine):OpR X (compareOp .NotEq) (mY K false):=by
 subst hK;intro xt s σ H x y v u Q I rx ry h;obtain⟨d,hx,hy,ha,hd,q⟩:=h;exact wQ xt s σ H x y v u Q I rx ry ⟨d,hx,hy,ha,by omega,q⟩
end
end L2
namespace L2
open PySem PySem.W PySem.Calls PyProof.Rows
def ll{Xt:xR->Bool}{α:Type}{Yf:xR->α}{Ya:xU->α}(e:opening p=plainProg p.main.scope.names)(hN:Nat.ble 600 N=true)(f:∀s,fenceModules? p s=some s)
 (h:∀(w:xU) (os:OsState),(topRun treeTable p w 11 (some (.ref 6)) N ⟨boot_heap w.params,Array.mk [],boot_drawn,boot_toks,os⟩ (topStub p)).map (λs =>
  ((staticsOk (importedModules p.main.body) (boot_heap w.params) s.heap&&namesBound p s.heap&&gensDone s&&laidKept (boot_heap w.params) s.heap),openSeen q loose (importedModules p.main.body) Xt true s,Yf s))=some (true,openGood q loose,Ya w)):LeftO p q loose Xt Yf Ya N:=λw=>by
 obtain⟨⟨hp,gs,d,k,os⟩,e1,e2⟩:=jf.mp (boot_open e hN f w);simp only[Prod.mk.injEq]at e2;obtain⟨rfl,rfl,rfl,rfl⟩:=e2;have size:((boot_heap w.params).isNs mainGlobals&&(Array.mk ([]:List GenState)).size==0)=true/\(boot_heap w.params).objs.size=11/\(boot_heap w.params).nsMap mainGlobals "__annotations__" = some (.ref 6):=⟨by kernel_rfl,by kernel_rfl,by kernel_rfl⟩;obtain⟨z1,z2,z3⟩:=size;obtain⟨s,r,l⟩:=jf.mp (h w os);simp only[Prod.mk.injEq]at l;obtain⟨l1,l2,l3⟩:=l
 have t:topFrom treeTable p w N ⟨boot_heap w.params,Array.mk [],boot_drawn,boot_toks,os⟩=some s:=by
  unfold topFrom;dsimp only;rw[z1,z2,z3,r];show(match staticsOk (importedModules p.main.body) (boot_heap w.params) s.heap&&namesBound p s.heap&&gensDone s&&laidKept (boot_heap w.params) s.heap with|true=>_|false=>_)=_;rw[l1]
 unfold openEnds;rw[e1];show(topFrom treeTable p w N _).map _=_;rw[t];exact qG some (Prod.ext l2 l3)
end L2
namespace L2
open PySem PySem.Spec PyProof.Rows
section
variable {X:Cx}
def mZ(hu:X.A.units+1<cLine):OpR X (compareOp .In) (λx y H Q=>∃a o,y=.ref a/\DGet H a x o/\Q (.bl o.isSome) H):=by
 intro xt s σ H x y v u Q I rx ry h;obtain⟨a,o,rfl,g,q⟩:=h
 cases ry
 exact wu hu I g rx λs' I'=>⟨.bl _,H,I',rfl,q⟩
end
def wV(ix:xq)(tt:TT)(te:TE)(σ:St)(Q:VK):It->Hp->Prop:=λJ H1=>∀D,H1 D=none->∃W:Nat->Nat->Hp->Prop,(∃m,W 0 m (upd H1 D (.lst []))) /\
 ∀i m H,W i m H->(J.stop i H/\Q (.ref D) H)\/(J.go i H/\∀x H',J.yld i H x H'->tt (some x::cap ix σ) H' λb H2 =>
  if b=true then te (some x::cap ix σ) H2 λy H3=>∃ys,H3 D=some (.lst ys)/\ys.length<sizeLine/\∃m',m'<m/\W (i+1) m' (upd H3 D (.lst (ys++[y]))) else ∃m',m'<m/\W (i+1) m' H2)
theorem aI(n:Str):∀ns:xp,inV (.str n) (ns.map V.str)=decide (n∈ns)
 | []=>rfl
 |m::ns=>by
  have h:=aI n ns;unfold inV at h ⊢;rw[jM,qC,h];have e:eqV (.str m) (.str n)=decide (m=n):=by show(m==n)=_;exact ku ..
  rw[e,Bool.eq_iff_iff];simp only[Bool.or_eq_true,decide_eq_true_eq,jJ];exact⟨λh=>h.elim (λh => .inl h.symm) .inr,λh=>h.elim (λh => .inl h.symm) .inr⟩
def Zx(ns:xp):(ns.map V.str).all QU=true:=by
 rw[List.all_eq_true];intro x hx;obtain⟨n,_,rfl⟩:=jG.mp hx;rfl
section
variable {X:Cx}{a b c d:Expr}{ta tb tc td:TE}{pos:Pos}{x1:_}
abbrev Pl(X:Cx)(e:Expr)(es:List Expr):Prop:=starEach (e::es) X.env=(false,eval e X.env)::starEach es X.env
def aJ(ha:PE X a ta)(hb:PE X b tb)(h1:Pl X a [b])(h2:Pl X b []):PE X (.Tuple [a,b] x1 pos) (Zm (JF ta (JF tb JA))):=Jq (Jb ha (Jb hb xY h2) h1)
def n8(ha:PE X a ta)(hb:PE X b tb)(hc:PE X c tc)(h1:Pl X a [b,c])(h2:Pl X b [c])(h3:Pl X c []):PE X (.Tuple [a,b,c] x1 pos) (Zm (JF ta (JF tb (JF tc JA)))):=Jq (Jb ha (Jb hb (Jb hc xY h3) h2) h1)
def wW:PE X (.List [] pos) (ar JA):=QB xY
def nc(ha:PE X a ta)(h1:Pl X a []):PE X (.List [a] pos) (ar (JF ta JA)):=QB (Jb ha xY h1)
def fo{X:Cx}{i:Nat}{x:Str}{e:Expr}{te:TE}{xO pos:Pos}(hN:X.N.Nodup)(hi:X.N[i]?=some x)(hx:Loc X.env.scope x)(he:PE X e te)(hs:swapsWith e (some (.Name x xO)) pos.line X.env=pure false)(hf:X.fn x=true\/X.env.scope.names.lookup x=some .local) :
 PS X (.Assign [.Name x xO] e pos) (QH te (Jh i)):=Ja hN hi hx he hs hf
end
section
variable {X:Cx}
theorem fq:∀{ss:xp}{vs:xm},Vals (ss.map V.str) vs->StrsAre vs ss
 | [],_,r=>by cases r;exact .nil
 |z::ss,_,r=>by
  rw[jM]at r
  cases r with
  |cons h t =>
   obtain⟨tk,rfl⟩:=h;exact .cons _ _ (fq t)
theorem nh:∀{ss:xp}{vs:xm},StrsAre vs ss->Vals (ss.map V.str) vs
 |_,_,.nil => .nil
 |_,_,.cons _ _ t => .cons ⟨_,rfl⟩ (nh t)
def fB(K:xh)(hK:X.K=K):CallR X (.builtin "sorted") (λxs H Q=>∃(p:xS) (ss:xp),xs=[.ref p]/\SqL K H p (ss.map V.str)/\ss.length<64 /\
 ∀l (ss':xp),H l=none->ss'.Perm ss->sortedS ss'=true->Q (.ref l) (upd H l (.lst (ss'.map V.str)))):=by
 subst hK;intro xt s σ H xs us Q I r h;obtain⟨p,ss,rfl,hS,few,q⟩:=h;obtain⟨u,rfl,rx⟩:=Qc r
 cases rx
 obtain⟨its,rv,pl,hz⟩:=I.list hS;have hl:=rv.length;rw[jA]at hl;refine sorted_strs (vs:=its) (by simpa using pl.isList) (fq rv) 'c' λout ss' b1 b2 b3=>?_;obtain⟨c,hc⟩:=sortedAll_at s.heap its out
 have lz:(ss'.map V.str).length<=sizeLine:=by
  rw[jA,b2.length_eq,qH];omega
 refine⟨.ref ('g'+1),upd H ('g'+1) (.lst (ss'.map V.str)),?_,rfl,q _ ss' (I.hok.fresh (Nat.le_succ _)) b2 b3⟩;exact I.laid (t':=s.toks) (λb o e=>sortedAll_old e) (Nat.le_succ _) (show ObjOk X.prog X.w _ (sortedAll s.heap its out) _ (.lst (ss'.map V.str)) from⟨lz,out.toList,c,nh b1,by simpa using hc⟩)
end
end L2
namespace L2
open PySem PySem.W PyProof.Rows
section
variable {n:Nat}{lt:Nat->Nat->Bool}{cmp:Nat->Nat->(Bool->xR->Prop)->xR->Prop}{Pv:xR->Prop}
structure SOrd (n:Nat) (lt:Nat->Nat->Bool):Prop where
 trans:∀i j k,i<n->j<n->k<n->lt i j=true->lt j k=true->lt i k=true
 conn:∀i j,i<n->j<n->i≠j->lt i j=false->lt j i=true
def Zy(n:Nat)(lt:Nat->Nat->Bool)(cmp:Nat->Nat->(Bool->xR->Prop)->xR->Prop)(Pv:xR->Prop):Prop:=∀i j C s,i<n->j<n->i≠j->Pv s->(∀s',Pv s'->C (lt i j) s')->cmp i j C s
def SPm(n:Nat)(p:Array Nat):Prop:=p.Perm (List.toArray (List.range n))
theorem SPm.size(h:SPm n p):p.size=n:=by
 have:=h.size_eq;simpa using this
def SPm.at(h:SPm n p)(hi:i<n):p[i]?=some (p.getD i 0):=by
 have hs:=h.size;rw[jl 'c'];simp[Array.getD,show i<p.size by omega]
def SPm.inn(h:SPm n p)(hi:i<n):p.getD i 0<n:=by
 have hs:=h.size;have e:=h.at hi;have hm:p.getD i 0∈p:=Array.mem_of_getElem? e;have:=h.mem_iff.mp hm;simpa using this
def SPm.ne(h:SPm n p)(hi:i<n)(hj:j<n)(xF:i≠j):p.getD i 0≠p.getD j 0:=λe=>by
 have hs:=h.size;have nd:p.toList.Nodup:=(show p.toList.Perm (List.range n) from(Array.perm_iff_toList_perm.mp h)).nodup_iff.mpr List.nodup_range;have e1:=h.at hi;have e2:=h.at hj;rw[e]at e1;rw[<- Array.getElem?_toList]at e1 e2;obtain⟨a1,b1⟩:=jF.mp e1;obtain⟨a2,b2⟩:=jF.mp e2;exact xF ((List.getElem_inj nd).mp (b1.trans b2.symm))
def aK{p q:Array Nat}{i j:Nat}(h:p[i]?=q[j]?):p.getD i 0=q.getD j 0:=by
 rw[Array.getD_eq_getD_getElem?,Array.getD_eq_getD_getElem?,h]
def Srt(lt:Nat->Nat->Bool)(p:Array Nat)(m:Nat):Prop:=∀i j,i<j->j<m->lt (p.getD i 0) (p.getD j 0)=true
def Dsc(lt:Nat->Nat->Bool)(p:Array Nat)(m:Nat):Prop:=∀i j,i<j->j<m->lt (p.getD j 0) (p.getD i 0)=true
def Srt.snoc(O:SOrd n lt)(h:SPm n p)(ha:1<=a)(hn:a<n)(s:Srt lt p a)(e:lt (p.getD (a - 1) 0) (p.getD a 0)=true):Srt lt p (a+1):=λi j xF hj=>by
 by_cases hja:j<a
 . exact s i j xF hja
 . have ej:j=a:=by omega
   subst ej
   by_cases hi:i=j - 1
   . rw[hi];exact e
   . exact O.trans _ _ _ (h.inn 'c') (h.inn 'c') (h.inn hn) (s i (j - 1) 'c' 'c') e
def Dsc.snoc(O:SOrd n lt)(h:SPm n p)(ha:1<=a)(hn:a<n)(s:Dsc lt p a)(e:lt (p.getD a 0) (p.getD (a - 1) 0)=true):Dsc lt p (a+1):=λi j xF hj=>by
 by_cases hja:j<a
 . exact s i j xF hja
 . have ej:j=a:=by omega
   subst ej
   by_cases hi:i=j - 1
   . rw[hi];exact e
   . exact O.trans _ _ _ (h.inn hn) (h.inn 'c') (h.inn 'c') e (s i (j - 1) 'c' 'c')
theorem fC(O:SOrd n lt)(hc:Zy n lt cmp Pv){p:Array Nat}(h:SPm n p):∀(f a:Nat) (Q:Nat->xR->Prop) (s:xR),1<=a->a+f<=n->Srt lt p a->Pv s ->
 (∀m s',Pv s'->a<=m->m<=a+f->Srt lt p m->(m<a+f->lt (p.getD m 0) (p.getD (m - 1) 0)=true)->Q m s')->(kas_asc p f a).kasWp cmp Q s
 |0,a,Q,s,ha,hf,hs,hp,k=>k a s hp (jE _) (jE _) hs λz=>absurd z 'c'
 |f+1,a,Q,s,ha,hf,hs,hp,k=>by
  refine hc _ _ _ s (h.inn 'c') (h.inn 'c') (h.ne 'c' 'c' 'c') hp λs' hp'=>?_
  cases e:lt (p.getD a 0) (p.getD (a - 1) 0) with
  |true =>
   show KasT.kasWp cmp (if true=true then .ret a else kas_asc p f (a+1)) Q s';rw[qh rfl];exact k a s' hp' (jE _) 'c' hs λ_=>e
  |false =>
   show KasT.kasWp cmp (if false=true then .ret a else kas_asc p f (a+1)) Q s';rw[qg 'd'];have e':=O.conn _ _ (h.inn 'c') (h.inn 'c') (h.ne 'c' 'c' 'c') e;refine fC O hc h f (a+1) Q s' 'c' 'c' (hs.snoc O h ha 'c' e') hp' λm s'' hp'' h1 h2 h3 h4=>?_;exact k m s'' hp'' 'c' 'c' h3 λz=>h4 'c'
theorem nj(O:SOrd n lt)(hc:Zy n lt cmp Pv){p:Array Nat}(h:SPm n p):∀(f a:Nat) (Q:Array Nat×Nat×Nat->xR->Prop) (s:xR),1<=a->a+f<=n->Dsc lt p a->Pv s ->
 (∀m s',Pv s'->a<=m->m<=a+f->Dsc lt p m->Q (p,m,0) s')->(kas_desc f p a 0).kasWp cmp Q s
 |0,a,Q,s,ha,hf,hs,hp,k=>k a s hp (jE _) (jE _) hs
 |f+1,a,Q,s,ha,hf,hs,hp,k=>by
  refine hc _ _ _ s (h.inn 'c') (h.inn 'c') (h.ne 'c' 'c' 'c') hp λs' hp'=>?_
  cases e:lt (p.getD a 0) (p.getD (a - 1) 0) with
  |true =>
   show KasT.kasWp cmp (kas_desc f p (a+1) 0) Q s';refine nj O hc h f (a+1) Q s' 'c' 'c' (hs.snoc O h ha 'c' e) hp' λm s'' hp'' h1 h2 h3=>?_;exact k m s'' hp'' 'c' 'c' h3
  |false =>
   have e':=O.conn _ _ (h.inn 'c') (h.inn 'c') (h.ne 'c' 'c' 'c') e;refine hc _ _ _ s' (h.inn 'c') (h.inn 'c') (h.ne 'c' 'c' 'c') hp' λs'' hp''=>?_;rw[e'];exact k a s'' hp'' (jE _) 'c' hs
def nk(h:SPm n p)(i j:Nat):SPm n (kas_rev p i j):=(mirror_perm _ _ _ _).trans h
def wX(h:SPm n p)(hm:m<=n)(hd:Dsc lt p m):Srt lt (kas_rev p 0 m) m:=λi j xF hj=>by
 have hs:=h.size
 have g:∀k,k<m->(kas_rev p 0 m).getD k 0=p.getD (0+m - 1 - k) 0:=λk hk=>by
  have e:=getElem?_mirror_all (xs:=p) (i:=0) (j:=m) 'c' k;rw[qh ⟨jT _,hk⟩]at e;exact aK e
 rw[g i 'c',g j hj];exact hd _ _ 'c' 'c'
def wY(O:SOrd n lt)(hc:Zy n lt cmp Pv)(h:SPm n p)(h1:1<=n)(Q:Nat×Array Nat->xR->Prop)(s:xR)(hp:Pv s)
 (k:∀m p' s',Pv s'->1<=m->m<=n->SPm n p'->Srt lt p' m->Q (m,p') s'):(kas_count n p).kasWp cmp Q s:=by
 unfold kas_count;rw[KasT.kasWp_bind];refine fC O hc h (n - 1) 1 _ s (jE _) 'c' (λi j xF hj=>absurd xF 'c') hp λm s' hp' a1 a2 a3 a4=>?_
 by_cases e:m=n
 . rw[qh (by simpa using e)];exact k m p s' hp' a1 'c' h a3
 . rw[qg (by simpa using e)]
   by_cases g:m > 1
   . rw[qh g];refine hc _ _ _ s' (h.inn 'c') (h.inn 'c') (h.ne 'c' 'c' 'c') hp' λs'' hp''=>?_;rw[a3 0 (m - 1) 'c' 'c'];show KasT.kasWp cmp (if true=true then .ret (m,p) else _) Q s'';rw[qh rfl];exact k m p s'' hp'' a1 'c' h a3
   . rw[qg g];have m1:m=1:=by omega
     subst m1;have e1:=a4 'c';unfold kas_descPart;rw[KasT.kasWp_bind];have d2:Dsc lt p (1+1):=Dsc.snoc O h (jE _) 'c' (λi j xF hj=>absurd xF 'c') e1;refine nj O hc h (n - (1+1)) (1+1) _ s' 'c' 'c' d2 hp' λm s2 hp2 b1 b2 b3=>?_;show KasT.kasWp cmp (if 0 > 0 then _ else kas_tail3 m n p) Q s2;rw[qg 'd'];unfold kas_tail3;rw[KasT.kasWp_bind];refine fC O hc (nk h 0 m) (n - m) m _ s2 'c' 'c' (wX h 'c' b3) hp2 λm' s3 hp3 c1 c2 c3 _=>?_;exact k m' _ s3 hp3 'c' 'c' (nk h 0 m) c3
theorem fD(O:SOrd n lt)(hc:Zy n lt cmp Pv){p:Array Nat}(h:SPm n p){k:Nat}(hk:k<n)(hs:Srt lt p k):∀(f l r:Nat) (Q:Nat->xR->Prop) (s:xR),l<=r->r<=k->r - l<=f->Pv s ->
 (∀i,i<l->lt (p.getD i 0) (p.getD k 0)=true)->(∀i,r<=i->i<k->lt (p.getD k 0) (p.getD i 0)=true) ->
 (∀m s',Pv s'->m<=k->(∀i,i<m->lt (p.getD i 0) (p.getD k 0)=true)->(∀i,m<=i->i<k->lt (p.getD k 0) (p.getD i 0)=true)->Q m s')->(kas_place p k f l r).kasWp cmp Q s
 |0,l,r,Q,s,h1,h2,h3,hp,a,b,c=>c l s hp 'c' a λi hi=>b i 'c'
 |f+1,l,r,Q,s,h1,h2,h3,hp,a,b,c=>by
  unfold kas_place
  by_cases g:l ≥ r
  . rw[qh g];exact c l s hp 'c' a λi hi=>b i 'c'
  . rw[qg g];refine hc _ _ _ s (h.inn hk) (h.inn 'c') (h.ne hk 'c' 'c') hp λs' hp'=>?_
    cases e:lt (p.getD k 0) (p.getD ((l+r) / 2) 0) with
    |true =>
     show KasT.kasWp cmp (if true=true then kas_place p k f l ((l+r) / 2) else _) Q s';rw[qh rfl];refine fD O hc h hk hs f l ((l+r) / 2) Q s' 'c' 'c' 'c' hp' a (λi hi hik=>?_) c
     by_cases z:i=(l+r) / 2
     . rw[z];exact e
     . exact O.trans _ _ _ (h.inn hk) (h.inn 'c') (h.inn 'c') e (hs _ _ 'c' hik)
    |false =>
     show KasT.kasWp cmp (if false=true then _ else kas_place p k f ((l+r) / 2+1) r) Q s';rw[qg 'd'];have e':=O.conn _ _ (h.inn hk) (h.inn 'c') (h.ne hk 'c' 'c') e;refine fD O hc h hk hs f ((l+r) / 2+1) r Q s' 'c' 'c' 'c' hp' (λi hi=>?_) b c
     by_cases z:i=(l+r) / 2
     . rw[z];exact e'
     . exact O.trans _ _ _ (h.inn 'c') (h.inn 'c') (h.inn hk) (hs i ((l+r) / 2) 'c' 'c') e'
def wZ(h:SPm n p)(hk:k<n)(hl:l<=k)(hs:Srt lt p k)(a:∀i,i<l->lt (p.getD i 0) (p.getD k 0)=true)(b:∀i,l<=i->i<k->lt (p.getD k 0) (p.getD i 0)=true):Srt lt (bubble p k (k - l)) (k+1):=by
 have hz:=h.size
 have g:∀i,(bubble p k (k - l)).getD i 0=if i=l then p.getD k 0 else if l<i/\i<=k then p.getD (i - 1) 0 else p.getD i 0:=λi=>by
  have e:=getElem?_bubble (xs:=p) (src:=k) 'c' (k - l) 'c' i;have el:k - (k - l)=l:=by omega
  rw[el]at e
  by_cases h1:i=l
  . rw[qh h1]at e ⊢;exact aK e
  . rw[qg h1]at e ⊢
    by_cases h2:l<i/\i<=k
    . rw[qh h2]at e ⊢;exact aK e
    . rw[qg h2]at e ⊢;exact aK e
 intro i j xF hj;rw[g i,g j]
 by_cases i1:i=l
 . rw[qh i1,qg 'c',qh 'c'];exact b _ 'c' 'c'
 . rw[qg i1]
   by_cases i2:l<i/\i<=k
   . rw[qh i2,qg 'c',qh 'c'];exact hs _ _ 'c' 'c'
   . rw[qg i2]
     by_cases j1:j=l
     . rw[qh j1];exact a i 'c'
     . rw[qg j1]
       by_cases j2:l<j/\j<=k
       . rw[qh j2];exact hs i (j - 1) 'c' 'c'
       . rw[qg j2];exact hs i j xF 'c'
theorem nn(O:SOrd n lt)(hc:Zy n lt cmp Pv):∀(f k:Nat) (p:Array Nat) (Q:Array Nat->xR->Prop) (s:xR),SPm n p->1<=k->k+f=n->Srt lt p k->Pv s ->
 (∀p' s',Pv s'->SPm n p'->Srt lt p' n->Q p' s')->(kas_bin f p k).kasWp cmp Q s
 |0,k,p,Q,s,h,h1,h2,hs,hp,c=>c p s hp h (by rw[<- h2];exact hs)
 |f+1,k,p,Q,s,h,h1,h2,hs,hp,c=>by
  unfold kas_bin;rw[KasT.kasWp_bind];refine fD O hc h (k:=k) 'c' hs k 0 k _ s (jT _) (jE _) 'c' hp (λi hi=>absurd hi 'c') (λi hi hk=>absurd hi 'c') λm s' hp' m1 m2 m3=>?_;exact nn O hc f (k+1) _ Q s' ((bubble_perm _ _ _).trans h) 'c' 'c' (wZ h 'c' m1 hs m2 m3) hp' c
def y6(O:SOrd n lt)(hc:Zy n lt cmp Pv)(h1:1<=n)(Q:Array Nat->xR->Prop)(s:xR)(hp:Pv s)(k:∀p s',Pv s'->SPm n p->Srt lt p n->Q p s'):(kas_sort n).kasWp cmp Q s:=by
 unfold kas_sort;rw[KasT.kasWp_bind];refine wY O hc (.refl _) h1 _ s hp λm p' s' hp' m1 m2 pm sr=>?_
 by_cases g:m<n
 . rw[qh g];have e:max m 1=m:=by omega
   show KasT.kasWp cmp (kas_bin (n - max m 1) p' (max m 1)) Q s';rw[e];exact nn O hc (n - m) m p' Q s' pm m1 'c' sr hp' k
 . rw[qg g];have e:m=n:=by omega
   subst e;exact k p' s' hp' pm sr
end
end L2
namespace L2
open PySem PySem.W PySem.Calls PyProof.Rows
section
variable {prog:xT}{w:xU}{A:xV}{E:xc}{s:xR}
def Zz(a:xS)(h g:Heap):Prop:=∀b o,b≠a->h.get? b=some o->g.get? b=some o
def Qg(vs:xm)(p:Array Nat):xm:=p.toList.map λi=>vs.getD i Value.none
def y8{κ:SortKind}(at_:'i' a=some (seqObj "list" vs.toArray c0))(two:2<=vs.length)(few:vs.length<64)(O:SOrd vs.length lt)
 (kind:∀g,Zz a s.heap g->∀R:SortKind->xR->Prop,R κ { s with heap:=g }->wpAny (model prog w) A (keyKind' vs.toArray) R (λ_ _=>False) { s with heap:=g })
 (less:∀g,Zz a s.heap g->∀i j (C:Bool->xR->Prop),i<vs.length->j<vs.length->i≠j->C (lt i j) { s with heap:=g }->wpAny (model prog w) A (keyLt' κ (vs.getD i Value.none) (vs.getD j Value.none)) C (λ_ _=>False) { s with heap:=g })
 (fin:∀(p:Array Nat) g c,SPm vs.length p->Srt lt p vs.length->Zz a s.heap g->g.get? a=some (seqObj "list" (Qg vs p).toArray c)->Z (.done (.ret .none)) { s with heap:=g }) :
 wpAny (model prog w) A (Builtin.«list.sort» ⟨[.ref a],[]⟩) Z E s:=by
 have up:=Heap.SameBut.update s.heap a (Obj.mapSeq λ_=>(#[]:xk));obtain⟨c1,at1⟩:∃c,(s.heap.update a (Obj.mapSeq λ_=>(#[]:xk))).get? a=some (seqObj "list" #[] c):=⟨_,get?_update_seq at_ λ_=>#[]⟩;obtain⟨g,eg⟩:∃g,g=((s.heap.update a (Obj.mapSeq λ_=>(#[]:xk))).push (seqObj "tuple" vs.toArray 0)).push (seqObj "list" #[] 0):=⟨_,rfl⟩
 have gx:Zz a s.heap g:=λb o hb e=>by
  rw[eg];exact jC _ (jC _ ((up.2 b hb).trans e))
 have ga:g.get? a=some (seqObj "list" #[] c1):=by
  rw[eg];exact jC _ (jC _ at1)
 rw[list_sort_plain];refine q8 (listItems_at at_ rfl ?_);refine q8 (listUpdate_at at_ rfl ?_ (by rw[jK,qH];omega) (jT _));refine q8 (seqEpoch_at at1 rfl ?_);refine q8 (wpAny_newTuple ?_ (by show vs.length<=sizeLine;rw[qH];omega));refine q8 (wpAny_newList ?_ (jT _));refine qF ?_;show wpAny (model prog w) A _ Z E { s with heap:=((s.heap.update a (Obj.mapSeq λ_=>(#[]:xk))).push (seqObj "tuple" vs.toArray 0)).push (seqObj "list" #[] 0) };rw[<- eg];dsimp only;have nt:¬vs.toArray.size<2:=by rw[jK];omega
 rw[qg nt,qg nt];refine q8 (qq (kind g gx (λk s0=>k=κ/\s0={ s with heap:=g }) ⟨rfl,rfl⟩) (λk s0 hk=>?_) λ_ _ x=>x.elim);obtain⟨rfl,rfl⟩:=hk
 have tree:(kas_sort vs.length).kasWp (kas_ask prog w A k vs) (λp s2=>s2={ s with heap:=g }/\SPm vs.length p/\Srt lt p vs.length) { s with heap:=g }:=by
  refine y6 (Pv:=λs2=>s2={ s with heap:=g }) O (λi j C s2 hi hj xF h2 hC=>?_) 'c' _ _ rfl λp s2 h2 pm sr=>⟨h2,pm,sr⟩;subst h2;exact less g gx i j C hi hj xF (hC _ rfl)
 refine q8 (qq (kat_run (Q:=λst s2=>∃p:Array Nat,p.size=vs.length/\arrOf st=p.map (kas_item (vs.toArray.zip vs.toArray))/\failedOf st=none/\s2={ s with heap:=g }/\SPm vs.length p/\Srt lt p vs.length)
  rfl two few (λp st s2 b1 b2 b3 b4=>⟨p,b1,b2,b3,b4⟩) tree) ?_ λ_ _ e=>e)
 rintro⟨⟨⟩,st⟩ s2 ⟨p,hp,har,hf,rfl,pm,sr⟩;dsimp only;have eo:=kat_snds rfl har;have zo:(Qg vs p).toArray.size=vs.length:=by unfold Qg;rw[jK,jA,js,hp]
 rw[eo];have up2:=Heap.SameBut.update g a (Obj.mapSeq λ_=>(Qg vs p).toArray);obtain⟨c2,at2⟩:∃c,(g.update a (Obj.mapSeq λ_=>(Qg vs p).toArray)).get? a=some (seqObj "list" (Qg vs p).toArray c):=⟨_,get?_update_seq ga λ_=>(Qg vs p).toArray⟩;refine q8 (seqEpoch_at ga rfl ?_);refine q8 (listUpdate_at ga rfl ?_ (jT _) (by show(Qg vs p).toArray.size<=_;rw[zo,qH];omega));rw[hf];simp only[bne_self_eq_false,j6,qP];exact qf (fin p _ c2 pm sr (λb o hb e=>(up2.2 b hb).trans (gx b o hb e)) at2)
def y9(vs:xm):Qg vs (List.toArray (List.range vs.length))=vs:=by
 unfold Qg;refine kX 'f' λi h1 h2=>?_;simp[List.getD,h2]
def ya{vs:xm}{c0:Nat}{Z:PySem.Fin->xR->Prop}(at_:'i' a=some (seqObj "list" vs.toArray c0))(wee:vs.length<2)
 (fin:∀g c,Zz a s.heap g->g.get? a=some (seqObj "list" vs.toArray c)->Z (.done (.ret .none)) { s with heap:=g }) :
 wpAny (model prog w) A (Builtin.«list.sort» ⟨[.ref a],[]⟩) Z E s:=by
 have up:=Heap.SameBut.update s.heap a (Obj.mapSeq λ_=>(#[]:xk));obtain⟨c1,at1⟩:∃c,(s.heap.update a (Obj.mapSeq λ_=>(#[]:xk))).get? a=some (seqObj "list" #[] c):=⟨_,get?_update_seq at_ λ_=>#[]⟩;obtain⟨g,eg⟩:∃g,g=((s.heap.update a (Obj.mapSeq λ_=>(#[]:xk))).push (seqObj "tuple" vs.toArray 0)).push (seqObj "list" #[] 0):=⟨_,rfl⟩
 have gx:Zz a s.heap g:=λb o hb e=>by
  rw[eg];exact jC _ (jC _ ((up.2 b hb).trans e))
 have ga:g.get? a=some (seqObj "list" #[] c1):=by
  rw[eg];exact jC _ (jC _ at1)
 rw[list_sort_plain];refine q8 (listItems_at at_ rfl ?_);refine q8 (listUpdate_at at_ rfl ?_ (by rw[jK,qH];omega) (jT _));refine q8 (seqEpoch_at at1 rfl ?_);refine q8 (wpAny_newTuple ?_ (by show vs.length<=sizeLine;rw[qH];omega));refine q8 (wpAny_newList ?_ (jT _));refine qF ?_;show wpAny (model prog w) A _ Z E { s with heap:=((s.heap.update a (Obj.mapSeq λ_=>(#[]:xk))).push (seqObj "tuple" vs.toArray 0)).push (seqObj "list" #[] 0) };rw[<- eg];dsimp only;have yes:vs.toArray.size<2:=by rw[jK];omega
 rw[qh yes,qh yes];refine q8 (qf (q8 (qf ?_)));dsimp only
 have eo:(arrOf (SortSt.mk' general' (vs.toArray.zip vs.toArray) #[] 7 none)).map (·.2)=vs.toArray:=by
  show(vs.toArray.zip vs.toArray).map (·.2)=vs.toArray;apply Array.toList_inj.mp;rw[Array.toList_map,Array.toList_zip];exact List.map_snd_zip (jE _)
 rw[eo];have up2:=Heap.SameBut.update g a (Obj.mapSeq λ_=>vs.toArray);obtain⟨c2,at2⟩:∃c,(g.update a (Obj.mapSeq λ_=>vs.toArray)).get? a=some (seqObj "list" vs.toArray c):=⟨_,get?_update_seq ga λ_=>vs.toArray⟩;refine q8 (seqEpoch_at ga rfl ?_);refine q8 (listUpdate_at ga rfl ?_ (jT _) (by show vs.toArray.size<=_;rw[jK,qH];omega));simp only[bne_self_eq_false,j6,qP];exact qf (fin _ c2 (λb o hb e=>(up2.2 b hb).trans (gx b o hb e)) at2)
def fE{Q:xc}{C:xm->xR->Prop}(col:∀(E':xc) (R:xm->xR->Prop),(∀vs s1,C vs s1->R vs s1)->wpAny (model prog w) A.in1 (collect x) R E' s)
 (few:∀vs s1,C vs s1->vs.length<64) (κ:SortKind) (lt:xm->xR->Nat->Nat->Bool) (O:∀vs s1,C vs s1->SOrd vs.length (lt vs s1))
 (kind:∀vs s1,C vs s1->2<=vs.length->∀g,(∀b o,s1.heap.get? b=some o->g.get? b=some o)->∀R:SortKind->xR->Prop,R κ { s1 with heap:=g }->wpAny (model prog w) A.in1.in1 (keyKind' vs.toArray) R (λ_ _=>False) { s1 with heap:=g })
 (less:∀vs s1,C vs s1->∀g,(∀b o,s1.heap.get? b=some o->g.get? b=some o)->∀i j (Z:Bool->xR->Prop),i<vs.length->j<vs.length->i≠j->Z (lt vs s1 i j) { s1 with heap:=g }->wpAny (model prog w) A.in1.in1 (keyLt' κ (vs.getD i Value.none) (vs.getD j Value.none)) Z (λ_ _=>False) { s1 with heap:=g })
 (fin:∀vs s1,C vs s1->∀(p:Array Nat) g c,SPm vs.length p->Srt (lt vs s1) p vs.length->(∀b o,s1.heap.get? b=some o->g.get? b=some o)->g.get? s1.heap.objs.size=some (seqObj "list" (Qg vs p).toArray c)->Q (.ref s1.heap.objs.size) { s1 with heap:=g }) :
 wpAny (model prog w) A (call (.builtin "sorted") [x]) Q E s:=by
 refine Calls.call_function_entry kind_sorted plain_sorted entry_sorted (args_sorted1 _) ?_;unfold Builtin.«sorted»;refine q8 (m:=checkCount "sorted" 1 1 _) (qf ?_);refine q8 (col _ _ λvs s1 hC=>?_);have fw:=few vs s1 hC;refine q8 (wpAny_newList ?_ (by rw[qH];omega));have xD:(s1.heap.push (seqObj "list" vs.toArray 0)).get? s1.heap.objs.size=some (seqObj "list" vs.toArray 0):=jH _ rfl;have kp:∀b o,s1.heap.get? b=some o->(s1.heap.push (seqObj "list" vs.toArray 0)).get? b=some o:=λb o q=>jC _ q;have far:∀b o,s1.heap.get? b=some o->b≠s1.heap.objs.size:=λb o q=>jQ (jI q);show wpAny _ _ _ _ _ { s1 with heap:=s1.heap.push (seqObj "list" vs.toArray 0) };refine q8 (qF (qE slot_list_sort ⟨_,xD,rfl⟩ entry_list_sort ?_ (args_list_sort _)))
 by_cases two:2<=vs.length
 . refine y8 (κ:=κ) (lt:=lt vs s1) (s:={ s1 with heap:=s1.heap.push (seqObj "list" vs.toArray 0) }) xD two fw (O vs s1 hC) (λg hx R hR=>?_) (λg hx i j Z hi hj xF hZ=>?_) (λp g c pm sr hx hg=>?_)
   . exact kind vs s1 hC two g (λb o q=>hx b o (far b o q) (kp b o q)) R hR
   . exact less vs s1 hC g (λb o q=>hx b o (far b o q) (kp b o q)) i j Z hi hj xF hZ
   . exact⟨_,rfl,qf ⟨_,rfl,fin vs s1 hC p g c pm sr (λb o q=>hx b o (far b o q) (kp b o q)) hg⟩⟩
 . refine ya (s:={ s1 with heap:=s1.heap.push (seqObj "list" vs.toArray 0) }) xD 'c' λg c hx hg=>?_;exact⟨_,rfl,qf ⟨_,rfl,fin vs s1 hC (List.toArray (List.range vs.length)) g c (.refl _) (λi j h1 h2=>absurd h1 'c') (λb o q=>hx b o (far b o q) (kp b o q)) (by rw[y9];exact hg)⟩⟩
end
end L2
namespace L2
open PySem PySem.W PyProof.Rows
section
variable {prog:xT}{w:xU}{A:xV}{E:xc}{s:xR}
def VIt(h:Heap)(it d:xS)(i n ep:Nat):Prop:=∃x y u v,h.get? it=some { cls := .type "dict_itemiterator",dict:=none,data := .fields #[x,y,.ref d,.int i 0,.int n 0,.int ep 0,u,v],slots:=#[] } /\
 ((x=.none/\y=.bool false)\/∃(a:xS) (oa:Obj) (f:Bool),x=rawInt (a:Nat)/\y=.bool f/\h.get? a=some oa/\it<a)
def VDc(h:Heap)(d:xS)(es:Array DictEntry)(ep:Nat):Prop:=∃o,h.get? d=some o/\o.data=.dict es ep
def nq(t:VIt s.heap it d i es.size ep)(D:VDc s.heap d es ep)(hi:i<es.size)
 (k:∀g,VIt g it d (i+1) es.size ep->g.get? 'g'=some { cls := .type "tuple",data := .seq #[es[i].key,es[i].val] }->g.objs.size='g'+1->(∀b o,b≠it->'i' b=some o->g.get? b=some o)->(∀u v,IsItemIter s.heap it d i es.size ep u v->IsItemIterOut g it d (i+1) es.size ep es[i].key es[i].val 'g')->Q (some (.ref 'g')) { s with heap:=g }) :
 wpAny (model prog w) A (pyNext (.ref it)) Q E s:=by
 obtain⟨hp,gg,dr,tk,os⟩:=s;obtain⟨x,y,u,v,xD,own⟩:=t;obtain⟨od,od1,od2⟩:=D;have ty:Shared.TypeIs ⟨hp,gg,dr,tk,os⟩ (.ref it) "dict_itemiterator" := ⟨_,xD,rfl⟩;unfold pyNext;refine q8 (wpAny_attempt (qD (name:=Str.ofString "__next__") ty PySem.F.slot_dict_itemiterator_next (qE PySem.F.slot_dict_itemiterator_next ty PySem.F.entry_dict_itemiterator_next ?_ (PySem.F.args_dict_itemiterator_next_1 _))));refine q8 (qf (q8 (q8 ?_)));refine q8 (qO ty (qf (q8 (wpAny_fieldsOf xD rfl ?_))));simp only[show Builtin.Dict_items.ownsTuple "dict_itemiterator" = true by decide,if_true];show wpAny _ _ (if (Value.ref d==Value.none)=true then _ else _) _ _ _;rw[qg 'f'];refine q8 (qf (q8 (qM od1 od2 ?_)));rw[qg 'f'];refine q8 (qf (q8 (qX od1 od2 ?_)));rw[qg 'f'];refine qf ?_;simp only[show ¬((i:Int)<0) by omega,qP,kC,jl hi];refine q8 (q8 (qO ty (qf (q8 (wpAny_isOneOf_itemiter ty ?_)))));show wpAny _ _ (setField (.ref it) 3 (rawInt ((i:Int)+1)) >>= _) _ _ ⟨hp,gg,dr,tk,os⟩;refine q8 (qJ xD 'f' λg1 at1 sb1=>?_);have sz1:g1.objs.size=hp.objs.size:=sb1.1;have low:it<hp.objs.size:=jI xD;obtain⟨g2,eg2⟩:∃g2,g2=g1.push { cls := .type "tuple",data := .seq #[es[i].key,es[i].val] }:=⟨_,rfl⟩
 have at2:g2.get? it=some { cls := .type "dict_itemiterator",dict:=none,data := .fields #[x,y,.ref d,.int ((i+1:Nat):Int) 0,.int es.size 0,.int ep 0,u,v],slots:=#[] }:=by
  rw[eg2];refine jC _ ?_;have e:((i+1:Nat):Int)=(i:Int)+1:=by omega
  rw[e];simpa [rawInt] using at1
 have tup2:g2.get? hp.objs.size=some { cls := .type "tuple",data := .seq #[es[i].key,es[i].val] }:=by rw[eg2,<- sz1];exact jH _ rfl
 have sz2:g2.objs.size=hp.objs.size+1:=by rw[eg2,j8,sz1]
 have xP:∀b o,b≠it->hp.get? b=some o->g2.get? b=some o:=λb o hb e=>by rw[eg2];exact jC _ (sb1.extBut b o hb e)
 have ty1:Shared.TypeIs ⟨g1,gg,dr,tk,os⟩ (.ref it) "dict_itemiterator" := ⟨_,at1,rfl⟩
 have done:∀g:Heap,VIt g it d (i+1) es.size ep->Heap.SameBut it g2 g->(∀u v,IsItemIter hp it d i es.size ep u v->IsItemIterOut g it d (i+1) es.size ep es[i].key es[i].val hp.objs.size)->Q (some (.ref hp.objs.size)) ⟨g,gg,dr,tk,os⟩:=λg tg sb =>
  k g tg (sb.extBut _ _ (jo low) tup2) (by show g.objs.size=hp.objs.size+1;rw[sb.1,sz2]) λb o hb e=>sb.extBut b o hb (xP b o hb e)
 have never:∀{a:Nat}{y' u' v':xQ}{g:Heap},hp.get? it=some { cls := .type "dict_itemiterator",dict:=none,data := .fields #[rawInt a,y',.ref d,.int i 0,.int es.size 0,.int ep 0,u',v'],slots:=#[] }->∀u v,IsItemIter hp it d i es.size ep u v->IsItemIterOut g it d (i+1) es.size ep es[i].key es[i].val hp.objs.size:=λh u v z=>by
  have z:=h.symm.trans z;simp[rawInt]at z
 refine q8 (qF (q8 (wpAny_isOneOf_itemiter ty1 (q8 (wpAny_isOneOf_itemiter ty1 ?_)))));show wpAny _ _ (Builtin.Dict_items.pairFromOwner (.ref it) 6 es[i].key es[i].val) _ _ ⟨g1,gg,dr,tk,os⟩;unfold Builtin.Dict_items.pairFromOwner;refine q8 (wpAny_newTuple ?_);show wpAny _ _ (Builtin.Dict_items.ownedTupleIsFree (.ref it) >>= _) _ _ ⟨g1.push { cls := .type "tuple",data := .seq #[es[i].key,es[i].val] },gg,dr,tk,os⟩;rw[<- eg2,sz1];refine q8 ?_;unfold Builtin.Dict_items.ownedTupleIsFree;rcases own with ⟨rfl,rfl⟩|⟨a,oa,f,rfl,rfl,ha,hai⟩
 . refine q8 (qk at2 rfl (x := .none) rfl (qf ?_));simp only[if_true];refine q8 (qk at2 rfl (x:=u) rfl (q8 (qk at2 rfl (x:=v) rfl ?_)));refine q8 (qJ at2 'f' λg3 at3 sb3=>q8 (qJ at3 'f' λg4 at4 sb4=>q8 (qJ at4 'f' λg5 at5 sb5=>q8 (qJ at5 'f' λg6 at6 sb6=>?_))));have sb:Heap.SameBut it g2 g6:=((sb3.trans sb4).trans sb5).trans sb6;refine q8 (wpAny_letGo (qf (qf ⟨_,rfl,qf (done g6 ⟨_,_,_,_,at6,.inr ⟨hp.objs.size,_,false,rfl,rfl,sb.extBut _ _ (jo low) tup2,low⟩⟩ sb λ_ _ _=>at6)⟩)))
 . have ha2:=xP a oa (jo hai) ha;refine q8 (qk at2 rfl (x:=rawInt a) rfl ?_);show wpAny _ _ (loadIfAlive ((a:Int).toNat) >>= _) _ _ _;rw[kC];refine q8 (kdx_alive ha2 ?_);simp only[Option.isNone_some,j6,qP];refine q8 (qk at2 rfl (x := .bool f) rfl ?_)
   cases f with
   |true =>
    rw[qg 'f'];refine qf ?_;simp only[j6,qP];exact qf (qf ⟨_,rfl,qf (done g2 ⟨_,_,_,_,at2,.inr ⟨a,oa,true,rfl,rfl,ha2,hai⟩⟩ (Heap.SameBut.refl _ _) (never xD))⟩)
   |false =>
    rw[qh 'e'];refine q8 (qJ at2 'f' λg3 at3 sb3=>?_);refine qf ?_;simp only[j6,qP];exact qf (qf ⟨_,rfl,qf (done g3 ⟨_,_,_,_,at3,.inr ⟨a,oa,true,rfl,rfl,sb3.extBut _ _ (jo hai) ha2,hai⟩⟩ sb3 (never xD))⟩)
def nw(hh:A.handled=none)(t:VIt s.heap it d es.size es.size ep)(D:VDc s.heap d es ep)
 (k:∀g,Heap.ExtBut it s.heap g->Q none { s with heap:=g }):wpAny (model prog w) A (pyNext (.ref it)) Q E s:=by
 obtain⟨x,y,u,v,xD,own⟩:=t;obtain⟨od,od1,od2⟩:=D;have ty:s.TypeIs (.ref it) "dict_itemiterator" := ⟨_,xD,rfl⟩;unfold pyNext;refine q8 (wpAny_attempt (qD (name:=Str.ofString "__next__") ty PySem.F.slot_dict_itemiterator_next (qE PySem.F.slot_dict_itemiterator_next ty PySem.F.entry_dict_itemiterator_next ?_ (PySem.F.args_dict_itemiterator_next_1 _))));refine q8 (qf (q8 (q8 ?_)));refine q8 (qO ty (qf (q8 (wpAny_fieldsOf xD rfl ?_))));simp only[show Builtin.Dict_items.ownsTuple "dict_itemiterator" = true by decide,if_true];show wpAny _ _ (if (Value.ref d==Value.none)=true then _ else _) _ _ s;rw[qg 'f'];refine q8 (qf (q8 (qM od1 od2 ?_)));rw[qg 'f'];refine q8 (qf (q8 (qX od1 od2 ?_)));rw[qg 'f'];refine qf ?_;simp only[show ¬((es.size:Int)<0) by omega,qP,kC,Array.getElem?_eq_none (jE es.size)];refine q8 (q8 (qO ty (qf ?_)));show wpAny _ _ (setField (.ref it) 2 .none >>= _) _ _ s;refine q8 (qR xD rfl 'f' ?_);refine q8 ?_;unfold newExc newTuple;refine q8 (qu (q8 (m:=firstArgMember _ _) (wpAny_of_eq (a:=Value.none) (by first|rfl|(unfold firstArgMember;rfl)) (qu ?_ (by size_fits)))) (by size_fits));unfold raiseNew;refine q8 (wpAny_handled ?_);rw[show A.in1.handled=none from hh];refine q8 (qf (wpAny_throw ?_));refine q8 (x5 (b:=true) (T := "StopIteration") ⟨_,jH _ rfl,rfl⟩ isSubtype_stop (qf ?_));exact k _ (((Heap.SameBut.update ..).extBut.push _).push _)
theorem ny(view:s.heap.IsItemsView r d)(D:VDc s.heap d es ep)
 (k:Q (.ref 'g') { s with heap:=s.heap.push { cls := .type "dict_itemiterator",data := .fields #[.none,.bool false,.ref d,.int 0 0,.int es.size 0,.int ep 0,.none,.none] } }):wpAny (model prog w) A (pyIter (.ref r)) Q E s:=by
 obtain⟨ov,v1,v2,v3⟩:=id view;obtain⟨od,od1,od2⟩:=D;refine wpAny_pyIter_slot view.typeIs PySem.F.slot_dict_items_iter (qE PySem.F.slot_dict_items_iter view.typeIs PySem.F.entry_dict_items_iter ?_ (PySem.F.args_dict_items_iter_1 _));unfold Builtin.«dict_items.__iter__»;refine q8 (qf (q8 ?_));unfold Builtin.Dict_items.dictOf;refine q8 (qk v1 v3 (x := .ref d) rfl (qf (q8 ?_)));unfold Builtin.Dict_items.newIterator;refine q8 (qM od1 od2 (q8 (qX od1 od2 ?_)));simp only[show Builtin.Dict_items.ownsTuple "dict_itemiterator" = true by decide,if_true];refine qu (qf ⟨_,rfl, "dict_itemiterator",_,⟨_,jH _ rfl,rfl⟩,PySem.F.slot_dict_itemiterator_next.lookup,?_⟩) (by simp only[sizeOk,Builtin.Dict_items.ownedTupleFields,jK,jU,jV,kF,qH];omega);simpa [rawInt,Builtin.Dict_items.ownedTupleFields] using k
structure VPs (es:Array DictEntry) (lo:xS) (h:Heap) (as:List xS):Prop where
 nd:as.Nodup
 above:∀a∈as,lo<a
 pairs:∀(j:Nat) (a:xS),as[j]?=some a->∃e:DictEntry,es[j]?=some e/\h.get? a=some { cls := .type "tuple",data := .seq #[e.key,e.val] }
def VPs.there{es:Array DictEntry}{lo:xS}{h:Heap}{as:List xS}(g:VPs es lo h as){a:xS}(ha:a∈as):a<h.objs.size:=by
 obtain⟨j,hj⟩:=List.mem_iff_getElem?.mp ha;obtain⟨_,_,e⟩:=g.pairs j a hj;exact jI e
def VPs.kept{es:Array DictEntry}{lo:xS}{h h':Heap}{as:List xS}(g:VPs es lo h as)(k:∀b o,lo<b->h.get? b=some o->h'.get? b=some o):VPs es lo h' as:=⟨g.nd,g.above,λj a hj=>by
 obtain⟨e,h1,h2⟩:=g.pairs j a hj;exact⟨e,h1,k a _ (g.above a (jZ hj)) h2⟩⟩
def VIt.kept(t:VIt h it d i n ep)(hS:S<it)(hT:∀b o,b≠S->h.get? b=some o->h'.get? b=some o):VIt h' it d i n ep:=by
 obtain⟨x,y,u,v,e,o⟩:=t;refine⟨x,y,u,v,hT _ _ (jo hS) e,?_⟩;rcases o with o|⟨a,oa,f,h1,h2,h3,h4⟩
 . exact .inl o
 . exact .inr ⟨a,oa,f,h1,h2,hT _ _ (jo (Nat.lt_trans hS h4)) h3,h4⟩
theorem nA{S I d:xS}{es:Array DictEntry}{ep:Nat}{R:Result->xR->Prop}(hh:A.handled=none)(hSI:S<I)(hdS:d≠S)(hdI:d≠I)(few:es.size<=sizeLine)(res:xQ){h0:Heap}
 (k:∀g xH acc c as,(∀b o,b≠S->b≠I->h0.get? b=some o->g.get? b=some o)->g.get? S=some { cls := .type "list",dict:=none,data := .seq acc c,slots:=#[] }->as.length=es.size->VPs es I g as->acc.toList=as.map Value.ref->R (.ok (.ret res)) { s with heap:=g,toks:=xH }) :
 ∀(m i:Nat) (h:Heap) (xH c:Nat) (acc:xk) (as:List xS),es.size - i=m->i<=es.size->VIt h I d i es.size ep->VDc h d es ep->(∀b o,b≠S->b≠I->h0.get? b=some o->h.get? b=some o) ->
  h.get? S=some { cls := .type "list",dict:=none,data := .seq acc c,slots:=#[] }->acc.toList=as.map Value.ref->as.length=i->VPs es I h as->I<h.objs.size ->
  codeAny (model prog w) A (.builtin "list.extend.loop" ⟨[.ref S,.ref I,res],[]⟩) R { s with heap:=h,toks:=xH }
 |0,i,h,xH,c,acc,as,hm,hi,t,D,kp,hS,ha,hl,ps,hIs=>by
  have ei:i=es.size:=by omega
  subst ei;refine qL PySem.F.entry_extend_loop ?_;rw[Around.under_plainId PySem.F.plain_extend_loop _];show wpAny _ A.in1 (pyNext (.ref I) >>= _) _ _ _;refine q8 (nw (s:={ s with heap:=h,toks:=xH }) (A:=A.in1) hh t D λg ex=>?_);exact qf (k g xH acc c as (λb o n1 n2 e=>ex b o n2 (kp b o n1 n2 e)) (ex S _ (jQ hSI) hS) hl (ps.kept λb o hb e=>ex b o (jo hb) e) ha)
 |m+1,i,h,xH,c,acc,as,hm,hi,t,D,kp,hS,ha,hl,ps,hIs=>by
  have lt:i<es.size:=by omega
  have az:acc.size=i:=by rw[<- js,ha,jA,hl]
  have hSl:S<h.objs.size:=jI hS;refine qL PySem.F.entry_extend_loop ?_;rw[Around.under_plainId PySem.F.plain_extend_loop _];show wpAny _ A.in1 (pyNext (.ref I) >>= _) _ _ _;refine q8 (nq (s:={ s with heap:=h,toks:=xH }) t D lt λg tg tup sz kg _=>?_);dsimp only at tup sz kg ⊢;have hS':=kg S _ (jQ hSI) hS;have up:∀b o,b≠S->g.get? b=some o->(g.update S (Obj.mapSeq (·.push (Value.ref h.objs.size)))).get? b=some o:=λb o hb e=>(jc _ _ (Ne.symm hb)).trans e;show wpAny _ A.in1 (updateSeq S (·.push (Value.ref h.objs.size)) >>= _) _ _ _;refine q8 (qU hS' rfl (qf ⟨qN PySem.F.plain_extend_loop _,?_⟩) (by rw[az];omega) (by show(acc.push (Value.ref h.objs.size)).size<=sizeLine+1;rw[Array.size_push,az];omega));obtain⟨od,od1,od2⟩:=D;refine nA hh hSI hdS hdI few res k m (i+1) _ xH _ (acc.push (Value.ref h.objs.size)) (as++[h.objs.size]) 'c' lt (tg.kept hSI up) ⟨od,up d _ hdS (kg d _ hdI od1),od2⟩ (λb o n1 n2 e=>up b o n1 (kg b o n2 (kp b o n1 n2 e))) (jn _ hS' rfl) (by rw[Array.toList_push,ha,jh];rfl) (by rw[jU,hl];rfl) ⟨?_,?_,?_⟩ ?_
  . refine kD.mpr ⟨ps.nd,by simp,λa ha' b hb e=>?_⟩;rw[jP.mp hb]at e;exact jQ (ps.there ha') e
  . intro a ha';rcases je.mp ha' with ha' | ha'
    . exact ps.above a ha'
    . rw[jP.mp ha'];exact hIs
  . intro j b hj
    by_cases hj2:j<as.length
    . rw[kU hj2]at hj;obtain⟨e,e1,e2⟩:=ps.pairs j b hj;have hb:=ps.above b (jZ hj);exact⟨e,e1,up b _ (jo (Nat.lt_trans hSI hb)) (kg b _ (jo hb) e2)⟩
    . rw[j3 'c']at hj
      have ej:j=i:=by
       by_cases z:j - as.length=0
       . omega
       . rw[List.getElem?_singleton,qg z]at hj;cases hj
      subst ej;rw[hl,Nat.sub_self]at hj;have eb:h.objs.size=b:=by simpa using hj
      subst eb;exact⟨es[j],jl lt,up _ _ (jo hSl) tup⟩
  . exact Nat.lt_trans hIs (jI (up _ _ (jo hSl) tup))
theorem nB(hh:A.handled=none)(view:s.heap.IsItemsView r d)(D:VDc s.heap d es ep)(S:xS)(hSr:S≠r)(hdS:d≠S)(res:xQ)(c0:Nat)(hS:'i' S=some { cls := .type "list",data := .seq #[] c0 })(few:es.size<=sizeLine)
 (k:∀g xH acc c as,(∀b o,b≠S->'i' b=some o->g.get? b=some o)->g.get? S=some { cls := .type "list",dict:=none,data := .seq acc c,slots:=#[] }->as.length=es.size->VPs es 'g' g as->acc.toList=as.map Value.ref->R (.ok (.ret res)) { s with heap:=g,toks:=xH }) :
 wpAny (model prog w) A.in1 (Builtin.List.listExtendWith (.ref S) (.ref r) res)
  (λfin s'=>match fin with | .done f=>R (.ok f) s' | .again c'=>c'.quiet=true/\codeAny (model prog w) A c' R s') (λe s'=>R (.error e) s') s:=by
 have hSI:S<'g':=jI hS;obtain⟨od,od1,od2⟩:=id D;have hdI:d<'g':=jI od1;obtain⟨oi,eoi⟩:∃oi:Obj,oi={ cls := .type "dict_itemiterator",data := .fields #[.none,.bool false,.ref d,.int 0 0,.int es.size 0,.int ep 0,.none,.none] }:=⟨_,rfl⟩
 have go:∀(h:Heap) (c1 xH:Nat),(∀b o,b≠S->(s.heap.push oi).get? b=some o->h.get? b=some o)->h.get? S=some { cls := .type "list",data := .seq #[] c1 } ->
  codeAny (model prog w) A (.builtin "list.extend.loop" ⟨[.ref S,.ref 'g',res],[]⟩) R { s with heap:=h,toks:=xH }:=λh c1 xH kp hS1=>by
  have hI:=kp 'g' _ (jo hSI) (jH _ (by rw[eoi];rfl));have old:∀b o,b≠S->'i' b=some o->h.get? b=some o:=λb o hb e=>kp b o hb (jC _ e)
  refine nA (ep:=ep) (h0:=s.heap) hh hSI hdS (jQ hdI) few res (λg tk2 acc c as k1 k2 k3 k4 k5=>k g tk2 acc c as (λb o hb e=>k1 b o hb (jQ (jI e)) e) k2 k3 k4 k5)
   es.size 0 h xH c1 #[] [] (Nat.sub_zero _) (jT _) ⟨.none,.bool false,.none,.none,by rw[hI,eoi];rfl,.inl ⟨rfl,rfl⟩⟩ ⟨od,old d _ hdS od1,od2⟩ (λb o hb _ e=>old b o hb e) hS1 rfl rfl ⟨jp,(λ_ ha=>nomatch ha),(λj a hj=>by simp at hj)⟩ (jI hI)
 unfold Builtin.List.listExtendWith;refine q8 (qY (T := "dict_items") view.typeIs ?_);simp only[show Builtin.List.listSameRef (.ref S) (.ref r)=false by simp[Builtin.List.listSameRef,hSr],show(Value.type "dict_items" == Value.type "list")=false by decide,show(Value.type "dict_items" == Value.type "tuple")=false by decide,Bool.or_false,j6,qP];refine q8 (ny view D ?_);rw[<- eoi];have hS1:=jC oi hS;refine q8 (qF (kdx_hint (let ⟨o,ho,hc,_⟩:=view;⟨o,jC _ ho,hc⟩) ?_));refine wpAny_ite_split (λ_=>?_) (λ_=>qf ⟨qN PySem.F.plain_extend_loop _,go _ c0 _ (λb o _ e=>e) hS1⟩);refine q8 (qZ (q8 ?_));show wpAny _ _ (updateSeq S (·.push .none) >>= λ_=>updateSeq S (·.pop)) _ _ _;refine q8 (qU hS1 rfl ?_);have hS2:=jn (Obj.mapSeq (·.push Value.none)) hS1 rfl;refine qU (hz:=by seq_fits) hS2 rfl (qf ⟨qN PySem.F.plain_extend_loop _,go _ _ _ (λb o hb e=>?_) (jn (Obj.mapSeq (·.pop)) hS2 rfl)⟩);exact(jc _ _ (Ne.symm hb)).trans ((jc _ _ (Ne.symm hb)).trans e)
theorem yb(hh:A.handled=none)(view:s.heap.IsItemsView r d)(D:VDc s.heap d es ep)(few:es.size<=sizeLine)
 (k:∀(g:Heap) (xH:Nat) (as:List xS),(∀b o,'i' b=some o->g.get? b=some o)->'g'<g.objs.size->as.length=es.size->VPs es 'g' g as->R (as.map Value.ref) { s with heap:=g,toks:=xH }) :
 wpAny (model prog w) A (collect (.ref r)) R E s:=by
 have hr:r<'g':=let ⟨_,ho,_⟩:=view;jI ho;obtain⟨od,od1,od2⟩:=id D;have hd:d<'g':=jI od1;unfold collect;refine q8 (wpAny_runValue (qL entry_proto_collect' ?_));rw[Around.under_plainId PySem.F.plain_proto_collect _];show wpAny _ A.in1 (newList [] >>= λl=>again (.builtin "list.__iadd__" ⟨[l,.ref r],[]⟩)) _ _ s;refine q8 (qu (qf ⟨qN PySem.F.plain_list_iadd _,qL entry_list_iadd' ?_⟩));rw[Around.under_plainId PySem.F.plain_list_iadd _];obtain⟨g0,eg0⟩:∃g0,g0=s.heap.push { cls := .type "list",data := .seq ([]:xm).toArray }:=⟨_,rfl⟩;have xD:g0.get? 'g'=some { cls := .type "list",data := .seq #[] 0 }:=by rw[eg0];exact jH _ rfl
 have kp0:∀b o,'i' b=some o->g0.get? b=some o:=λb o e=>by rw[eg0];exact jC _ e
 show wpAny _ A.in1 (Builtin.List.listExtendWith (.ref 'g') (.ref r) (.ref 'g')) _ _ _;rw[<- eg0]
 have step:=nB (prog:=prog) (w:=w) (A:=A) (s:={ s with heap:=g0 }) (ep:=ep) (es:=es) (r:=r) (d:=d)
  (R:=λ(q:Result) (s':xR)=>∃(g:Heap) (xH:Nat) (acc:xk) (c:Nat) (as:List xS),q=.ok (.ret (.ref 'g'))/\s'={ s with heap:=g,toks:=xH }/\(∀b o,'i' b=some o->g.get? b=some o) /\
   g.get? 'g'=some { cls := .type "list",dict:=none,data := .seq acc c,slots:=#[] }/\as.length=es.size/\VPs es 'g' g as/\acc.toList=as.map Value.ref)
  hh (let ⟨o,ho,x⟩:=view;⟨o,kp0 _ _ ho,x⟩) ⟨od,kp0 _ _ od1,od2⟩ 'g' (jo hr) (jQ hd) (.ref 'g') 0 xD few
  (λg xH acc c as k1 k2 k3 k4 k5=>⟨g,xH,acc,c,as,rfl,rfl,λb o e=>k1 b o (jQ (jI e)) (kp0 b o e),k2,k3,⟨k4.nd,λa ha=>jd (by rw[eg0,j8];exact Nat.le_succ _) (k4.above a ha),k4.pairs⟩,k5⟩)
 have last:∀(g:Heap) (xH:Nat) (acc:xk) (c:Nat) (as:List xS),(∀b o,'i' b=some o->g.get? b=some o)->g.get? 'g'=some { cls := .type "list",dict:=none,data := .seq acc c,slots:=#[] }->as.length=es.size->VPs es 'g' g as->acc.toList=as.map Value.ref ->
  wpAny (model prog w) A (load 'g' >>= λo=>match o.data with | .seq xs _=>pure xs.toList|_=>unsupported "internal:collect") R E { s with heap:=g,toks:=xH }:=λg xH acc c as k1 k2 k3 k4 k5=>by
  refine q8 (wpAny_load k2 (qf ?_));show R acc.toList _;rw[k5];exact k g xH as k1 (jI k2) k3 k4
 refine qq step (λfin s2 x=>?_) λe s2 x=>?_
 . cases fin with
   |done f =>
    obtain⟨g,xH,acc,c,as,e,rfl,y⟩:=x
    cases e
    exact last g xH acc c as y.1 y.2.1 y.2.2.1 y.2.2.2.1 y.2.2.2.2
   |again c1 =>
    refine⟨x.1,codeAny_mono x.2 λq s3 z=>?_⟩;obtain⟨g,xH,acc,c,as,rfl,rfl,y⟩:=z;exact last g xH acc c as y.1 y.2.1 y.2.2.1 y.2.2.2.1 y.2.2.2.2
 . obtain⟨_,_,_,_,_,z,_⟩:=x
   cases z
end
end L2
namespace L2
open PySem PySem.W PySem.Spec PyProof.Rows
section
variable {X:Cx}{xt:xg}{σ:St}{H H':Hp}{s:xR}
def Inv.many(I:Inv X xt σ H s)(k:∀b u,'i' b=some u->g.get? b=some u)(same:∀b o,H b=some o->H' b=some o)
 (new:∀b o,H' b=some o->H b=some o\/('g'<=b/\ObjOk X.prog X.w H' g b o)):Inv X xt σ H' { s with heap:=g,toks:=t' }:=by
 refine I.un ⟨λb u q _ _ _=>k b u q,λb u q _ _ _=>⟨u.slots,k b u q⟩,λb u q n _=>?_,λb u q _=>⟨u,k b u q⟩,λb xs q=>same b _ q,λb u xs q=>same b _ q,λb ps q=>⟨#[],by rw[same b _ q];simp⟩⟩ λb o e=>?_
 . cases e:H' b with
   |none=>rfl
   |some o =>
    rcases new b o e with z|⟨z,_⟩
    . rw[n]at z;cases z
    . exact absurd (jI q) (Nat.not_lt.mpr z)
 . rcases new b o e with z | ⟨_,z⟩
   . exact(I.hok b o z).stay (λc v _ q=>k c v q) (λc q=>same c _ q) λc xs q=>same c _ q
   . exact z
end
section
variable {prog:xT}{w:xU}{A:xV}{E:xc}{s:xR}
def aL(ho:'i' a=some o)(hd:o.ExactDict)(hs:(a==sysModules)=false)
 (k:Q (.ref 'g') { s with heap:=s.heap.push { cls := .type "dict_items",data := .fields #[.ref a] } }):wpAny (model prog w) A (call (.builtin "dict.items") [.ref a]) Q E s:=by
 have ty:s.TypeIs (.ref a) "dict" := ⟨o,ho,hd.1⟩;refine qE PySem.F.slot_dict_items ty PySem.F.entry_dict_items ?_ (PySem.F.args_dict_items_1 _);unfold Builtin.«dict.items» Builtin.Dict.noArgs;refine q8 (q8 (qV ty (qf ?_)));show wpAny _ _ (Builtin.Dict.showsAll a >>= _) _ _ s;unfold Builtin.Dict.showsAll;rw[qg (by rw[hs];decide)];exact q8 (qf (q8 (qu (qf ⟨_,rfl,k⟩))))
theorem aM:∀{a b c:xr},HT.lexLt a b=true->HT.lexLt b c=true->HT.lexLt a c=true
 | [],[],[],h1,_=>h1
 | [],y::b,[],_,h2=>by rw[HT.lexLt_cons_nil]at h2;cases h2
 | [],_,_::_,_,_=>rfl
 |_::_,[],_,h1,_=>by rw[HT.lexLt_cons_nil]at h1;cases h1
 |x::a,y::b,[],_,h2=>by rw[HT.lexLt_cons_nil]at h2;cases h2
 |x::a,y::b,z::c,h1,h2=>by
  rw[HT.lexLt_cons]at h1 h2 ⊢
  by_cases e1:x=y
  . rw[qh e1]at h1
    by_cases e2:y=z
    . rw[qh e2]at h2;rw[qh (e1.trans e2)];exact aM h1 h2
    . rw[qg e2]at h2;rw[e1,qg e2];exact h2
  . rw[qg e1]at h1;have l1:=qm h1
    by_cases e2:y=z
    . rw[<- e2,qg e1];exact h1
    . rw[qg e2]at h2;have l2:=qm h2;rw[qg 'c'];exact qi 'c'
theorem fG:∀{a b:xr},a≠b->HT.lexLt a b=false->HT.lexLt b a=true
 | [],[],h,_=>absurd rfl h
 | [],_::_,_,h=>by cases h
 |_::_,[],_,_=>rfl
 |x::a,y::b,h,e=>by
  rw[HT.lexLt_cons]at e ⊢
  by_cases z:x=y
  . rw[qh z]at e;rw[qh z.symm];exact fG (λq=>h (by rw[z,q])) e
  . rw[qg z]at e;rw[qg (Ne.symm z)];have:=of_decide_eq_false e;exact qi 'c'
end
theorem fH{α:Type}{o:α}:∀{L:List (xS×α)},L.lookup b=some o->(b,o)∈L
 |(c,u)::L,h=>by
  rw[List.lookup_cons]at h;split at h
  . rename_i e;have:b=c:=by simpa using e
    cases h
    rw[this];exact .head _
  . exact .tail _ (fH h)
theorem nC{α:Type}{b:xS}{o:α}:∀{L:List (xS×α)},(L.map (·.1)).Nodup->(b,o)∈L->L.lookup b=some o
 |(c,u)::L,nd,h=>by
  rw[jM,jm]at nd;rw[List.lookup_cons];rcases jJ.mp h with e|h
  . cases e;simp
  . have ne:b≠c:=λz=>nd.1 (by rw[<- z];exact jG.mpr ⟨_,h,rfl⟩);rw[show(b==c)=false by simpa using ne];exact nC nd.2 h
def more(H:Hp)(L:List (xS×HO)):Hp:=λb=>(L.lookup b).or (H b)
def aN(nd:(L.map (·.1)).Nodup)(h:(b,o)∈L):more H L b=some o:=by
 unfold more;rw[nC nd h];rfl
def ZA(fr:∀p∈L,H p.1=none)(h:H b=some o):more H L b=some o:=by
 unfold more
 cases e:L.lookup b with
 |none=>exact h
 |some u=>rw[fr _ (fH e)]at h;cases h
def nE(h:more H L b=some o):H b=some o\/(b,o)∈L:=by
 unfold more at h
 cases e:L.lookup b with
 |none=>rw[e]at h;exact .inl h
 |some u=>rw[e]at h;cases h;exact .inr (fH e)
section
variable {X:Cx}{xt:xg}{σ:St}{H:Hp}{s:xR}
abbrev kz(ks:List (xr×V)):List (List Key×V):=ks.map λkv=>(kv.1.map Sum.inl,kv.2)
def QM(H:Hp)(x:V)(kv:xr×V):Prop:=∃p b,x=.ref p/\H p=some (.tup [.ref b,kv.2])/\H b=some (.tup (kv.1.map V.int))
def Xy(ns:xr):(ns.map (Sum.inl:Int->Key)).map kV=ns.map V.int:=by rw[jb];rfl
theorem X3{α β:Type}{F:α->β->Prop}:∀{l:List α}{m:List β},Paired F l m->∀{i:Nat}{x:α},l[i]?=some x->∃y,m[i]?=some y/\F x y
 |_,_,.nil,i,x,h=>by simp at h
 |_,_,.cons h t,0,x,e=>by
  rw[List.getElem?_cons_zero]at e
  cases e;exact⟨_,rfl,h⟩
 |_,_,.cons h t,i+1,x,e=>by
  rw[kN]at e;obtain⟨y,e1,e2⟩:=X3 t e;exact⟨y,by rw[kN];exact e1,e2⟩
theorem fI:∀(as:List xS) (fs:xm),as.length=fs.length->(∀(i:Nat) (b:xS) (f:xQ),as[i]?=some b->fs[i]?=some f->∃o ys n,h.get? b=some o/\o.cls=.type "tuple" /\ o.data=.seq ys n/\ys[0]?=some f)->KatTups h (as.map Value.ref) fs
 | [],[],_,_=>KatTups.nil
 |b::as,f::fs,hl,k=>by
  obtain⟨o,ys,n,h1,h2,h3,h4⟩:=k 0 b f rfl rfl;exact KatTups.cons h1 h2 h3 h4 (fI as fs (by simpa using hl) λi b' f' e1 e2=>k (i+1) b' f' (by simpa using e1) (by simpa using e2))
def nF{α:Type}(kk:Nat->α×V)(kx:Nat->V)(yy uu:Nat->xQ)(lt:α->α->Bool)(hc:X.calm=true)(I:Inv X xt σ H s)(ho:'i' a=some o)(xA:o.data=.dict es ep)(el:es.size=n)(few:n<64)(view:s.heap.IsItemsView r a)
 (ent:∀i,i<n->∃hs:Int,es[i]?=some ⟨hs,yy i,uu i⟩) (rk:∀i,i<n->RelV (kx i) (yy i)) (ru:∀i,i<n->RelV (kk i).2 (uu i)) (ord:SOrd n λi j=>lt (kk i).1 (kk j).1)
 (looks:∀i,i<n->∀g:Heap,(∀b o,'i' b=some o->g.get? b=some o)->Looks (model X.prog X.w) g (typeOf (yy i)) (.type T))
 (cmp:∀i j,i<n->j<n->i≠j->∀(s2:xR) (Z:Bool->xR->Prop),(∀b o,'i' b=some o->s2.heap.get? b=some o)->Z (lt (kk i).1 (kk j).1) s2->wpAny (model X.prog X.w) X.A.in1.in1 (eqBool (yy i) (yy j)) (λb s3=>b=false/\wpAny (model X.prog X.w) X.A.in1.in1 (oneLt' (Value.type T != Value.type "tuple") (yy i) (yy j)) Z (λ_ _=>False) s3) (λ_ _=>False) s2)
 (q:∀(H':Hp) (l:xS) (qs:List (α×V)) (xs:List V),qs.Perm ((List.range n).map kk)->qs.Pairwise (λp q=>lt p.1 q.1=true)->Same H H'->H l=none->H' l=some (.lst xs)->'h'=qs.length->(∀(j:Nat) (x:V) (kv:α×V),xs[j]?=some x->qs[j]?=some kv->∃i,i<n/\kk i=kv/\∃p,x=.ref p/\H' p=some (.tup [kx i,kv.2])/\Same H H')->Q (.ref l) H') :
 wpAny (model X.prog X.w) X.A (call (.builtin "sorted") [.ref r]) (EP X xt σ Q) X.xe s:=by
 have hh:X.A.in1.handled=none:=I.ok.hd hc;have big:es.size<=sizeLine:=by rw[el,qH];omega
 let C:xm->xR->Prop:=λvs s1=>∃(g:Heap) (tk:Nat) (as:List xS),s1={ s with heap:=g,toks:=tk }/\(∀b o,'i' b=some o->g.get? b=some o)/\'g'<g.objs.size/\vs=as.map Value.ref/\as.length=es.size/\VPs es 'g' g as
 have pair:∀{g:Heap}{as:List xS},as.length=es.size->VPs es 'g' g as->∀i,i<n->as[i]?=some (as.getD i 0)/\g.get? (as.getD i 0)=some { cls := .type "tuple",data := .seq #[yy i,uu i] }:=fun {g as} hl ps i hi=>by
  have e1:as[i]?=some (as.getD i 0):=by rw[jL,jB 'c'];rfl
  obtain⟨en,e2,e3⟩:=ps.pairs i _ e1;obtain⟨hs,e4⟩:=ent i hi;rw[e4]at e2
  cases e2
  exact⟨e1,e3⟩
 refine fE (C:=C) (λE' R hR=>yb (A:=X.A.in1) hh view ⟨o,ho,xA⟩ big λg tk as k1 k0 k2 k3=>hR _ _ ⟨g,tk,as,rfl,k1,k0,rfl,k2,k3⟩) (λvs s1 hC=>?_) (tuples' (Value.type T != Value.type "tuple")) (λ_ _ i j=>lt (kk i).1 (kk j).1) (λvs s1 hC=>?_) (λvs s1 hC two g2 xP R hR=>?_) (λvs s1 hC g2 xP i j Z hi hj xF hZ=>?_) (λvs s1 hC p g2 c pm sr xP hg=>?_)
 . obtain⟨g,tk,as,rfl,kp,up,rfl,hl,ps⟩:=hC;rw[jA];omega
 . obtain⟨g,tk,as,rfl,kp,up,rfl,hl,ps⟩:=hC;rw[jA,hl,el];exact ord
 . obtain⟨g,tk,as,rfl,kp,up,rfl,hl,ps⟩:=hC;rw[jA]at two
   have t:=fI (h:=g2) as ((List.range n).map yy) (by rw[jA,kP];omega) λi b f e1 e2=>by
    have hi:i<n:=by have:=(jF.mp e1).1;omega
    obtain⟨f1,f2⟩:=pair hl ps i hi;rw[f1]at e1;rw[jD,List.getElem?_range hi]at e2
    cases e1;cases e2
    exact⟨_,_,_,xP _ _ f2,rfl,rfl,rfl⟩
   refine kat_kind (T := .type T) t (by rw[jA,kP];omega) (λv hv=>?_) 'f' hR;obtain⟨i,hi,rfl⟩:=jG.mp hv;exact looks i (kh.mp hi) _ λb o q=>xP b o (kp b o q)
 . obtain⟨g,tk,as,rfl,kp,up,rfl,hl,ps⟩:=hC;rw[jA,hl,el]at hi hj;obtain⟨f1,f2⟩:=pair hl ps i hi;obtain⟨f3,f4⟩:=pair hl ps j hj;have v1:(as.map Value.ref).getD i Value.none = .ref (as.getD i 0):=by rw[jL,jD,f1];rfl
   have v2:(as.map Value.ref).getD j Value.none=.ref (as.getD j 0):=by rw[jL,jD,f3];rfl
   rw[v1,v2];have kp3:∀b o,'i' b=some o->g2.get? b=some o:=λb o q=>xP b o (kp b o q);refine kat_lt (xP _ _ f2) rfl (xP _ _ f4) rfl (kat_cons (qq (cmp i j hi hj xF _ _ kp3 hZ) (λb s3 z=>?_) λ_ _ z=>z));obtain⟨rfl,z⟩:=z;exact kat_no (by rw[show((0:Nat)==0)=true from rfl,Bool.and_true];exact z)
 . obtain⟨g,tk,as,rfl,kp,up,rfl,hl,ps⟩:=hC;rw[jA,hl,el]at pm sr;dsimp only at xP hg ⊢;have kp3:∀b o,s.heap.get? b=some o->g2.get? b=some o:=λb o q=>xP b o (kp b o q);have pz:p.toList.length=n:=by rw[js];exact pm.size
   have pin:∀i∈p.toList,i<n:=λi hi=>by
    have:=pm.mem_iff.mp (Array.mem_toList_iff.mp hi);simpa using this
   have low:∀i,i<n->'g'<as.getD i 0/\as.getD i 0<g.objs.size:=λi hi=>by
    have m:=jZ (pair hl ps i hi).1;exact⟨ps.above _ m,ps.there m⟩
   obtain⟨l,el2⟩:∃l,l=g.objs.size:=⟨_,rfl⟩;rw[<- el2]at hg ⊢
   let L:List (xS×HO):=(List.range n).map (λi=>(as.getD i 0,HO.tup [kx i,(kk i).2]))++[(l,.lst (p.toList.map λi=>V.ref (as.getD i 0)))]
   have asl:(List.range n).map (λi=>as.getD i 0)=as:=by
    refine kX (by rw[jA,kP];omega) λi h1 h2=>?_;rw[j9,List.getElem_range,jL,jB h2];rfl
   have Lk:L.map (·.1)=as++[l]:=by
    show((List.range n).map (λi=>(as.getD i 0,HO.tup [kx i,(kk i).2]))++[(l,HO.lst (p.toList.map λi=>V.ref (as.getD i 0)))]).map (·.1)=as++[l];rw[jh,jb];show(List.range n).map (λi=>as.getD i 0)++[l]=as++[l];rw[asl]
   have Ln:(L.map (·.1)).Nodup:=by
    rw[Lk,kD];refine⟨ps.nd,by simp,λb hb c hc e=>?_⟩;have:=ps.there hb;rw[jP.mp hc,el2]at e;exact jQ this e
   have Lf:∀x∈L,'g'<=x.1:=λx hx=>by
    have:x.1∈as++[l]:=by rw[<- Lk];exact jG.mpr ⟨x,hx,rfl⟩
    rcases je.mp this with h|h
    . exact kG (ps.above _ h)
    . rw[jP.mp h,el2];exact kG up
   have fr:∀x∈L,H x.1=none:=λx hx=>I.hok.fresh (Lf x hx);have inP:∀i,i<n->(as.getD i 0,HO.tup [kx i,(kk i).2])∈L:=λi hi=>jw _ (jG.mpr ⟨i,kh.mpr hi,rfl⟩);have inL:(l,HO.lst (p.toList.map λi=>V.ref (as.getD i 0)))∈L:=jY _ (jP.mpr rfl)
   have out:Qg (as.map Value.ref) p=p.toList.map λi=>Value.ref (as.getD i 0):=by
    unfold Qg;refine ji λi hi=>?_;rw[jL,jD,(pair hl ps i (pin i hi)).1];rfl
   refine⟨.ref l,more H L,I.many (t':=tk) kp3 (λb u q=>ZA fr q) (λb u q=>?_),rfl,q (more H L) l (p.toList.map kk) (p.toList.map λi=>V.ref (as.getD i 0)) ?_ ?_ (λb u q=>ZA fr q) (fr _ inL) (aN Ln inL) (by rw[jA,jA]) λj x kv e1 e2=>?_⟩
   . rcases nE q with q | q
     . exact .inl q
     . refine .inr ⟨Lf _ q,?_⟩;rcases je.mp q with q | q
       . obtain⟨i,hi,ei⟩:=jG.mp q;have hi:=kh.mp hi
         cases ei
         exact⟨by show 2<=sizeLine;decide,[yy i,uu i],.cons (rk i hi) (.cons (ru i hi) .nil),_,xP _ _ (pair hl ps i hi).2,rfl,_,rfl⟩
       . cases jP.mp q
         refine⟨by rw[jA,pz,qH];omega,p.toList.map λi=>Value.ref (as.getD i 0),c,?_,by rw[<- out];exact hg⟩;generalize p.toList=pl
         induction pl with
         |nil=>exact .nil
         |cons i pl ih=>exact .cons rfl ih
   . exact(show p.toList.Perm (List.range n) from Array.perm_iff_toList_perm.mp pm).map kk
   . rw[jq];refine List.pairwise_iff_getElem.mpr λi j hi hj xF=>?_;have:=sr i j xF 'c';have g1:p.getD i 0=p.toList[i]:=by simp[Array.getD,show i < p.size by simpa using hi]
     have g3:p.getD j 0=p.toList[j]:=by simp[Array.getD,show j<p.size by simpa using hj]
     rw[g1,g3]at this;exact this
   . rw[jD]at e1 e2
     cases ej:p.toList[j]? with
     |none=>rw[ej]at e1;cases e1
     |some i =>
      rw[ej]at e1 e2
      cases e1;cases e2
      have hi:=pin i (jZ ej);exact⟨i,hi,rfl,_,rfl,aN Ln (inP i hi),λb u q=>ZA fr q⟩
def yc(hc:X.calm=true)(hu:X.A.in1.in1.units<cLine)(I:Inv X xt σ H s)(e:H a=some (.dT (kz ks)))(few:ks.length<64)(view:s.heap.IsItemsView r a)
 (q:∀(H':Hp) (l:xS) (qs:List (xr×V)) (xs:List V),qs.Perm ks->qs.Pairwise (λp q=>HT.lexLt p.1 q.1=true)->Same H H'->H l=none->H' l=some (.lst xs)->'h'=qs.length->(∀(i:Nat) (x:V) (kv:xr×V),xs[i]?=some x->qs[i]?=some kv->QM H' x kv)->Q (.ref l) H') :
 wpAny (model X.prog X.w) X.A (call (.builtin "sorted") [.ref r]) (EP X xt σ Q) X.xe s:=by
 obtain⟨_,_,xs,kt,o,es,ep,ho,hd,xA,hes,nd⟩:=(show ObjOk X.prog X.w H s.heap a (.dT (kz ks)) from I.hok a _ e);have xl:'h'=ks.length:=by rw[<- kt.length,jA]
 have el:es.size=ks.length:=by rw[size_of_entries hes,xl]
 obtain⟨bb,ebb⟩:∃bb:Nat->xS,bb=λi=>(xs.getD i ([],0,.none)).2.1:=⟨_,rfl⟩;obtain⟨uu,euu⟩:∃uu:Nat->xQ,uu=λi=>(xs.getD i ([],0,.none)).2.2:=⟨_,rfl⟩;obtain⟨kk,ekk⟩:∃kk:Nat->xr×V,kk=λi=>ks.getD i ([],.non):=⟨_,rfl⟩
 have at_:∀i,i<ks.length->xs[i]?=some ((kk i).1.map Sum.inl,bb i,uu i)/\H (bb i)=some (.tup ((kk i).1.map V.int))/\RelV (kk i).2 (uu i):=λi hi=>by
  have e1:(kz ks)[i]?=some ((kk i).1.map Sum.inl,(kk i).2):=by
   rw[jD,jB hi,ekk];simp[List.getD,hi]
  obtain⟨⟨k1,b1,u1⟩,e2,e3,e4,e5⟩:=X3 kt e1;have hx:xs.getD i ([],0,.none)=(k1,b1,u1):=by rw[jL,e2];rfl
  dsimp only at e3 e4 e5;rw[ebb,euu];dsimp only;rw[hx,e2,<- e3];exact⟨rfl,by rw[<- Xy];exact e4,e5⟩
 have ent:∀i,i<ks.length->∃hs:Int,es[i]?=some ⟨hs,.ref (bb i),uu i⟩:=λi hi=>by
  rw[entry_at hes,(at_ i hi).1];exact⟨_,rfl⟩
 have dist:∀i j,i<ks.length->j<ks.length->i≠j->(kk i).1≠(kk j).1:=λi j hi hj xF z=>by
  have e1:(xs.map (·.1))[i]?=some ((kk i).1.map Sum.inl):=by rw[jD,(at_ i hi).1];rfl
  have e2:(xs.map (·.1))[j]?=some ((kk i).1.map Sum.inl):=by rw[jD,(at_ j hj).1,z];rfl
  obtain⟨a1,c1⟩:=jF.mp e1;obtain⟨a2,c2⟩:=jF.mp e2;exact xF ((List.getElem_inj nd).mp (c1.trans c2.symm))
 have ord:SOrd ks.length λi j=>HT.lexLt (kk i).1 (kk j).1:=⟨λi j k _ _ _ h1 h2=>aM h1 h2,λi j hi hj xF h=>fG (dist i j hi hj xF) h⟩
 have tp:∀i,i<ks.length->∃its:xm,IntsAre its.toArray.toList (kk i).1/\IsTup s.heap (bb i) its.toArray:=λi hi=>by
  obtain⟨its,rv,pl,_⟩:=I.tuple (.of (at_ i hi).2.1);exact⟨its,mr rv,pl⟩
 have keyAt:∀i,i<ks.length->∀g:Heap,(∀b o,'i' b=some o->g.get? b=some o)->(tupleKind (Jl X.prog X.w)).is g ((kk i).1.map Sum.inl) (bb i):=λi hi g kp=>by
  obtain⟨o1,its,n1,h1,h2,h3,h4⟩:=Zt (a:=bb i) (ks:=(kk i).1.map Sum.inl) I.hok (by rw[Xy];exact(at_ i hi).2.1);exact⟨o1,its,n1,kp _ _ h1,h2,h3,h4⟩
 refine nF (T := "tuple") kk (λi => .ref (bb i)) (λi => .ref (bb i)) uu HT.lexLt hc I ho xA el few view ent (λi hi=>rfl) (λi hi=>(at_ i hi).2.2) ord (λi hi g kp=>?_) (λi j hi hj xF s2 Z kp hZ=>?_) λH' l qs xs' pm pw sm fl el2 xl2 pr=>q H' l qs xs' ?_ pw sm fl el2 xl2 λj x kv e1 e2=>?_
 . obtain⟨o1,its,n1,h1,h2,h3,h4⟩:=keyAt i hi g kp;have L:Looks (model X.prog X.w) g (typeOf (.ref (bb i))) o1.cls:=(Looks.ld h1).andThen .now;rw[h2]at L;exact L
 . refine(tupleKind (Jl X.prog X.w)).eqBool (E:=λ_ _=>False) hu (keyAt i hi _ kp) (keyAt j hj _ kp) ?_;have ne:(kk i).1.map (Sum.inl:Int->Key)≠(kk j).1.map Sum.inl:=λz=>dist i j hi hj xF ((List.map_inj_right (λ_ _ h=>Sum.inl.inj h)).mp z);refine⟨qj ne,kat_one _ _ ?_⟩;obtain⟨i1,n1,o1,h1,h2,m1,h3⟩:=tp i hi;obtain⟨i2,n2,o2,h4,h5,m2,h6⟩:=tp j hj;exact HT.lt_tupInts ⟨o1,kp _ _ h1,h2,m1,h3⟩ ⟨o2,kp _ _ h4,h5,m2,h6⟩ n1 n2 hu hZ
 . have e1:(List.range ks.length).map kk=ks:=by
    refine kX (by rw[jA,kP]) λi h1 h2=>?_;rw[j9,List.getElem_range,ekk];simp[List.getD,h2]
   rwa [e1]at pm
 . obtain⟨i,hi,rfl,p,rfl,h1,h2⟩:=pr j x kv e1 e2;exact⟨p,bb i,rfl,h1,h2 _ _ (at_ i hi).2.1⟩
def yd(td:TE):TE:=λσ H Q=>td σ H λx H1=>∃a ks,x=.ref a/\H1 a=some (.dT (kz ks))/\ks.length<64 /\
 ∀(H':Hp) (l:xS) (qs:List (xr×V)) (xs:List V),qs.Perm ks->qs.Pairwise (λp q=>HT.lexLt p.1 q.1=true)->Same H1 H'->H1 l=none->H' l=some (.lst xs)->'h'=qs.length->(∀(i:Nat) (x:V) (kv:xr×V),xs[i]?=some x->qs[i]?=some kv->QM H' x kv)->Q (.ref l) H'
def ZB(hr:Room k A):A.in1.in1.units<cLine:=by
 have:=hr.units;show A.units+1+1<cLine;omega
def yf{td:TE}{p ap cp pos:Pos}(hc:X.calm=true)(hu:X.A.in1.in1.units<cLine)(hg:Gl X "sorted")(hm:X.mg "sorted" = none)(hv:bootBuiltins "sorted" = some (.builtin "sorted"))(ho:PE X o td)
 (xK:attributeBase o "items" X.env (eval o X.env)=eval o X.env:=by rfl) (xL:(ap.endLine==cp.line)=true:=by rfl):PE X (.Call (.Name "sorted" p) [.Call (.Attribute o "items" ap) [] [] cp] [] pos) (yd td):=by
 intro xt s σ H Q I h;refine qI (QR I hg hm hv ?_ 'd' 'd');refine PyProof.Rows.callWith_builtin1 ?_ rfl rfl;show wpAny _ _ (spliced [(false,eval (.Call (.Attribute o "items" ap) [] [] cp) X.env)]) _ _ s;refine Calls.spliced_cons (x8 xK xL (thn (ho xt s σ H _ I h) λv s1 pc=>?_));obtain⟨x,H1,I1,r1,a,ks,ex,e1,few,q1⟩:=pc;subst ex;obtain rfl:v=Value.ref a:=r1;obtain⟨t1,t2,t3⟩:=aC I1 (.inr ⟨_,.inl e1⟩);obtain⟨_,_,xs,kt,o1,es,ep,ho1,hd1,_⟩:=(show ObjOk X.prog X.w H1 s1.heap a (.dT (kz ks)) from I1.hok a _ e1);refine⟨"dict", "dict.items",PySem.F.plainAttrs_dict,PySem.F.slot_dict_items,PySem.F.type_dict_items,t1,t2,Calls.callWith_builtin rfl (PySem.evalArgs_none (aL ho1 hd1 t3 ?_))⟩;refine Calls.spliced_nil ?_;have I2:=I1.kept (h':=s1.heap.push { cls := .type "dict_items",data := .fields #[.ref a] }) (t':=s1.toks) λb u q=>jC _ q;exact yc hc hu I2 e1 few ⟨_,jH _ rfl,rfl,rfl⟩ q1
end
section
variable {X:Cx}{xt:xg}{σ:St}{H:Hp}{s:xR}
def yg(hu:X.A.in1.in1.units<cLine)(I:Inv X xt σ H s)(hl:SqL X.K H a xs)(xl:'h'=ks.length)(few:ks.length<64)
 (hp:∀(i:Nat) (x:V) (kv:xr×V),xs[i]?=some x->ks[i]?=some kv->QM H x kv) (nd:(ks.map (·.1)).Nodup)
 (q:∀(l:xS) (qs:List (xr×V)) (ys:List V),qs.Perm ks->qs.Pairwise (λp q=>HT.lexLt p.1 q.1=true)->H l=none->ys.length=qs.length->(∀(i:Nat) (x:V) (kv:xr×V),ys[i]?=some x->qs[i]?=some kv->QM H x kv)->Q (.ref l) (upd H l (.lst ys))) :
 wpAny (model X.prog X.w) X.A (call (.builtin "sorted") [.ref a]) (EP X xt σ Q) X.xe s:=by
 obtain⟨its,rv,pl,hz⟩:=I.list hl;have il:its.length=ks.length:=by rw[<- rv.length,xl]
 obtain⟨kk,ekk⟩:∃kk:Nat->xr×V,kk=λi=>ks.getD i ([],.non):=⟨_,rfl⟩;obtain⟨pp,epp⟩:∃pp:Nat->xS,pp=λi=>match xs.getD i .non with | .ref p=>p|_=>0:=⟨_,rfl⟩
 obtain⟨bb,ebb⟩:∃bb:Nat->xS,bb=λi=>match H (pp i) with|some (.tup (.ref b::_))=>b|_=>0:=⟨_,rfl⟩
 have at_:∀i,i<ks.length->xs[i]?=some (.ref (pp i))/\its[i]?=some (Value.ref (pp i))/\H (pp i)=some (.tup [.ref (bb i),(kk i).2])/\H (bb i)=some (.tup ((kk i).1.map V.int)):=λi hi=>by
  have e1:ks[i]?=some (kk i):=by rw[ekk];simp[List.getD,hi]
  have hx:i<'h':=by omega
  obtain⟨p,b,e2,e3,e4⟩:=hp i xs[i] (kk i) (jB hx) e1;have e5:xs.getD i .non=.ref p:=by rw[jL,jB hx,e2];rfl
  have e6:pp i=p:=by rw[epp];dsimp only;rw[e5]
  have e7:bb i=b:=by rw[ebb];dsimp only;rw[e6,e3]
  obtain⟨w',h1,h2⟩:=rv.get (jB hx);rw[e2]at h2
  cases h2
  rw[e6,e7];exact⟨by rw[jB hx,e2],h1,e3,e4⟩
 have dist:∀i j,i<ks.length->j<ks.length->i≠j->(kk i).1≠(kk j).1:=λi j hi hj xF z=>by
  have e1:(ks.map (·.1))[i]?=some (kk i).1:=by rw[jD,ekk];simp[List.getD,hi]
  have e2:(ks.map (·.1))[j]?=some (kk i).1:=by rw[jD,z,ekk];simp[List.getD,hj]
  obtain⟨a1,c1⟩:=jF.mp e1;obtain⟨a2,c2⟩:=jF.mp e2;exact xF ((List.getElem_inj nd).mp (c1.trans c2.symm))
 have ord:SOrd ks.length λi j=>HT.lexLt (kk i).1 (kk j).1:=⟨λi j k _ _ _ h1 h2=>aM h1 h2,λi j hi hj xF h=>fG (dist i j hi hj xF) h⟩
 have tp:∀i,i<ks.length->∃its:xm,IntsAre its.toArray.toList (kk i).1/\IsTup s.heap (bb i) its.toArray:=λi hi=>by
  obtain⟨its,rv,pl,_⟩:=I.tuple (.of (at_ i hi).2.2.2);exact⟨its,mr rv,pl⟩
 have keyAt:∀i,i<ks.length->∀g:Heap,(∀b o,'i' b=some o->g.get? b=some o)->(tupleKind (Jl X.prog X.w)).is g ((kk i).1.map Sum.inl) (bb i):=λi hi g kp=>by
  obtain⟨o1,its,n1,h1,h2,h3,h4⟩:=Zt (a:=bb i) (ks:=(kk i).1.map Sum.inl) I.hok (by rw[Xy];exact(at_ i hi).2.2.2);exact⟨o1,its,n1,kp _ _ h1,h2,h3,h4⟩
 have pair:∀i,i<ks.length->∃(o:Obj) (u:xQ) (n:Nat),'i' (pp i)=some o/\o.cls=.type "tuple" /\ o.data=.seq #[.ref (bb i),u] n:=λi hi=>by
  obtain⟨its2,rv2,⟨o,h1,h2,n,h3⟩,_⟩:=I.tuple (X:=X) (.of (at_ i hi).2.2.1)
  cases rv2 with
  |cons r1 r2 =>
   cases r2 with
   |cons r3 r4 =>
    cases r4
    cases r1
    exact⟨o,_,n,h1,h2,h3⟩
 have itsE:its=((List.range ks.length).map pp).map Value.ref:=by
  refine List.ext_getElem? λi=>?_
  by_cases hi:i<ks.length
  . rw[(at_ i hi).2.1,jD,jD,List.getElem?_range hi];rfl
  . rw[k7 'c',k7 (by simp;omega)]
 let C:xm->xR->Prop:=λvs s1=>∃(g:Heap),s1={ s with heap:=g }/\(∀b o,'i' b=some o->g.get? b=some o)/\'g'<g.objs.size/\vs=its
 refine fE (C:=C) (λE' R hR=>collect_list (vs:=its) pl.isList (hR _ _ ⟨_,rfl,λb o e=>?_,?_,rfl⟩) (by rw[il,qH];omega)) (λvs s1 hC=>?_) (tuples' false) (λ_ _ i j=>HT.lexLt (kk i).1 (kk j).1) (λvs s1 hC=>?_) (λvs s1 hC two g2 xP R hR=>?_) (λvs s1 hC g2 xP i j Z hi hj xF hZ=>?_) (λvs s1 hC p g2 c pm sr xP hg=>?_)
 . have hb:=jI e;rw[Heap.get?_update_ne _ _ _ _ (jQ hb),Heap.get?_push_ne _ _ _ (jQ hb)];exact e
 . rw[Heap.size_update,size_push'];exact Nat.lt_succ_self _
 . obtain⟨g,rfl,kp,up,rfl⟩:=hC;omega
 . obtain⟨g,rfl,kp,up,rfl⟩:=hC;rw[il];exact ord
 . obtain⟨g,rfl,kp,up,rfl⟩:=hC
   have t:=fI (h:=g2) ((List.range ks.length).map pp) ((List.range ks.length).map λi=>Value.ref (bb i)) 'f' λi b f e1 e2=>by
    have hi:i<ks.length:=by have:=(jF.mp e1).1;simpa using this
    rw[jD,List.getElem?_range hi]at e1 e2
    cases e1;cases e2
    obtain⟨o,u,n,h1,h2,h3⟩:=pair i hi;exact⟨o,_,n,xP _ _ (kp _ _ h1),h2,h3,rfl⟩
   rw[<- itsE]at t;refine kat_kind (T := .type "tuple") t (by simp;omega) (λv hv=>?_) rfl (by rw[show(Value.type "tuple" != Value.type "tuple")=false by decide];exact hR);obtain⟨i,hi,rfl⟩:=jG.mp hv;have hi:=kh.mp hi;obtain⟨o1,its,n1,h1,h2,h3,h4⟩:=keyAt i hi g2 λb o q=>xP b o (kp b o q);have L:Looks (model X.prog X.w) g2 (typeOf (.ref (bb i))) o1.cls:=(Looks.ld h1).andThen .now;rw[h2]at L;exact L
 . obtain⟨g,rfl,kp,up,rfl⟩:=hC;rw[il]at hi hj;obtain⟨o1,u1,n1,f1,_,f2⟩:=pair i hi;obtain⟨o2,u2,n2,f3,_,f4⟩:=pair j hj;have v1:vs.getD i Value.none = .ref (pp i):=by rw[jL,(at_ i hi).2.1];rfl
   have v2:vs.getD j Value.none=.ref (pp j):=by rw[jL,(at_ j hj).2.1];rfl
   rw[v1,v2];have kp3:∀b o,'i' b=some o->g2.get? b=some o:=λb o q=>xP b o (kp b o q);refine kat_lt (kp3 _ _ f1) f2 (kp3 _ _ f3) f4 (kat_cons ((tupleKind (Jl X.prog X.w)).eqBool (E:=λ_ _=>False) hu (keyAt i hi g2 kp3) (keyAt j hj g2 kp3) ?_));have ne:(kk i).1.map (Sum.inl:Int->Key)≠(kk j).1.map Sum.inl:=λz=>dist i j hi hj xF ((List.map_inj_right (λ_ _ h=>Sum.inl.inj h)).mp z);rw[qj ne];refine kat_no (kat_one _ _ ?_);obtain⟨i1,m1,o1,h1,h2,m1',h3⟩:=tp i hi;obtain⟨i2,m2,o2,h4,h5,m2',h6⟩:=tp j hj;exact HT.lt_tupInts ⟨o1,kp3 _ _ h1,h2,m1',h3⟩ ⟨o2,kp3 _ _ h4,h5,m2',h6⟩ m1 m2 hu hZ
 . obtain⟨g,rfl,kp,up,rfl⟩:=hC;rw[il]at pm sr;dsimp only at xP hg ⊢;have kp3:∀b o,s.heap.get? b=some o->g2.get? b=some o:=λb o q=>xP b o (kp b o q);have pz:p.toList.length=ks.length:=by rw[js];exact pm.size
   have pin:∀i∈p.toList,i<ks.length:=λi hi=>by
    have:=pm.mem_iff.mp (Array.mem_toList_iff.mp hi);simpa using this
   have out:Qg vs p=p.toList.map λi=>Value.ref (pp i):=by
    unfold Qg;refine ji λi hi=>?_;rw[jL,(at_ i (pin i hi)).2.1];rfl
   rw[out]at hg;have fr:H g.objs.size=none:=I.hok.fresh (kG up);refine⟨.ref g.objs.size,upd H g.objs.size (.lst (p.toList.map λi=>V.ref (pp i))),I.laid (t':=s.toks) kp3 (kG up) (show ObjOk X.prog X.w _ g2 _ (.lst (p.toList.map λi=>V.ref (pp i))) from⟨by rw[jA,pz,qH];omega,p.toList.map λi=>Value.ref (pp i),c,?_,hg⟩),rfl,q g.objs.size (p.toList.map kk) (p.toList.map λi=>V.ref (pp i)) ?_ ?_ fr (by rw[jA,jA]) λj x kv e1 e2=>?_⟩
   . generalize p.toList=pl'
     induction pl' with
     |nil=>exact .nil
     |cons i pl' ih=>exact .cons rfl ih
   . have e1:(List.range ks.length).map kk=ks:=by
      refine kX (by rw[jA,kP]) λi h1 h2=>?_;rw[j9,List.getElem_range,ekk];simp[List.getD,h2]
     have:=(show p.toList.Perm (List.range ks.length) from Array.perm_iff_toList_perm.mp pm).map kk
     rwa [e1]at this
   . rw[jq];refine List.pairwise_iff_getElem.mpr λi j hi hj xF=>?_;have:=sr i j xF 'c';have g1:p.getD i 0=p.toList[i]:=by simp[Array.getD,show i < p.size by simpa using hi]
     have g3:p.getD j 0=p.toList[j]:=by simp[Array.getD,show j<p.size by simpa using hj]
     rw[g1,g3]at this;exact this
   . rw[jD]at e1 e2
     cases ej:p.toList[j]? with
     |none=>rw[ej]at e1;cases e1
     |some i =>
      rw[ej]at e1 e2
      cases e1;cases e2
      have hi:=pin i (jZ ej);exact⟨_,bb i,rfl,(at_ i hi).2.2.1,(at_ i hi).2.2.2⟩
def aO(K:xh)(hK:X.K=K)(hu:X.A.in1.in1.units<cLine):CallR X (.builtin "sorted") (λvs H Q=>∃(a:xS) (xs:List V) (ks:List (xr×V)),vs=[.ref a]/\SqL K H a xs/\'h'=ks.length/\ks.length<64 /\
 (∀(i:Nat) (x:V) (kv:xr×V),xs[i]?=some x->ks[i]?=some kv->QM H x kv)/\(ks.map (·.1)).Nodup /\
 ∀(l:xS) (qs:List (xr×V)) (ys:List V),qs.Perm ks->qs.Pairwise (λp q=>HT.lexLt p.1 q.1=true)->H l=none->ys.length=qs.length->(∀(i:Nat) (x:V) (kv:xr×V),ys[i]?=some x->qs[i]?=some kv->QM H x kv)->Q (.ref l) (upd H l (.lst ys))):=by
 subst hK;intro xt s σ H xs us Q I r h;obtain⟨a,xs,ks,rfl,h1,h2,h3,h4,h5,q⟩:=h;obtain⟨u,rfl,rx⟩:=Qc r
 cases rx
 exact yg hu I h1 h2 h3 h4 h5 q
end
end L2
namespace L2
open PySem
theorem fJ:∀(a:xr),HT.lexLt a a=false
 | []=>rfl
 |x::a=>by
  rw[HT.lexLt_cons,qh rfl];exact fJ a
end L2
namespace L2
open PySem PySem.W PySem.Spec PyProof.Rows
section
variable {prog:xT}{w:xU}{A:xV}{E:xc}{s:xR}
def yh(lo:(d==sysModules)=false)(ty:s.TypeIs (.ref d) "dict")(D:VDc s.heap d es ep)
 (k:Q (.ref 'g') { s with heap:=s.heap.push { cls := .type "dict_keyiterator",data := .fields #[.ref d,.int 0 0,.int es.size 0,.int ep 0] } }):wpAny (model prog w) A (pyIter (.ref d)) Q E s:=by
 obtain⟨od,od1,od2⟩:=D;refine wpAny_pyIter_slot ty PySem.F.slot_dict_iter (qE PySem.F.slot_dict_iter ty PySem.F.entry_dict_iter ?_ (PySem.F.args_dict_iter_1 _));unfold Builtin.«dict.__iter__» Builtin.Dict.dictSlotNone;refine q8 (q8 (qV ty (qf ?_)));show wpAny _ _ (Builtin.Dict.showsAll d >>= _) _ _ s;unfold Builtin.Dict.showsAll;rw[qg (by rw[lo];decide)];refine q8 (qf (q8 (qM od1 od2 (q8 (qX od1 od2 ?_)))));refine q8 (qu (qf ⟨_,rfl, "dict_keyiterator",_,⟨_,jH _ rfl,rfl⟩,PySem.F.slot_dict_keyiterator_next.lookup,?_⟩));simpa [rawInt] using k
theorem yi(t:s.heap.IsKeyIter it d i es.size ep)(D:VDc s.heap d es ep)(hi:i<es.size)
 (k:∀g,g.IsKeyIter it d (i+1) es.size ep->Heap.SameBut it s.heap g->Q (some es[i].key) { s with heap:=g }):wpAny (model prog w) A (pyNext (.ref it)) Q E s:=by
 obtain⟨o,ho,hc,hd⟩:=id t;obtain⟨od,od1,od2⟩:=D;unfold pyNext;refine q8 (wpAny_attempt (qD (name:=Str.ofString "__next__") t.typeIs PySem.F.slot_dict_keyiterator_next (qE PySem.F.slot_dict_keyiterator_next t.typeIs PySem.F.entry_dict_keyiterator_next ?_ (PySem.F.args_dict_keyiterator_next_1 _))));refine q8 (qf (q8 (q8 (q8 (qS t.typeIs (qf (q8 (wpAny_fieldsOf ho hd ?_))))))));simp only[show Builtin.Dict_items.ownsTuple "dict_keyiterator" = false by decide,j6,qP];show wpAny _ _ (if (Value.ref d==Value.none)=true then _ else _) _ _ s;rw[qg 'f'];refine q8 (qf (q8 (qM od1 od2 ?_)));rw[qg 'f'];refine q8 (qf (q8 (qX od1 od2 ?_)));rw[qg 'f'];refine qf ?_;simp only[show ¬((i:Int)<0) by omega,qP,kC,jl hi];refine q8 (q8 (qS t.typeIs (qf (q8 (wpAny_isOneOf_keyiter t.typeIs ?_)))));show wpAny _ _ (setField (.ref it) 1 (rawInt ((i:Int)+1)) >>= _) _ _ s;refine q8 (qR ho hd 'f' ?_);have t':(s.heap.update it (Obj.mapFields (·.setIfInBounds 1 (rawInt ((i:Int)+1))))).IsKeyIter it d (i+1) es.size ep:=⟨_,jn _ ho (Obj.isFreed_of_fields (Obj.data_mapFields hd _)),(Obj.cls_mapFields ..).trans hc,by rw[Obj.data_mapFields hd];simp[rawInt]⟩;refine q8 (qF (q8 (wpAny_isOneOf_keyiter (s:={ s with heap:=s.heap.update it (Obj.mapFields (·.setIfInBounds 1 (rawInt ((i:Int)+1)))) }) t'.typeIs ?_)));show wpAny _ _ (pure es[i].key) _ _ _;exact qf (qf ⟨_,rfl,qf (k _ t' (Heap.SameBut.update ..))⟩)
theorem yj(hh:A.handled=none)(t:s.heap.IsKeyIter it d es.size es.size ep)(D:VDc s.heap d es ep)
 (k:∀g,Heap.ExtBut it s.heap g->Q none { s with heap:=g }):wpAny (model prog w) A (pyNext (.ref it)) Q E s:=by
 obtain⟨o,ho,hc,hd⟩:=id t;obtain⟨od,od1,od2⟩:=D;unfold pyNext;refine q8 (wpAny_attempt (qD (name:=Str.ofString "__next__") t.typeIs PySem.F.slot_dict_keyiterator_next (qE PySem.F.slot_dict_keyiterator_next t.typeIs PySem.F.entry_dict_keyiterator_next ?_ (PySem.F.args_dict_keyiterator_next_1 _))));refine q8 (qf (q8 (q8 (q8 (qS t.typeIs (qf (q8 (wpAny_fieldsOf ho hd ?_))))))));simp only[show Builtin.Dict_items.ownsTuple "dict_keyiterator" = false by decide,j6,qP];show wpAny _ _ (if (Value.ref d==Value.none)=true then _ else _) _ _ s;rw[qg 'f'];refine q8 (qf (q8 (qM od1 od2 ?_)));rw[qg 'f'];refine q8 (qf (q8 (qX od1 od2 ?_)));rw[qg 'f'];refine qf ?_;simp only[show ¬((es.size:Int)<0) by omega,qP,kC,Array.getElem?_eq_none (jE es.size)];refine q8 (q8 (qS t.typeIs (qf ?_)));show wpAny _ _ (setField (.ref it) 0 .none >>= _) _ _ s;refine q8 (qR ho hd 'f' (q8 ?_));unfold newExc newTuple;refine q8 (qu (q8 (m:=firstArgMember _ _) (wpAny_of_eq (a:=Value.none) (by first|rfl|(unfold firstArgMember;rfl)) (qu ?_ (by size_fits)))) (by size_fits));unfold raiseNew;refine q8 (wpAny_handled ?_);rw[show A.in1.handled=none from hh];refine q8 (qf (wpAny_throw ?_));refine q8 (x5 (b:=true) (T := "StopIteration") ⟨_,jH _ rfl,rfl⟩ isSubtype_stop (qf ?_));exact k _ (((Heap.SameBut.update ..).extBut.push _).push _)
end
end L2
namespace PySem.SeqAt
open AutoSeq1 (wpAny_loadPart')
open MeetsSeq MeetsSeq2 MeetsSeq3 SeqRoads2
def tuple_indexAt(l:xS)(items:xk)(n:Nat)(dd:Option xS)(sl:Array (xj))(x:xQ)(e:xQ->Bool)(j:Nat)(hj:j<items.size)
 (hit:e items[j]=true) (hno:∀m (hm:m<items.size),m<j->e items[m]=false) :
 Meets (Builtin.«tuple.index» ⟨[.ref l,x],[]⟩)
  (λA R s=>'i' l=some { cls := .type "tuple",dict:=dd,data := .seq items n,slots:=sl }/\(∀y,y∈items->EqAt A.in1 s y x (e y))/\R (.ok (.ret (.int j s.toks))) { s with toks:=s.toks+1 }) :=
 .of_wp λprog w A R s h=>by
  obtain⟨hp,g,d,tk,os⟩:=s;obtain⟨hl,he,h⟩:=h;wp_walk using wpAny_loadPart' hl;show wpAny _ _ (forIn [0:min items.size items.size] (none,()) _) _ _ _;rw[Std.Legacy.Range.forIn_eq_forIn_range'];simp only[Std.Legacy.Range.size,Nat.sub_zero,Nat.add_sub_cancel,Nat.div_one,Nat.min_self]
  refine wpAny_forIn_list _
   (λxy b s'=>b.1=none/\s'=⟨hp,g,d,tk,os⟩/\∃i,xy=List.range' i (items.size - i)/\i<=j)
   _ ?_ ?_ _ _ ⟨rfl,rfl,0,by simp,jT _⟩
  . rintro a xy b s' ⟨hb,rfl,i,hr,hi⟩;have hlt:i < items.size:=by omega
    obtain⟨rfl,hrest⟩:a=i/\xy=List.range' (i+1) (items.size - (i+1)):=by
     have e:items.size - i=(items.size - (i+1))+1:=by omega
     rw[e,List.range'_succ]at hr;injection hr with h1 h2
     exact⟨h1,h2⟩
    rw[jl hlt];refine q8 (he _ (Array.getElem_mem hlt) prog w _ _ ?_)
    by_cases xF:a=j
    . subst xF;rw[hit];wp_walk;exact⟨_,rfl,h⟩
    . rw[hno a hlt 'c'];wp_walk;exact⟨rfl,rfl,a+1,hrest,by omega⟩
  . rintro⟨b1,b2⟩ s' ⟨hb,rfl,i,hr,hi⟩;have e:items.size - i=(items.size - (i + 1)) + 1:=by omega
    rw[e,List.range'_succ]at hr
    cases hr
end PySem.SeqAt
namespace L2
open PySem PySem.Spec PyProof.Rows
section
variable {X:Cx}
def nG(K:xh)(hK:X.K=K):MtR X "tuple.index" (λv vs H Q=>∃(p:xS) (xs:List V) (y:V) (j:Nat) (hj:j<'h'),v=.ref p/\vs=[y]/\SqT K H p xs/\QU y=true/\xs.all QU=true/\eqV xs[j] y=true/\(∀m (hm:m<'h'),m<j->eqV xs[m] y=false)/\Q (.int j) H):=by
 subst hK;intro xt s σ H v vs u us Q I rx rs h;obtain⟨p,xs,y,j,hj,rfl,rfl,hH,fy,fx,hit,hno,q⟩:=h
 cases rx
 obtain⟨u,rfl,ru⟩:=Qc rs;obtain⟨its,r,pl,z⟩:=I.tuple hH;have hl:=r.length
 have same:∀m (hm:m<'h'),∃hm':m<its.length,eqU y its[m]=eqV xs[m] y:=λm hm=>by
  obtain⟨w,hw,rw'⟩:=r.get (jB hm);obtain⟨hm',e'⟩:=jF.mp hw;refine⟨hm',?_⟩;rw[e'];exact eQ rw' (List.all_eq_true.mp fx _ (jX hm))
 have ty:=pl.typeIs;obtain⟨⟨cls,dd,dat,sl⟩,e,hc,n,hd⟩:=pl
 cases hc
 cases hd
 refine call_meets (Q:=EP X xt σ Q) PySem.F.slot_tuple_index ty PySem.F.entry_tuple_index (PySem.F.args_tuple_index_2 _ _)
  (SeqAt.tuple_indexAt p its.toArray n dd sl u (eqU y) j (by rw[jK];omega) ?_ ?_) ⟨e,λw hw=>Zp ru fy r fx w (by simpa using hw),⟨.int _,H,I.tok _,⟨_,rfl⟩,q⟩⟩
 . obtain⟨hm',e'⟩:=same j hj;simpa [e'] using hit
 . intro m hm hmj;have hm2:m < xs.length:=by rw[jK]at hm;omega
   obtain⟨hm',e'⟩:=same m hm2;simpa [e'] using hno m hm2 hmj
def TupZ(H:Hp)(p:xS)(xs:List V):Prop:=∃o,H p=some (.frz o (.tup xs))/\o.dict=none
def TupZ.sq{K:xh}{H:Hp}{p:xS}{xs:List V}(h:TupZ H p xs):SqT K H p xs:=by obtain⟨o,h,_⟩:=h;exact .inl (.inr ⟨o,h⟩)
def TupZ.same(h:TupZ H p xs)(s:Same H H'):TupZ H' p xs:=by obtain⟨o,h,d⟩:=h;exact⟨o,s _ _ h,d⟩
def nH(K:xh)(hK:X.K=K):CallR X (.type "tuple") (λxs H Q=>∃p ys,xs=[.ref p]/\SqL K H p ys/\∀l o,H l=none->o.dict=none->Q (.ref l) (upd H l (.frz o (.tup ys)))):=by
 subst hK;intro xt s σ H xs us Q I r h;obtain⟨p,ys,rfl,hq,q⟩:=h;obtain⟨u,rfl,rx⟩:=Qc r
 cases rx
 obtain⟨its,r',pl,hz⟩:=I.list hq;have xx:=r'.length;refine call_tuple_list pl.isList (λh' kp=>?_) (by simp only[jK]<;>omega);have I1:Inv X xt σ H { s with heap:=h' }:=I.kept (t':=s.toks) kp
 have I2:Inv X xt σ (upd H h'.objs.size (.frz { cls := .type "tuple",data := .seq its.toArray } (.tup ys))) { s with heap:=h'.push { cls := .type "tuple",data := .seq its.toArray } } :=
  I1.laid (t':=s.toks) (λb o e=>jC _ e) (jE _) (show ObjOk X.prog X.w _ _ _ (.frz _ (.tup ys)) from⟨jH _ rfl,hz,its,r',IsTup.new _ _⟩)
 exact⟨.ref h'.objs.size,_,I2,rfl,q _ _ (I1.hok.fresh (jE _)) rfl⟩
def yk(r:V->List V->Hp->VK->Prop)(to:TE)(t:TA):TE:=λσ H Q=>to σ H λx H1=>∃p xs,x=.ref p/\TupZ H1 p xs/\t σ H1 λxs H2=>r x xs H2 Q
variable {o e:Expr}{es:List Expr}{to:TE}{t:TA}{name:Str}{apos cpos:Pos}{id:String}{r:V->List V->Hp->VK->Prop}
theorem nI(slot:Slot "tuple" name id)(hty:typeOf (.builtin id)=pure (.type "method_descriptor"))(hm:MtR X id r)(ho:PE X o to)(ha:PA X (e::es) t)
 (xK:attributeBase o name X.env (eval o X.env)=eval o X.env:=by rfl)
 (hfew:((backTo cpos (starEach (e::es) X.env)).all (λx => !x.1)&&(backToKw cpos (keywordEach [] X.env)).all (λx=>x.1.isSome)
  && decide ((e::es).length+([]:List Keyword).length+(if ([]:List Keyword).isEmpty then 0 else 1)<30))=true:=by rfl)
 (xL:(apos.endLine==cpos.line)=true:=by rfl) (hs:starEach (e::es) X.env=(false,eval e X.env)::starEach es X.env:=by rfl) (hplain:(backTo cpos (starEach es X.env)).any (·.1)=false:=by rfl) :
 PE X (.Call (.Attribute o name apos) (e::es) [] cpos) (yk r to t):=by
 intro xt s σ H Q I h;refine wpAny_Call_method_late xK hfew xL rfl (thn (ho xt s σ H _ I h) λv s1 pc=>?_);obtain⟨x,H1,I1,r1,p,xs,ex,tz,q1⟩:=pc;subst ex;have r1':=r1
 cases r1'
 obtain⟨_,_,pl,_⟩:=I1.tuple (X:=X) tz.sq
 have h2:∃ob,s1.heap.get? p=some ob/\ob.dict=none:=by
  obtain⟨ob,e1,e2⟩:=tz;exact⟨ob,(I1.hok p _ e1).1,e2⟩
 refine⟨"tuple",id,PySem.F.plainAttrs_tuple,slot,hty,pl.typeIs,λa e=>(by cases e;exact h2),?_⟩;have hA:=ha cpos xt s1 σ H1 _ I1 q1;rw[hs]at hA ⊢;refine Calls.callWith_builtin (by show(false||(backTo cpos (starEach es X.env)).any (·.1))=false;rw[hplain]<;>rfl) (Calls.evalArgs_plain ?_);exact thn hA λus s2 ⟨vs,H2,I2,r2,q2⟩=>hm xt s2 σ H2 _ vs _ us Q I2 r1 r2 q2
def nJ(K:xh):R2:=λx y H Q=>∃a b xs ys,x=.ref a/\y=.ref b/\SqT K H a xs/\SqT K H b ys/\'h'+ys.length<=sizeLine /\
 (xs=[]->Q (.ref b) H)/\(xs≠[]->ys=[]->Q (.ref a) H)/\(ys≠[]->∀p,H p=none->Q (.ref p) (upd H p (.tup (xs++ys))))
theorem fK(K:xh)(hK:X.K=K):OpR X (binaryOp .Add) (nJ K):=by
 subst hK;intro xt s σ H x y v u Q I rx ry h;obtain⟨a,b,xs,ys,rfl,rfl,ha,hb,hz,q0,q1,q2⟩:=h
 by_cases hx:xs=[]
 . cases rx
   cases ry
   obtain⟨its,r1,p1,_⟩:=I.tuple ha;obtain⟨its2,r2,p2,_⟩:=I.tuple hb;have e:=r1.nil_iff.mpr hx;obtain⟨⟨cls,dd,data,sl⟩,ho,hc,n,hd⟩:=id p1;obtain⟨⟨cls2,dd2,data2,sl2⟩,ho2,hc2,n2,hd2⟩:=id p2;simp only at hc hd hc2 hd2;subst hc hd hc2 hd2
   exact concat_meets ⟨_,ho,rfl⟩ ⟨_,ho2,rfl⟩ noFill_tuple_add seq_tuple_add PySem.F.slot_tuple_add PySem.F.entry_tuple_add (PySem.F.args_tuple_add_2 _ _)
    (tuple_addW0 a b its.toArray its2.toArray n n2 dd dd2 sl sl2 (by simp[e])) ⟨ho,ho2,⟨.ref b,H,I,rfl,q0 hx⟩⟩
 . exact my xt s σ H _ _ v u Q I rx ry ⟨a,b,xs,ys,rfl,rfl,ha,hb,hx,hz,q1 hx,q2⟩
end
section
variable {X:Cx}
def ym:R2:=λx y H Q=>∃a b xs ys,x=.ref a/\y=.ref b/\TupZ H a xs/\TupZ H b ys/\'h'+ys.length<=sizeLine/\∀p H',Same H H'->TupZ H' p (xs++ys)->Q (.ref p) H'
theorem fL:OpR X (binaryOp .Add) ym:=by
 intro xt s σ H x y v u Q I rx ry h;obtain⟨a,b,xs,ys,rfl,rfl,ha,hb,hz,q⟩:=h
 cases rx
 cases ry
 obtain⟨its,r1,p1,_⟩:=I.tuple (ha.sq (K:=X.K));obtain⟨its2,r2,p2,_⟩:=I.tuple (hb.sq (K:=X.K))
 by_cases hx:xs=[]
 . have e:=r1.nil_iff.mpr hx;obtain⟨⟨cls,dd,data,sl⟩,ho,hc,n,hd⟩:=id p1;obtain⟨⟨cls2,dd2,data2,sl2⟩,ho2,hc2,n2,hd2⟩:=id p2;simp only at hc hd hc2 hd2;subst hc hd hc2 hd2
   exact concat_meets ⟨_,ho,rfl⟩ ⟨_,ho2,rfl⟩ noFill_tuple_add seq_tuple_add PySem.F.slot_tuple_add PySem.F.entry_tuple_add (PySem.F.args_tuple_add_2 _ _)
    (tuple_addW0 a b its.toArray its2.toArray n n2 dd dd2 sl sl2 (by simp[e])) ⟨ho,ho2,⟨.ref b,H,I,rfl,q b H (Same.refl _) (by rw[hx];exact hb)⟩⟩
 . refine HT.cat_tup p1 p2 (λz=>hx (r1.nil_iff.mp z)) (λz=>⟨.ref a,H,I,rfl,q a H (Same.refl _) (by rw[r2.nil_iff.mp z,jk];exact ha)⟩) (λz=>?_) (by rw[<- r1.length,<- r2.length];exact hz);have fr:=I.hok.fresh (jE 'g');refine⟨.ref 'g',_,I.laid (t':=s.toks) (o := .frz { cls := .type "tuple",data := .seq (its++its2).toArray } (.tup (xs++ys))) (λb ob q=>jC _ q) (jE _) ?_,rfl,q _ _ (J6 fr _) ⟨_,J1,rfl⟩⟩;exact⟨jH _ rfl,by rw[jU];exact hz,_,r1.append r2,IsTup.new _ _⟩
def yn(K:xh)(tl:TE):TI:=λσ H R=>tl σ H λx H1=>∃a,x=.ref a/\(((∃xs,SqL K H1 a xs)/\R (Itl K a) H1)\/((∃xs,SqT K H1 a xs)/\R (Itt K a) H1))
def yo(hl:PE X l tl):PI X tg l (yn X.K tl):=by
 intro xt s σ H R I h;refine thn (hl xt s σ H _ I h) λv s1 pc=>?_;obtain⟨x,H1,I1,r1,q1⟩:=pc;obtain⟨a,e,q⟩:=q1;subst e
 cases r1
 rcases q with ⟨⟨xs,hq⟩,q⟩|⟨⟨xs,hq⟩,q⟩
 . obtain⟨its,rv,p,hz⟩:=I1.list hq;refine wpAny_pyIter_list p.isList ?_;refine⟨s1.heap.objs.size,[s1.heap.objs.size],_,_,H1,rfl,I1.kept (t':=s1.toks) λb o e=>jC _ e,lL a _,⟨_,jH _ rfl,rfl,rfl⟩,λb hb=>?_,q⟩;have e:b=s1.heap.objs.size:=by simpa using hb
   subst e;exact I1.fpOk (jE _) (I1.hok.fresh (jE _))
 . obtain⟨its,rv,p,hz⟩:=I1.tuple hq;refine wpAny_pyIter_tuple (show s1.heap.IsTuple a its.toArray from p) ?_;refine⟨s1.heap.objs.size,[s1.heap.objs.size],_,_,H1,rfl,I1.kept (t':=s1.toks) λb o e=>jC _ e,lM a _,⟨_,jH _ rfl,rfl,rfl⟩,λb hb=>?_,q⟩;have e:b=s1.heap.objs.size:=by simpa using hb
   subst e;exact I1.fpOk (jE _) (I1.hok.fresh (jE _))
end
def nK{X:Cx}{i:Nat}{x:Str}{es:List Expr}{t:TA}{b:Expr}{tb:TE}{r:R2}{p p2 pos xO:Pos}(hN:X.N.Nodup)(hi:X.N[i]?=some x)(hx:X.env.scope.names.lookup x=some .local)(hr:IxR X r)(ha:PA X es t)(hb:PE X b tb)(hs:mz b) :
 PS X (.Assign [.Name x xO] (.Subscript (.List es p) b p2) pos) (QH (tOp r (ar t) tb) (Jh i)) :=
 Ja hN hi (.inl hx) (J4 hr (QB ha) hb hs) (hs:=rfl) (hf := .inr hx)
section
variable {X:Cx}
def yp:SlR X (λx lo hi H Q=>∃z,x=.str z/\z.length<=sizeLine/\Q (.str (Txt.slice z lo hi)) H):=by
 intro xt s σ H x v vl vu lo hi sl Q I rx hs pl pu h;obtain⟨z,rfl,hz,q⟩:=h;obtain⟨t,rfl⟩:=rx
 obtain⟨l,rfl,el⟩:∃l:Option (Int×Tok),vl=partValue l/\l.map (·.1)=lo:=by
  cases pl
  . exact⟨none,rfl,rfl⟩
  . exact⟨some (_,_),rfl,rfl⟩
 obtain⟨u,rfl,eu⟩:∃u:Option (Int×Tok),vu=partValue u/\u.map (·.1)=hi:=by
  cases pu
  . exact⟨none,rfl,rfl⟩
  . exact⟨some (_,_),rfl,rfl⟩
 refine⟨"str",_,F.slot_str_getitem.lookup,typeIs_str s z t,wpAny_getItem_str_slice (l:=l) (u:=u) (st:=none) hs rfl ?_⟩;subst el eu;exact post_val_or_str ⟨jg (Txt.slice_le z _ _) hz,λt' k=>⟨.str _,H,I.tok k,⟨_,rfl⟩,q⟩⟩
end
section
variable {X:Cx}
inductive PJ (X:Cx):List Expr->List TE->Prop
 |nil:PJ X [] []
 |cons {e:Expr}{es:List Expr}{t:TE}{ts:List TE} (h:PE X e t) (r:PJ X es ts):PJ X (e::es) (t::ts)
end
end L2
namespace L2
open PySem PySem.W PySem.Spec PyProof.Rows
def yq:typeLookup (.type "list_reverseiterator") "__len__" = pure none:=by rw[typeLookup_type,builtinLookup_eq_fast];kernel_rfl
def yr:typeLookup (.type "list_reverseiterator") "__length_hint__" = pure (some (.builtin "list_reverseiterator.__length_hint__")):=by rw[typeLookup_type,builtinLookup_eq_fast];kernel_rfl
structure RvSrc (prog:xT) (w:xU) (T:String) (I d:xS) (n:Nat) (P:Nat->xQ->Prop) (St:Nat->Heap->Prop):Prop where
 walk:∀A:xV,A.handled=none->Walks prog w A I [I,d] [I] n P St
 type:∀(s:xR),St 0 s.heap->s.TypeIs (.ref I) T
 there:∀h:Heap,St 0 h->I<h.objs.size/\d<h.objs.size
 notList:(Value.type T==Value.type "list")=false
 notTuple:(Value.type T==Value.type "tuple")=false
 hint:∀(A:xV) (E:xc) (s:xR) (Q:Bool->xR->Prop),A.handled=none->St 0 s.heap->(∀b tk,Q b { s with toks:=tk })->wpAny (model prog w) A (Builtin.List.listLengthHint (.ref I)) Q E s
section
variable {prog:xT}{w:xU}{A:xV}{E:xc}{s:xR}{T:String}{I d:xS}{n:Nat}{P:Nat->xQ->Prop}{St:Nat->Heap->Prop}
def yt(K:RvSrc prog w T I d n P St)(hh:A.handled=none)(hst:St 0 s.heap)(S:xS)(hSI:S≠I)(hSd:S≠d)(res:xQ)(c₀:Nat)(hS:'i' S=some { cls := .type "list",data := .seq #[] c₀ })(hn:n<=sizeLine)
 (hR:∀h' tk acc' c',(∀b o,b≠S->b≠I->'i' b=some o->h'.get? b=some o)->h'.get? S=some { cls := .type "list",dict:=none,data := .seq acc' c',slots:=#[] }->ItemsOf P acc' n->R (.ok (.ret res)) { s with heap:=h',toks:=tk }) :
 wpAny (model prog w) A.in1 (Builtin.List.listExtendWith (.ref S) (.ref I) res)
  (λfin s'=>match fin with | .done f=>R (.ok f) s' | .again c'=>c'.quiet=true/\codeAny (model prog w) A c' R s') (λe s'=>R (.error e) s') s:=by
 have W:=K.walk A.in1 hh;have hSf:S∉[I,d]:=by simp only[jJ,jy,x9,not_or];exact⟨hSI,hSd⟩
 have key:∀(h:Heap) (c₁ tk:Nat),St 0 h->(∀b o,b≠S->'i' b=some o->h.get? b=some o) ->
  h.get? S=some { cls := .type "list",data := .seq #[] c₁ }->codeAny (model prog w) A (.builtin "list.extend.loop" ⟨[.ref S,.ref I,res],[]⟩) R { s with heap:=h,toks:=tk }:=by
  intro h c₁ tk hst hk hS₁;refine codeAny_extend_loopS W.toS hn S hSf res n 0 _ #[] c₁ rfl (jT _) hst hS₁ (ItemsOf.nil _) λs' acc' c' hm hS' hacc=>?_;rw[Moved.eq_with hm];refine hR s'.heap s'.toks acc' c' (λb o hb hbI e=>hm.heap b o (λhmem=>?_) (hk b o hb e)) hS' hacc;rcases jJ.mp hmem with e'|hmem
  . exact hb e'
  . exact hbI (jP.mp hmem)
 unfold Builtin.List.listExtendWith;refine q8 (qY (T:=T) (K.type s hst) ?_);have h1:Builtin.List.listSameRef (.ref S) (.ref I)=false:=by simp[Builtin.List.listSameRef,hSI]
 simp only[h1,K.notList,K.notTuple,Bool.or_false,j6,qP];refine q8 (W.self 0 _ _ _ hst ?_);refine q8 (qF (K.hint _ _ _ _ hh hst λb tk=>?_));refine wpAny_ite_split (λ_=>?_) (λ_=>qf ⟨qN PySem.F.plain_extend_loop _,key _ c₀ _ hst (λb o _ e=>e) hS⟩);refine q8 (qZ ?_);refine q8 ?_;show wpAny _ _ (updateSeq S (·.push .none) >>= λ_=>updateSeq S (·.pop)) _ _ _;refine q8 (qU hS rfl ?_);have hS₂:=jn (Obj.mapSeq (·.push Value.none)) hS rfl;refine qU (hz:=by seq_fits) hS₂ rfl ?_;have hS₃:=jn (Obj.mapSeq (·.pop)) hS₂ rfl;refine qf ⟨qN PySem.F.plain_extend_loop _,key _ _ _ ?_ (λb o hb e=>?_) hS₃⟩
 . refine W.frame 0 _ _ hst λb hb o e=>?_;have hbS:b≠S:=λh=>hSf (h ▸ hb);exact(jc _ _ (Ne.symm hbS)).trans ((jc _ _ (Ne.symm hbS)).trans e)
 . exact(jc _ _ (Ne.symm hb)).trans ((jc _ _ (Ne.symm hb)).trans e)
def yu(K:RvSrc prog w T I d n P St)(hh:A.handled=none)(hst:St 0 s.heap)(S:xS)(hSI:S≠I)(hSd:S≠d)(hS:'i' S=some { cls := .type "list",data := .seq #[] })(hn:n<=sizeLine)
 (hR:∀h' tk acc' c',(∀b o,b≠S->b≠I->'i' b=some o->h'.get? b=some o)->h'.get? S=some { cls := .type "list",dict:=none,data := .seq acc' c',slots:=#[] }->ItemsOf P acc' n->R (.ok (.ret .none)) { s with heap:=h',toks:=tk }) :
 wpAny (model prog w) A.in1 (Builtin.«list.__init__» ⟨[.ref S,.ref I],[]⟩)
  (λfin s'=>match fin with | .done f=>R (.ok f) s' | .again c'=>c'.quiet=true/\codeAny (model prog w) A c' R s') (λe s'=>R (.error e) s') s:=by
 show wpAny _ _ (do let old <- Builtin.List.listItems (.ref S);Builtin.List.listUpdate (.ref S) (λ_=>#[]);letGo old.toList.reverse;Builtin.List.listExtendWith (.ref S) (.ref I) .none) _ _ s;refine q8 ?_;unfold Builtin.List.listItems;refine q8 (qK hS rfl (qf ?_));show wpAny _ _ (updateSeq S (λ_=>#[]) >>= λ_=>letGo (#[]:xk).toList.reverse >>= λ_=>Builtin.List.listExtendWith (.ref S) (.ref I) .none) _ _ s;refine q8 (qU hS rfl ?_);have hS₂:=jn (Obj.mapSeq (λ_=>(#[]:xk))) hS rfl
 have oth:∀b o,b≠S->'i' b=some o->(s.heap.update S (Obj.mapSeq (λ_=>(#[]:xk)))).get? b=some o :=
  λb o hb e=>(jc _ _ (Ne.symm hb)).trans e
 refine q8 (wpAny_letGo ?_);refine yt K hh ((K.walk A hh).frame 0 _ _ hst λb hb o e=>oth b o (λz=>?_) e) S hSI hSd .none _ hS₂ hn (λh' tk acc' c' hk hS' hacc=>?_)
 . subst z;rcases jJ.mp hb with z | z
   . exact hSI z
   . exact hSd (jP.mp z)
 . exact hR h' tk acc' c' (λb o hb hbI e=>hk b o hb hbI (oth b o hb e)) hS' hacc
def yw(K:RvSrc prog w T I d n P St)(hh:A.handled=none)(hst:St 0 s.heap)(hn:n<=sizeLine)
 (hQ:∀h' tk acc' c',(∀b o,b≠I->'i' b=some o->h'.get? b=some o)->h'.get? 'g'=some { cls := .type "list",dict:=none,data := .seq acc' c',slots:=#[] }->ItemsOf P acc' n->Q (.ref 'g') { s with heap:=h',toks:=tk }) :
 wpAny (model prog w) A (call (.type "list") [.ref I]) Q E s:=by
 refine callType_codes (Q₁:=λobj s₁=>obj=.ref 'g'/\s₁={ s with heap:=s.heap.push { cls := .type "list",data := .seq #[] } }) PySem.F.called_list (PySem.F.typeCall_list_1 _) PySem.F.entry_list_init
  (code_list_new _ ⟨rfl,rfl⟩) λobj s₁ h₁=>?_
 obtain⟨rfl,rfl⟩:=h₁;have hS:(s.heap.push { cls := .type "list",data := .seq #[] }).get? 'g'=some { cls := .type "list",data := .seq #[] }:=jH _ rfl;have hlt:=K.there _ hst;refine⟨⟨_,hS,rfl⟩,PySem.F.args_list_init_2 _ _,yu (A:=A.in1) K hh ((K.walk A hh).frame 0 _ _ hst λb _ o e=>jC _ e) _ (jo hlt.1) (jo hlt.2) hS hn (λh' tk acc' c' hk hS' hacc=>?_)⟩;exact⟨rfl,hQ h' tk acc' c' (λb o hI e=>hk b o (jQ (jI e)) hI (jC _ e)) hS' hacc⟩
def yx(hT:s.TypeIs (.ref r) "list_reverseiterator")(h:Q false s):wpAny (model prog w) A (Builtin.List.listLengthHint (.ref r)) Q E s:=by
 unfold Builtin.List.listLengthHint;refine q8 (xb hT yq ?_);show wpAny _ A (specialOf (Value.ref r) (Str.ofString "__length_hint__") >>= _) _ _ _;refine q8 (xb hT yr ?_);generalize hid:("list_reverseiterator.__length_hint__" : String)=id0;wp_delta;rw[show splitId id0=some ("list_reverseiterator", "__length_hint__") from by subst hid;decide +kernel];subst hid;refine q8 (x5 (b:=true) hT (by rw[isSubtype_type];kernel_rfl) ?_);exact qf h
theorem yA(I l:xS)(hne:l≠I)(items:xk):RvSrc prog w "list_reverseiterator" I l items.size (λi v=>items[items.size - 1 - i]?=some v) (λi h=>i<=items.size/\h.IsRevIter I l ((items.size:Int) - 1 - (i:Int))/\h.IsList l items) where
 walk:=λA hh=>Walks.listRev hh I l hne items
 type:=λs x=>x.2.1.typeIs
 there:=λh x=>by
  obtain⟨_,⟨o,ho,_⟩,⟨o2,ho2,_⟩⟩:=x;exact⟨jI ho,jI ho2⟩
 notList:=by decide
 notTuple:=by decide
 hint:=λA E s Q _ x hq=>yx x.2.1.typeIs (hq false s.toks)
end
section
variable {X:Cx}{e:Expr}{te:TE}{p p2 cp pos:Pos}
def yB(K:xh)(te:TE):TE:=λσ H Q=>te σ H λx H1=>∃a xs,x=.ref a/\SqL K H1 a xs/\∀l,H1 l=none->Q (.ref l) (upd H1 l (.lst xs.reverse))
theorem nL:∀{xs:List V}{us:xm},Vals xs us->Vals xs.reverse us.reverse
 |_,_,.nil => .nil
 |_,_,.cons h t=>by
  rw[List.reverse_cons,List.reverse_cons];exact(nL t).append (.cons h .nil)
def yC{items acc:xk}(h:ItemsOf (λi v=>items[items.size - 1 - i]?=some v) acc items.size):acc.toList=items.toList.reverse:=by
 refine List.ext_getElem? λi=>?_
 by_cases hi:i<items.size
 . have hz:i < acc.size:=by rw[h.1];exact hi
   have h1:=h.2 i acc[i] (jl hz);rw[Array.getElem?_toList,jl hz,List.getElem?_reverse (by simpa using hi),Array.getElem?_toList,js];exact h1.symm
 . rw[k7 (by rw[js,h.1];omega),k7 (by simp;omega)]
def yD(K:xh)(hK:X.K=K)(hc:X.calm=true)(hg:Gl X "list")(hm:X.mg "list" = none)(hv:bootBuiltins "list" = some (.type "list"))(hg2:Gl X "reversed")(hm2:X.mg "reversed" = none)(hv2:bootBuiltins "reversed" = some (.type "reversed"))(ho:PE X e te)
 (he:starEach [e] X.env=[(false,eval e X.env)]:=by rfl):PE X (.Call (.Name "list" p) [.Call (.Name "reversed" p2) [e] [] cp] [] pos) (yB K te):=by
 subst hK;intro xt s σ H Q I h;refine qI (QR I hg hm hv ?_ 'd' 'd');refine PyProof.Rows.callWith_type1 ?_ rfl rfl;show wpAny _ _ (spliced [(false,eval (.Call (.Name "reversed" p2) [e] [] cp) X.env)]) _ _ s;refine Calls.spliced_cons (qI (QR I hg2 hm2 hv2 ?_ 'd' 'd'));refine PyProof.Rows.callWith_type1 ?_ he rfl;rw[he];show wpAny _ _ (spliced [(false,eval e X.env)]) _ _ s;refine Calls.spliced_cons (thn (ho xt s σ H _ I h) λv s1 pc=>?_);obtain⟨x,H1,I1,r1,a,xs,ex,q1,k⟩:=pc;subst ex;obtain rfl:v=Value.ref a:=r1;refine Calls.spliced_nil ?_;obtain⟨its,rv,pl,lz⟩:=I1.list q1;have la:=pl.isList;have hh:X.A.handled=none:=I1.ok.hd hc;refine call_reversed_list la ?_;refine Calls.spliced_nil ?_;have ia:a≠s1.heap.objs.size:=by obtain⟨o,ho,_⟩:=la;exact jQ (jI ho)
 have vl:=rv.length;refine yw (s:={ s1 with heap:=s1.heap.push (revObj a ((its.toArray.size:Int) - 1)) }) (yA s1.heap.objs.size a ia its.toArray) hh ⟨jT _,⟨_,jH _ rfl,rfl,by simp[revObj]⟩,la.at λo e=>jC _ e⟩ (by rw[jK];omega) λh' tk acc c k1 k2 k3=>?_;have kp:∀b o,s1.heap.get? b=some o->h'.get? b=some o:=λb o e=>k1 b o (jQ (jI e)) (jC _ e);have up:s1.heap.objs.size<=(s1.heap.push (revObj a ((its.toArray.size:Int) - 1))).objs.size:=by simp[Heap.push]
 have fr:H1 (s1.heap.push (revObj a ((its.toArray.size:Int) - 1))).objs.size=none:=I1.hok.fresh up
 have ea:acc=its.reverse.toArray:=by
  have:=yC k3;rw[<- Array.toArray_toList (xs:=acc),this]
 refine⟨.ref _,upd H1 _ (.lst xs.reverse),I1.laid (t':=tk) kp up (show ObjOk X.prog X.w _ h' _ (.lst xs.reverse) from⟨by rw[List.length_reverse];exact lz,its.reverse,c,nL rv,by rw[<- ea];exact k2⟩),rfl,k _ fr⟩
end
def sv:xQ->Str
 |.str k _=>k
 |_=>Str.empty
theorem nM:∀{vs:xm}{ss:xp},StrsAre vs ss->∀(i:Nat),i<vs.length->∃tk,vs.getD i Value.none=.str (ss.getD i Str.empty) tk
 |_,_,.nil,i,h=>absurd h (Nat.not_lt_zero _)
 |_,_,.cons _ t _,0,_=>⟨t,rfl⟩
 |_,_,.cons _ _ r,i+1,h=>by
  obtain⟨tk,e⟩:=nM r i (by simpa using h);exact⟨tk,by simpa using e⟩
def yE{a b:Str}(h:a.cps.toList=b.cps.toList):a=b:=by
 obtain⟨⟨x⟩⟩:=a;obtain⟨⟨y⟩⟩:=b;have:x=y:=h;rw[this]
def ltS(a b:Str):Prop:=a.cps.toList<b.cps.toList
instance (a b:Str):Decidable (ltS a b):=inferInstanceAs (Decidable (a.cps.toList<b.cps.toList))
def Yn(h:ltS a b)(h':ltS b c):ltS a c:=List.lt_trans h h'
def aP(n:a≠b)(h:¬ltS a b):ltS b a:=by
 by_cases z:ltS b a
 . exact z
 . exact absurd (yE (List.le_antisymm (List.not_lt.mp z) (List.not_lt.mp h))) n
section
variable {X:Cx}{xt:xg}{σ:St}{H:Hp}{s:xR}
theorem Inv.drawn(I:Inv X xt σ H s)(d:Drawn):Inv X xt σ H { s with drawn:=d } :=
 I.step (h':=s.heap) (g':=s.gens) (t':=s.toks) (d':=d) (ch:=[]) (λ_ z=>nomatch z) (λb o _ _ _ e _=>e) (λb o _ _ _ e _=>⟨o.slots,e⟩) (λb o _ _ n=>n) (λb o _ e=>⟨o,e⟩) (λ_ _ e=>e) (λ_ _ _ e=>e) (λ_ ps e=>⟨#[],by rw[Array.append_empty];exact e⟩) (λm hm=>hm) I.hok I.bare
def yF(I:Inv X xt σ H s)(nd:ks.Nodup)(few:ks.length<64)
 (col:∀(E':xc) (R:xm->xR->Prop),(∀(g:Heap) (tk:Nat) (d:Drawn) vs ss,(∀b o,'i' b=some o->g.get? b=some o)->'g'<=g.objs.size->ss.Perm ks->StrsAre vs ss->R vs { s with heap:=g,toks:=tk,drawn:=d })->wpAny (model X.prog X.w) X.A.in1 (collect x) R E' s)
 (q:∀(l:xS) (ss:xp),H l=none->ss.Perm ks->ss.Pairwise ltS->Q (.ref l) (upd H l (.lst (ss.map V.str)))) :
 wpAny (model X.prog X.w) X.A (call (.builtin "sorted") [x]) (EP X xt σ Q) X.xe s:=by
 let C:xm->xR->Prop:=λvs s1=>∃(g:Heap) (tk:Nat) (d:Drawn) (ss:xp),s1={ s with heap:=g,toks:=tk,drawn:=d }/\(∀b o,'i' b=some o->g.get? b=some o)/\'g'<=g.objs.size/\ss.Perm ks/\StrsAre vs ss
 have at_:∀vs s1,C vs s1->∃ss:xp,ss.Nodup/\ss.Perm ks/\vs.length=ss.length/\(∀i,i<vs.length->sv (vs.getD i Value.none)=ss.getD i Str.empty/\∃tk,vs.getD i Value.none=.str (ss.getD i Str.empty) tk):=λvs s1 hC=>by
  obtain⟨g,tk,d,ss,_,_,_,pp,sa⟩:=hC;refine⟨ss,pp.nodup_iff.mpr nd,pp,StrsAre.length sa,λi hi=>?_⟩;obtain⟨tk,e⟩:=nM sa i hi;exact⟨by rw[e];rfl,tk,e⟩
 refine fE (C:=C) (λE' R hR=>col E' R λg tk d vs ss k1 k2 k3 k4=>hR _ _ ⟨g,tk,d,ss,rfl,k1,k2,k3,k4⟩) (λvs s1 hC=>?_) oneType' (λvs _ i j=>decide (ltS (sv (vs.getD i Value.none)) (sv (vs.getD j Value.none)))) (λvs s1 hC=>?_)  (λvs s1 hC two g2 xP R hR=>?_) (λvs s1 hC g2 xP i j Z hi hj xF hZ=>?_) (λvs s1 hC p g2 c pm sr xP hg=>?_)
 . obtain⟨ss,_,pp,l,_⟩:=at_ vs s1 hC;rw[l,pp.length_eq];omega
 . obtain⟨ss,ns,pp,l,at2⟩:=at_ vs s1 hC;refine⟨λi j k _ _ _ h1 h2=>qi (Yn (qm h1) (qm h2)),λi j hi hj xF h=>qi (aP (λz=>?_) (of_decide_eq_false h))⟩;rw[(at2 i hi).1,(at2 j hj).1]at z;have hi':i < ss.length:=by omega
   have hj':j<ss.length:=by omega
   simp only[List.getD,jB hi',jB hj',Option.getD_some]at z;exact xF ((List.getElem_inj ns).mp z)
 . obtain⟨ss,ns,pp,l,at2⟩:=at_ vs s1 hC;refine kas_kind (T := .type "str") two (λv hv=>?_) 'd' 'd' hR;obtain⟨i,hi,rfl⟩:=List.mem_iff_getElem.mp hv;obtain⟨_,tk,e⟩:=at2 i hi;simp only[List.getD,jB hi,Option.getD_some]at e;rw[e];exact .now
 . obtain⟨ss,ns,pp,l,at2⟩:=at_ vs s1 hC;obtain⟨e1,t1,f1⟩:=at2 i hi;obtain⟨e2,t2,f2⟩:=at2 j hj;rw[f1,f2];rw[e1,e2]at hZ;exact kas_lt_str hZ
 . obtain⟨ss,ns,pp,l,at2⟩:=at_ vs s1 hC;obtain⟨g,tk,d,_,rfl,kp,up,_,_⟩:=hC;dsimp only at xP hg ⊢;have pz:p.toList.length=ss.length:=by rw[js,pm.size];exact l
   have pin:∀i∈p.toList,i<ss.length:=λi hi=>by
    have:=pm.mem_iff.mp (Array.mem_toList_iff.mp hi);rw[<- l];simpa using this
   have perm:(p.toList.map λi=>ss.getD i Str.empty).Perm ss:=by
    have e1:(List.range ss.length).map (λi=>ss.getD i Str.empty)=ss:=by
     refine kX 'f' λi h1 h2=>?_;simp[List.getD,h2]
    have:=(show p.toList.Perm (List.range vs.length) from Array.perm_iff_toList_perm.mp pm).map λi=>ss.getD i Str.empty;rw[l]at this
    rwa [e1]at this
   have fr:H g.objs.size=none:=I.hok.fresh up;have kp3:∀b o,'i' b=some o->g2.get? b=some o:=λb o z=>xP b o (kp b o z);refine⟨.ref g.objs.size,upd H g.objs.size (.lst ((p.toList.map λi=>ss.getD i Str.empty).map V.str)),(I.drawn d).laid (t':=tk) kp3 up (show ObjOk X.prog X.w _ g2 _ (.lst ((p.toList.map λi=>ss.getD i Str.empty).map V.str)) from⟨by rw[jA,jA,pz,pp.length_eq,qH];omega,Qg vs p,c,?_,hg⟩),rfl,q _ _ fr (perm.trans pp) ?_⟩
   . unfold Qg
     have:∀pl:xq,(∀i∈pl,i<ss.length)->Vals ((pl.map λi=>ss.getD i Str.empty).map V.str) (pl.map λi=>vs.getD i Value.none):=λpl=>by
      induction pl with
      |nil=>intro _;exact .nil
      |cons i pl ih =>
       intro hp;obtain⟨_,t1,f1⟩:=at2 i (by rw[l];exact hp i 'f');rw[jM,jM,jM,f1];exact .cons ⟨_,rfl⟩ (ih λk hk=>hp k (by simp[hk]))
     exact this p.toList pin
   . rw[jq];refine List.pairwise_iff_getElem.mpr λi j hi hj xF=>?_;have h0:=qm (sr i j xF 'c');have g1:p.getD i 0=p.toList[i]:=by simp[Array.getD,show i < p.size by simpa using hi]
     have g3:p.getD j 0=p.toList[j]:=by simp[Array.getD,show j<p.size by simpa using hj]
     rw[g1,g3,(at2 _ (by rw[l];exact pin _ (jX hi))).1,(at2 _ (by rw[l];exact pin _ (jX hj))).1]at h0;exact h0
end
def yG:typeLookup (.type "list") "keys" = pure none:=am_miss_of_fast (by kernel_rfl)
def yH
 (hx:'i' a=some o) (hc:o.cls=.type "list") (xA:o.data=.seq xs k) (hd:o.dict=none) (hA:A.handled=none)
 (h:∀h' tk,(∀b o,'i' b=some o->h'.get? b=some o)->Q none { s with heap:=h',toks:=tk }) :
 wpAny (model prog w) A (getAttr? (.ref a) "keys") Q E s:=by
 obtain⟨c,dct,dat,sl⟩:=o;simp only at hc xA hd;subst hc xA hd;obtain⟨hp,g,d,tk,os⟩:=s;have hT:∀xH,(⟨hp,g,d,xH,os⟩:xR).TypeIs (.ref a) "list" := λ_=>⟨_,hx,rfl⟩;have f1:=sub_AttributeError;have f3:=F.slot_list_getattribute.lookup;have f4:=F.slot_list_getattribute.bind (.ref a);have f5:=am_list_getattr_none;unfold getAttr? getAttrBy? getAttrBy
 repeat (any_goals (first|assumption|exact hT _|((with_reducible show wpAny _ _ (call (Value.builtin "list.__getattribute__") _ _) _ _ _);refine call_meets F.slot_list_getattribute (hT _) am_entry_list_getattribute (F.args_list_getattribute_2 _ _) (meets_getattribute_miss_list a xs k sl "keys" _ yG 'd' (by rw[qH];decide)) ⟨hx,hA,λh' xH e hx'=>?_⟩)|wp_step))
 obtain⟨t',u',he⟩:=hx'.there;show wpAny _ _ (getattributeRaised _ _ _ _ _ _ _) _ _ _;unfold getattributeRaised
 repeat (any_goals (first|assumption|wp_step))
 exact h _ _ hx'.keeps
def aQ:entryFor table "dict.update.loop" = some Builtin.«dict.update.loop»:=entryFor_of_fast (by kernel_rfl)
def Xz:plainId "dict.update.loop" = true:=by decide +kernel
def nN(knd:Key->xQ->Bool)(h:Heap)(x:xQ)(kv:Key×xQ):Prop:=∃b o ky m,x=.ref b/\h.get? b=some o/\o.cls=.type "tuple" /\ o.data=.seq #[ky,kv.2] m/\knd kv.1 ky=true
section
variable {X:Cx}{xt:xg}{σ:St}{H:Hp}{s:xR}
def Qw(H:Hp)(y:V)(kv:Key×V):Prop:=∃c,y=.ref c/\H c=some (.tup [kV kv.1,kv.2])
theorem nO(I:Inv X xt σ H s):∀{ys:List V}{its:xm}{more:List (Key×V)},Vals ys its->Paired (Qw H) ys more ->
 ∃more',KV more more'/\∀(j:Nat) (x:xQ) (kv':Key×xQ),its[j]?=some x->more'[j]?=some kv'->nN (Jl X.prog X.w).is s.heap x kv'
 |_,_,_,.nil,.nil=>⟨[],.nil,λj x kv' e1 e2=>by simp at e1⟩
 |_::_,_::_,kv::_,.cons r rs,.cons p ps=>by
  obtain⟨more',h1,h2⟩:=nO I rs ps;obtain⟨c,rfl,hc⟩:=p
  cases r
  obtain⟨its2,rv,⟨o,ho,hcl,m,hd⟩,_⟩:=I.tuple (X:=X) (.of hc);obtain⟨ky,v,rfl,r1,r2⟩:=am rv;refine⟨(kv.1,v)::more',.cons ⟨rfl,r2⟩ h1,λj x kv' e1 e2=>?_⟩
  cases j with
  |zero =>
   simp at e1 e2;subst e1 e2;exact⟨c,o,ky,m,rfl,ho,hcl,hd,Zs r1⟩
  |succ j=>exact h2 j x kv' (by simpa using e1) (by simpa using e2)
theorem nP:∀{ys:List V}{its:xm}{more:List (Key×V)},Vals ys its->Paired (Qw H) ys more->∀(j:Nat) (b:xS),its[j]?=some (.ref b)->∃q,H b=some (.tup q)
 |_,_,_,.nil,.nil=>λj b e=>by simp at e
 |_,_,_,.cons r rs,.cons p ps=>λj b e=>by
  cases j with
  |zero =>
   obtain⟨c,rfl,hc⟩:=p
   cases r
   simp at e;exact⟨_,e ▸ hc⟩
  |succ j=>exact nP rs ps j b (by simpa using e)
end
def yI(h:(Jl P w).is k u=true):RelV (kV k) u:=by
 rw[uB]at h;rcases Qp h with ⟨i,t,rfl,rfl⟩|⟨x,t,rfl,rfl⟩
 . exact⟨t,rfl⟩
 . exact⟨t,rfl⟩
theorem aR{α β:Type}{F:α->β->Prop}:∀{l:List α}{m:List β},Paired F l m->∀{i:Nat}{x:α}{y:β},l[i]?=some x->m[i]?=some y->F x y
 |_,_,.nil,i,_,_,e,_=>by simp at e
 |_,_,.cons h t,0,_,_,e1,e2=>by simp at e1 e2;subst e1 e2;exact h
 |_,_,.cons h t,i+1,_,_,e1,e2=>aR t (i:=i) (by simpa using e1) (by simpa using e2)
def yJ{prog:xT}{w:xU}{A:xV}{R:Result->xR->Prop}{d l I:xS}{items:xk}{St:Nat->Heap->Prop}(W:Walks prog w A.in1 I [I,l] [I] items.size (λi v=>items[i]?=some v) St)(hdI:d≠I)(hdl:d≠l)(more:List (Key×xQ))(hn:items.size=more.length) :
 ∀(k i:Nat) (s:xR) (kvs:List (Key×xQ)),more.length - i=k->i<=more.length->St i s.heap->s.heap.DictOf (Jl prog w) d kvs->kvs.length+(more.length - i)<=sizeLine ->
  (∀(j:Nat) (x:xQ) (kv:Key×xQ),items[j]?=some x->more[j]?=some kv->nN (Jl prog w).is s.heap x kv)->(∀(j:Nat) (b:xS),items[j]?=some (.ref b)->b≠d/\b≠I) ->
  (∀h' tk,h'.DictOf (Jl prog w) d (merged kvs (more.drop i))->(∀b o,b≠d->b≠I->'i' b=some o->h'.get? b=some o)->R (.ok (.ret .none)) { s with heap:=h',toks:=tk }) ->
  codeAny (model prog w) A (.builtin "dict.update.loop" ⟨[.ref d,.ref I,rawInt i,.none],[]⟩) R s:=by
 intro k
 induction k with
 |zero =>
  intro i s kvs hk hi hst hd hz hp hne hR;have hin:i=items.size:=by omega
  refine qL aQ ?_;rw[Around.under_plainId Xz _];show wpAny _ A.in1 (pyNext (.ref I) >>= _) _ _ s;refine q8 (W.done s _ _ (hin ▸ hst) λh' tk hk'=>?_);have kd:∀b o,b≠d->b≠I->'i' b=some o->h'.get? b=some o:=λb o _ hb e=>hk' b o (by simpa using hb) e;show wpAny _ A.in1 (Builtin.Dict.addKeywords d [] >>= _) _ _ _;refine q8 (qf (qf (hR _ _ ?_ kd)));obtain⟨o,es,ep,ho,r⟩:=hd;rw[kY 'c'];exact⟨o,es,ep,hk' d o (by simpa using hdI) ho,r⟩
 |succ k ih =>
  intro i s kvs hk hi hst hd hz hp hne hR;have hlt:i<more.length:=by omega
  refine qL aQ ?_;rw[Around.under_plainId Xz _];show wpAny _ A.in1 (pyNext (.ref I) >>= _) _ _ s;refine q8 (W.item i s _ _ 'c' hst λv h' tk hP hst' hk'=>?_);have hv:items[i]?=some v:=by simpa using hP
  have hm:more[i]?=some more[i]:=jB hlt;obtain⟨b,o,ky,m,rfl,hb,hc,xA,hky⟩:=hp i v _ hv hm;obtain⟨bd,bI⟩:=hne i b hv;have hb':=hk' b o (by simpa using bI) hb
  have hd':h'.DictOf (Jl prog w) d kvs:=by
   obtain⟨o,es,ep,ho,r⟩:=hd;exact⟨o,es,ep,hk' d o (by simpa using hdI) ho,r⟩
  show wpAny _ A.in1 (holding [.ref b] (tryCatch (Builtin.Dict.pairItems (.ref b)) _ >>= _) >>= _) _ _ _;refine q8 (qF (q8 (wpAny_tryCatch ?_)));unfold Builtin.Dict.pairItems;refine q8 (qY ⟨o,hb',hc⟩ ?_);rw[qh 'd'];refine q8 (qK hb' xA (qf ?_));show wpAny _ A.in1 (holding [ky,more[i].2] (dictSet d ky more[i].2)) _ _ _;have hz':kvs.length<=sizeLine:=by omega
  refine qF (wpAny_dictSet_pairs (hsz:=hz') hky hd' λh2 hd2 hs2=>?_);have xP:∀b o,b≠d->b≠I->'i' b=some o->h2.get? b=some o:=λb o h1 h3 e=>(hs2.2 b h1).trans (hk' b o (by simpa using h3) e);have hstl:(stored kvs more[i].1 more[i].2).length<=kvs.length+1:=by unfold stored;split<;>simp
  refine qf ⟨qN Xz _,?_⟩;have hint:rawInt ((i:Int)+1)=rawInt ((i+1:Nat):Int):=by push_cast;rfl
  rw[hint];refine ih (i+1) _ (stored kvs more[i].1 more[i].2) 'c' hlt ?_ hd2 'c' (λj x kv e1 e2=>?_) hne λh3 tk3 hd3 k3=>hR h3 tk3 ?_ λb o h1 h4 e=>k3 b o h1 h4 (xP b o h1 h4 e)
  . refine W.frame _ _ _ hst' λb hb o e=>(hs2.2 b ?_).trans e;rcases jJ.mp hb with rfl | hb
    . exact Ne.symm hdI
    . rw[jP.mp hb];exact Ne.symm hdl
  . obtain⟨b,o,ky,m,rfl,hb,r⟩:=hp j x kv e1 e2;obtain⟨bd,bI⟩:=hne j b e1;exact⟨b,o,ky,m,rfl,xP b o bd bI hb,r⟩
  . rw[kW hlt];exact hd3
section
variable {X:Cx}{xt:xg}{σ:St}{H:Hp}{s:xR}
def nQ{T:String}{o:Obj}{its:xm}{more:List (Key×V)}{ys:List V}{E:xc}{Q:xc}(hh:X.A.handled=none)(I:Inv X xt σ H s)(eo:'i' l=some o)(hcl:o.cls=.type T)(nT:(Value.type T != Value.type "dict")=true)(r:Vals ys its)(al:∃u,H l=some u)(hp:Paired (Qw H) ys more)(z:more.length<=sizeLine)
 (keys:∀(A:xV) (E:xc) (s1:xR) (Q':xj->xR->Prop),A.handled=none->s1.heap.get? l=some o->(∀h' tk,(∀b o,s1.heap.get? b=some o->h'.get? b=some o)->Q' none { s1 with heap:=h',toks:=tk })->wpAny (model X.prog X.w) A (getAttr? (.ref l) "keys") Q' E s1)
 (xC:∀s1:xR,s1.heap.get? l=some o->∃(oI:Obj) (St:Nat->Heap->Prop),(∀(A:xV) (E:xc) (Q:xc),Q (.ref s1.heap.objs.size) { s1 with heap:=s1.heap.push oI }->wpAny (model X.prog X.w) A (pyIter (.ref l)) Q E s1)/\(∀A:xV,A.handled=none->Walks X.prog X.w A s1.heap.objs.size [s1.heap.objs.size,l] [s1.heap.objs.size] its.toArray.size (λi v=>its.toArray[i]?=some v) St)/\St 0 (s1.heap.push oI))
 (h:∀a s',H a=none->Inv X xt σ (upd H a (.dK (JJ [] more))) s'->Q (.ref a) s'):wpAny (model X.prog X.w) X.A (call (.type "dict") [.ref l]) Q E s:=by
 refine callType_codes (Q₁:=λobj s₁=>obj=.ref 'g'/\s₁={ s with heap:=s.heap.push { cls := .type "dict",data := .dict #[] } }) F.kt_called_dict (F.kt_typeCall_dict_1 _) F.entry_dict_init (kt_code_dict_new _ ⟨rfl,rfl⟩) ?_;rintro obj s₁ ⟨rfl,rfl⟩;have dd0:(s.heap.push { cls := .type "dict",data := .dict #[] }).DictOf (Jl X.prog X.w) 'g' []:=Heap.DictOf.new s.heap;have fr:H 'g'=none:=I.hok.fresh (jE _);have hd:('g'==sysModules)=false:=beq_eq_false_iff_ne.mpr (Ne.symm (jQ I.big));have hl:=r.length;obtain⟨more',km,pin⟩:=nO I r hp;have ref:=nP r hp;have hlm:its.toArray.size=more'.length:=by rw[jK,<- hl,Paired.length hp,km.length]
 have kp0:∀b o,'i' b=some o->(s.heap.push { cls := .type "dict",data := .dict #[] }).get? b=some o:=λb o e=>jC _ e;refine⟨dd0.typeIs,F.args_dict_init_2 _ _,?_⟩;unfold Builtin.«dict.__init__»;refine q8 ?_;unfold Builtin.Dict.selfAndRest;refine q8 (qV dd0.typeIs ?_);show wpAny _ _ (pure ('g',[Value.ref l])) _ _ _;refine qf ?_;show wpAny _ _ (Builtin.Dict.updateFrom "dict.__init__" 'g' (.ref l) [] .none) _ _ _;generalize s.heap.push { cls := .type "dict",data := .dict #[] }=g at dd0 kp0;have eo0:=kp0 _ _ eo;unfold Builtin.Dict.updateFrom;refine q8 (qY ⟨_,eo0,hcl⟩ ?_);rw[qh nT];refine q8 (keys _ _ _ _ (show X.A.in1.in1.handled=none from hh) eo0 λh1 tk1 k1=>?_);simp only[Option.isNone_none,if_true];refine q8 (qZ ?_);have eo1:=k1 _ _ eo0;obtain⟨oI,St,it,W,st0⟩:=xC { s with heap:=h1,toks:=tk1 } eo1;refine q8 (it _ _ _ ?_);have hlI:l≠h1.objs.size:=jQ (jI eo1)
 have dd1:h1.DictOf (Jl X.prog X.w) 'g' []:=by
  obtain⟨o,es,ep,ho,r⟩:=dd0;exact⟨o,es,ep,k1 _ _ ho,r⟩
 have hdI:'g'≠h1.objs.size:=by
  obtain⟨o,es,ep,ho,r⟩:=dd1;exact jQ (jI ho)
 have hdl:'g'≠l:=λq=>by obtain⟨u,eu⟩:=al;rw[q,eu]at fr;cases fr
 refine qf ⟨qN Xz _,yJ (prog:=X.prog) (w:=X.w) (A:=X.A.in1) (d:='g') (l:=l) (items:=its.toArray) (W _ (show X.A.in1.in1.handled=none from hh)) hdI hdl more' hlm _ 0 _ [] rfl (jT _) st0 (dd1.push _) ?_ (λj x kv e1 e2=>?_) (λj b e1=>?_) λh' tk dd' kp=>?_⟩
 . rw[Nat.sub_zero,<- km.length];simpa using z
 . obtain⟨b,o,ky,m,rfl,hb,r⟩:=pin j x kv (by simpa using e1) e2;exact⟨b,o,ky,m,rfl,jC _ (k1 _ _ (kp0 _ _ hb)),r⟩
 . obtain⟨q,hq⟩:=ref j b (by simpa using e1);refine⟨λz=>(by rw[z,fr]at hq;cases hq),jQ ?_⟩
   obtain⟨o,ho⟩:∃o,'i' b=some o:=by
    obtain⟨its2,rv,⟨o,ho,_⟩,_⟩:=I.tuple (X:=X) (.of hq);exact⟨o,ho⟩
   exact jI (k1 _ _ (kp0 _ _ ho))
 . rw[List.drop_zero]at dd';refine⟨rfl,h 'g' _ fr (I.laid (t':=tk) (λb u hu=>kp b u (jQ (jI hu)) (jQ (jI (k1 b u (kp0 _ _ hu)))) (jC _ (k1 b u (kp0 _ _ hu)))) (jE _) (eU (jg (eY more []) (by simpa using z)) hd (km.merge .nil) dd'))⟩
def yK{more:List (Key×V)}{ys:List V}{E:xc}{Q:xc}(hh:X.A.handled=none)(I:Inv X xt σ H s)(el:H l=some (.lst ys))(hp:Paired (Qw H) ys more)(z:more.length<=sizeLine)
 (h:∀a s',H a=none->Inv X xt σ (upd H a (.dK (JJ [] more))) s'->Q (.ref a) s'):wpAny (model X.prog X.w) X.A (call (.type "dict") [.ref l]) Q E s:=by
 obtain⟨_,its,n,r,hl,eo⟩:=I.lstM el;exact nQ (T := "list") hh I eo rfl 'd' r ⟨_,el⟩ hp z (λA E s1 Q' hA e k=>yH e rfl rfl rfl hA k) (λs1 e=>⟨_,_,(λA E Q hq=>wpAny_pyIter_list ⟨_,e,rfl,_,rfl⟩ hq),(λA hA=>Walks.list hA _ l (jQ (jI e)) its.toArray),⟨⟨_,jH _ rfl,rfl,rfl⟩,⟨_,jC _ e,rfl,_,rfl⟩⟩⟩) h
def fM(hc:X.calm=true):CallR X (.type "dict") (λvs H Q=>∃(l:xS) (ys:List V) (more:List (Key×V)),vs=[.ref l]/\H l=some (.lst ys)/\Paired (Qw H) ys more/\more.length<=sizeLine/\∀p,H p=none->Q (.ref p) (upd H p (.dK (JJ [] more)))):=by
 intro xt s σ H xs us Q I r h;obtain⟨l,ys,more,rfl,el,hp,z,q⟩:=h;obtain⟨u,rfl,ru⟩:=Qc r
 cases ru
 exact yK (I.ok.hd hc) I el hp z λp s' hp I'=>⟨.ref p,_,I',rfl,q p hp⟩
end
end L2
namespace L2
open PySem PySem.Spec PyProof.Rows
def Q8(Da:xS)(H:Hp):Hp:=λb=>if b=Da then none else H b
def aS(h:b≠Da):Q8 Da H b=H b:=qg h
def yL(Da:xS)(H:Hp):Same (Q8 Da H) H:=λb o q=>by
 unfold Q8 at q;split at q
 . cases q
 . exact q
def yM(Da:xS)(H:Hp)(o:HO):Q8 Da (upd H Da o)=Q8 Da H:=funext λb=>by
 unfold Q8;split
 . rfl
 . rename_i h;exact xZ h
def nR(s:Same H H'):Same (Q8 Da H) (Q8 Da H'):=λb o q=>by
 unfold Q8 at q ⊢;split at q
 . cases q
 . rename_i h;rw[qg h];exact s b o q
def fN(n:H Da=none)(s:Same H H'):Same H (Q8 Da H'):=λb o q=>by
 rw[aS (Jp q n)];exact s b o q
theorem yN{α:Type}(P:Hp->α->V->Prop)(mono:∀{H H':Hp}{a:α}{v:V},Same H H'->P H a v->P H' a v)(n:Nat)(xs:Nat->V)(fs:List (Option α))(hn:fs.length=n)(hz:n<=sizeLine)
 (hstop:∀H',Same H H'->J.stop n H') (hgo:∀i H',i<n->Same H H'->J.go i H'/\∀x xw,J.yld i H' x xw->x=xs i/\xw=H')
 (test:∀(i:Nat) (o:Option α) (H':Hp) (R:Bool->Hp->Prop),i<n->fs[i]?=some o->Same H H'->(∀xw,Same H' xw->R o.isSome xw)->tt (some (xs i)::cap ix σ) H' R)
 (step:∀(i:Nat) (a:α) (Da:xS) (H':Hp) (R:VK),i<n->fs[i]?=some (some a)->Same H H'->H Da=none->(∃o,H' Da=some o)->(∀y xw,Same H' xw->P (Q8 Da xw) a y->R y xw)->te (some (xs i)::cap ix σ) H' R)
 (fin:∀p H' ys,Same H H'->H p=none->H' p=some (.lst ys)->Paired (P H') (fs.filterMap id) ys->Q (.ref p) H'):wV ix tt te σ Q J H:=by
 intro Da hD;refine⟨λi m H'=>m=n - i/\i<=n/\Same H H'/\∃ys,H' Da=some (.lst ys)/\Paired (P (Q8 Da H')) ((fs.take i).filterMap id) ys,⟨n,by simp,jT _,J6 hD _,[],J1,.nil⟩,?_⟩;rintro i m H' ⟨rfl,hi,sm,ys,eD,pr⟩
 by_cases hlt:i<n
 . obtain⟨g,y⟩:=hgo i H' hlt sm;refine .inr ⟨g,λx xw hy=>?_⟩;obtain⟨rfl,rfl⟩:=y x xw hy;have hi':i < fs.length:=by omega
   have ei:fs[i]?=some fs[i]:=jB hi';have tk:(fs.take (i+1)).filterMap id=(fs.take i).filterMap id++[fs[i]].filterMap id:=by rw[ja hi',List.filterMap_append]
   refine test i fs[i] xw _ hlt ei sm λH2 s2=>?_;have pr2:Paired (P (Q8 Da H2)) ((fs.take i).filterMap id) ys:=Paired.mapP pr λ_ _ h=>mono (nR s2) h;have eD2:=s2 _ _ eD
   cases ho:fs[i] with
   |none =>
    dsimp only[Option.isSome];rw[qg jR];refine⟨n - (i+1),by omega,rfl,hlt,sm.trans s2,ys,eD2,?_⟩;rw[tk,ho];simpa using pr2
   |some a =>
    dsimp only[Option.isSome];rw[qh rfl];refine step i a Da H2 _ hlt (by rw[ei,ho]) (sm.trans s2) hD ⟨_,eD2⟩ λy H3 s3 hy=>?_;have e3:=s3 _ _ eD2;have pr3:Paired (P (Q8 Da H3)) ((fs.take i).filterMap id) ys:=Paired.mapP pr2 λ_ _ h=>mono (nR s3) h;have ly:=pr3.length;have lf:=List.length_filterMap_le id (fs.take i);rw[jW]at lf;refine⟨ys,e3,by omega,n - (i+1),by omega,rfl,hlt,XY hD ((sm.trans s2).trans s3),ys++[y],J1,?_⟩;rw[tk,ho,yM];exact Paired.snoc pr3 hy
 . have e:i=n:=by omega
   subst e;rw[j4 'c']at pr;exact .inl ⟨hstop H' sm,fin Da H' ys sm hD eD (Paired.mapP pr λ_ _ h=>mono (yL _ _) h)⟩
theorem Yo{α:Type}(P:Hp->α->V->Prop)(mono:∀{H H':Hp}{a:α}{v:V},Same H H'->P H a v->P H' a v)(n:Nat)(xs:Nat->V)(fs:List α)(hn:fs.length=n)(hz:n<=sizeLine)
 (hstop:∀H',Same H H'->J.stop n H') (hgo:∀i H',i<n->Same H H'->J.go i H'/\∀x xw,J.yld i H' x xw->x=xs i/\xw=H')
 (step:∀(i:Nat) (a:α) (Da:xS) (H':Hp) (R:VK),i<n->fs[i]?=some a->Same H H'->H Da=none->(∃o,H' Da=some o)->(∀y xw,Same H' xw->P (Q8 Da xw) a y->R y xw)->te (some (xs i)::cap ix σ) H' R)
 (fin:∀p H' ys,Same H H'->H p=none->H' p=some (.lst ys)->Paired (P H') fs ys->Q (.ref p) H'):Q5 ix te σ Q J H:=by
 have em:(fs.map some).filterMap id=fs:=by rw[List.filterMap_map];exact List.filterMap_some
 refine yN (tt:=Q7) P mono n xs (fs.map some) (by rw[jA];exact hn) hz hstop hgo (λi o H' R hi ei sm h=>?_) (λi a Da H' R hi ei=>step i a Da H' R hi ?_) λp H' ys s1 s2 s3 s4=>fin p H' ys s1 s2 s3 (em ▸ s4)
 . rw[jD]at ei;obtain⟨a,_,rfl⟩:=jf.mp ei;exact h H' (Same.refl H')
 . rw[jD]at ei;obtain⟨b,h1,h2⟩:=jf.mp ei;rw[h1];exact h2
section
variable {X:Cx}
def fO(K:xh)(ix:xq)(wi:TI)(tt:TT)(te:TE):TE:=λσ H Q=>wi σ H λJ H1=>∀D,H1 D=none->∃W:Nat->Nat->Hp->Prop,(∃m,W 0 m (upd H1 D (.lst []))) /\
 ∀i m H,W i m H->(J.stop i H/\Q (.ref D) H)\/(J.go i H/\∀x H',J.yld i H x H'->∃t a b,x=.ref t/\SqT K H' t [a,b]/\tt (some a::some b::cap ix σ) H' λok H2 =>
  if ok=true then te (some a::some b::cap ix σ) H2 λy H3=>∃ys,H3 D=some (.lst ys)/\ys.length<sizeLine/\∃m',m'<m/\W (i+1) m' (upd H3 D (.lst (ys++[y]))) else ∃m',m'<m/\W (i+1) m' H2)
abbrev fP(X:Cx)(x z:Str)(M:xp)(scope:Scope)(cl:List (Str×xS))(C:xS)(xt:xg)(fp:List xS)(s:xR)(H:Hp):Cx:=QK X [x,z] M scope cl C xt fp s H
structure CompOk2 (X:Cx) (x z:Str) (M:xp) (ix:xq) (scope:Scope) (cl:List (Str×xS)):Prop extends CompOk X x M ix scope cl where
 loc2:scope.names.lookup z=some .local
abbrev fQ(x z:Str)(px pz pt:Pos)(k:Nat):Expr := .Tuple [.Name x px,.Name z pz] k pt
end
section
variable {X:Cx}
def yO{vs:St}{x z:Str}(h:vs.length=[x,z].length):∃v w,vs=[v,w]:=match vs,h with | [v,w],_=>⟨v,w,rfl⟩
theorem yP {K : PySem.W.Frag} {ix : List Nat} {tt : TT} {te : TE} {σ : St} {H2 : Hp} {J : It} {Q : VK} {x z : Str} (h : ∀ D, H2 D = none -> ∃ W : Nat -> Nat -> Hp -> Prop, (∃ m, W 0 m (upd H2 D (.lst []))) /\
      ∀i m H,W i m H->(J.stop i H/\Q (.ref D) H)\/(J.go i H/\∀x H',J.yld i H x H'->∃t a b,x=.ref t/\SqT K H' t [a,b]/\tt (some a::some b::cap ix σ) H' λok H2 =>
       if ok=true then te (some a::some b::cap ix σ) H2 λy H3=>∃ys,H3 D=some (.lst ys)/\ys.length<sizeLine/\∃m',m'<m/\W (i+1) m' (upd H3 D (.lst (ys++[y]))) else ∃m',m'<m/\W (i+1) m' H2)) :
 ∀D,H2 D=none->∃W:Nat->Nat->Hp->Prop,(∃m,W 0 m (upd H2 D (.lst []))) /\
  ∀i m H,W i m H->(J.stop i H/\Q (.ref D) H)\/(J.go i H/\∀y H',J.yld i H y H'->∀vs:St,vs.length=[x,z].length->eE K 2 (Y6 (Jh 0) (Y6 (Jh 1) eC)) y (vs++cap ix σ) H' λxM H'=>∃us:St,us.length=[x,z].length/\xM=us++cap ix σ/\tt xM H' λok H2 =>
   if ok=true then te xM H2 λy H3=>∃ys,H3 D=some (.lst ys)/\ys.length<sizeLine/\∃m',m'<m/\W (i+1) m' (upd H3 D (.lst (ys++[y]))) else ∃m',m'<m/\W (i+1) m' H2):=λD hD=>by
 obtain⟨W,w0,t⟩:=h D hD;refine⟨W,w0,λi m H w=>(t i m H w).imp id λpc=>?_⟩;obtain⟨g,st⟩:=pc;refine ⟨g,λy H' hy vs hv=>?_⟩;obtain⟨v,w,rfl⟩:=yO hv;obtain⟨tp,a,b,ex,qt,st'⟩:=st y H' hy;exact⟨tp,_,ex,qt,rfl,_,_,rfl,_,_,rfl,rfl,[some a,some b],rfl,rfl,st'⟩
def yQ(O:CompOk2 X x z M ix scope cl)(hc:X.calm=true)(nd:(x::z::M).Nodup):∀C xt fp s H,PG (fP X x z M scope cl C xt fp s H) (fQ x z px pz pt kk) (eE X.K 2 (Y6 (Jh 0) (Y6 (Jh 1) eC))):=λ_ _ _ _ _ =>
 Xb hc (JZ (Ju nd rfl (.inl (qQ O.loc)) (.inr (qQ O.loc))) (JZ (Ju nd rfl (.inl (qQ O.loc2)) (.inr (qQ O.loc2))) Xa))
def nS
 (O:CompOk2 X x z M ix scope cl) (hc:X.calm=true) (nd:(x::z::M).Nodup) (hi:PI X (fQ x z px pz pt kk) xC wi)
 (ht:∀C xt fp s H,PTs (fP X x z M scope cl C xt fp s H) ifs tt) (he:∀C xt fp s H,PE (fP X x z M scope cl C xt fp s H) elt te) (hs:∀x,foldedSetIterable xC X.env x=pure x:=by intro _;rfl) :
 PE X (.ListComp elt [⟨fQ x z px pz pt kk,xC,ifs,0⟩] scope pos) (fO X.K ix wi tt te):=by
 intro xt s σ H Q I h;rw[eval_ListComp];refine wpAny_comprehension_free (use:=none) rfl hs O.clos O.kind O.names (thn (hi xt s σ H _ I h) λxv s₁ h₁=>thn h₁ λitv s₂ pc=>?_);obtain⟨it,fp,tn,J,H2,e,I2,T,st2,f2,hW⟩:=pc;subst e;refine eZ (RR:=λacc C=>compPost (model X.prog X.w) X.A X.xe none (EP X xt σ Q) acc C) (Q:=Q) O.toCompOk hc (yQ O hc nd) ht he I2 T st2 f2 (yP hW) ?_;intro C D H' s' m IX q hn hC hCL hCz hcc hpc;refine⟨m,hn,λh' hs'=>⟨.ref D,H',?_,rfl,q⟩⟩;exact IX.turned (h':=h') (t':=s'.toks) (λb o hb e=>hs'.extBut b o hb e) hC (Ne.symm hCL).symm (.inr hCz) hcc hpc
end
def aT(K:xh)(ix:xq)(te:TE)(σ:St)(Q:VK):It->Hp->Prop:=λJ H1=>∀D,H1 D=none->∃W:Nat->Nat->Hp->Prop,(∃m,W 0 m (upd H1 D (.lst []))) /\
 ∀i m H,W i m H->(J.stop i H/\Q (.ref D) H)\/(J.go i H/\∀x H',J.yld i H x H'->∃t a b,x=.ref t/\SqT K H' t [a,b]/\Q7 (some a::some b::cap ix σ) H' λok H2 =>
  if ok=true then te (some a::some b::cap ix σ) H2 λy H3=>∃ys,H3 D=some (.lst ys)/\ys.length<sizeLine/\∃m',m'<m/\W (i+1) m' (upd H3 D (.lst (ys++[y]))) else ∃m',m'<m/\W (i+1) m' H2)
def yR{K:xh}{ix:xq}{wi:TI}{te:TE}{D:Ends}{σ:St}{H:Hp}(h:wi σ H (aT K ix te σ D.rt)):eA (fO K ix wi Q7 te) D σ H:=h
def yS{K:xh}{ix:xq}{wi:TI}{te:TE}{sp:Sp}{E:XK}{g:TG}{u:TS}{D:Ends}{σ:St}{H:Hp}(h:wi σ H (aT K ix te σ λx H1=>sp [x] H1 (λv H2=>g v σ H2 (u D)) E)) :
 QS (QH (Zn sp [] E (JF (fO K ix wi Q7 te) JA)) g) u D σ H:=h
def yT{K:xh}{a:xS}{xs:List V}{ix:xq}{te:TE}{σ:St}{H:Hp}{Q:VK}(G:Nat->V->Hp->Prop)(hS:SqL K H a xs)(hz:'h'<=sizeLine)
 (gs:∀i y H1 H2,Same H1 H2->G i y H1->G i y H2) (gu:∀i y (H1:Hp) Da l l',H1 Da=some (.lst l)->G i y H1->G i y (upd H1 Da (.lst l')))
 (item:∀(i:Nat) (x:V) (H':Hp) (R:VK),xs[i]?=some x->Same H H'->(∀y xw,Same H' xw->G i y xw->R y xw)->∃t u v,x=.ref t/\SqT K H' t [u,v]/\te (some u::some v::cap ix σ) H' R)
 (fin:∀l H' ys,H l=none->Same H H'->H' l=some (.lst ys)->ys.length='h'->(∀i y,ys[i]?=some y->G i y H')->Q (.ref l) H') :
 aT K ix te σ Q (Itl K a) H:=by
 intro Da hD;refine⟨λi m H'=>m='h' - i/\i<='h'/\Same H H'/\∃ys,H' Da=some (.lst ys)/\ys.length=i/\∀j y,ys[j]?=some y->G j y H',⟨'h',by simp,jT _,J6 hD _,[],J1,rfl,λj y h=>by simp at h⟩,?_⟩;rintro i m H' ⟨rfl,hi,sm,ys,eD,ly,gy⟩
 by_cases hlt:i<'h'
 . refine .inr ⟨⟨xs,xs[i],sm.seq hS,jB hlt⟩,λx xw hy=>?_⟩;obtain⟨e,y⟩:=hy;subst e;have hx:=y xs (sm.seq hS)
   have key:=item i x _ (λy H3=>∃ys,H3 Da=some (.lst ys)/\ys.length<sizeLine/\∃m',m'<'h' - i/\(m'='h' - (i+1)/\i+1<='h'/\Same H (upd H3 Da (.lst (ys++[y])))/\∃zs,(upd H3 Da (.lst (ys++[y]))) Da=some (.lst zs)/\zs.length=i+1/\∀j z,zs[j]?=some z->G j z (upd H3 Da (.lst (ys++[y]))))) hx sm λy H3 sm3 g3=>by
    have e3:H3 Da=some (.lst ys):=sm3 _ _ eD;refine⟨ys,e3,by omega,'h' - (i+1),by omega,rfl,hlt,XY hD (sm.trans sm3),ys++[y],J1,by simp[ly],λj z hz=>?_⟩;refine gu _ _ _ _ _ _ e3 ?_
    by_cases hj:j<ys.length
    . rw[kU hj]at hz;exact gs _ _ _ _ sm3 (gy j z hz)
    . have hj2:=(jF.mp hz).1;simp at hj2;have e:j=i:=by omega
      subst e;rw[j3 'c',ly,Nat.sub_self]at hz
      cases hz
      exact g3
   exact key
 . have e:i=xs.length:=by omega
   exact .inl ⟨by rw[e];exact⟨xs,sm.seq hS,jE _⟩,fin Da H' ys hD sm eD 'c' gy⟩
def IsD.updL1{K:xh}{H:Hp}{Da:xS}{l l':List V}{d:D}{x:V}(e:H Da=some (.lst l))(n:d.noL=true)(h:IsD K H d x):IsD K (upd H Da (.lst l')) d x:=by
 have:=IsDs.updL (zs:=l') e (show D.noLs [d]=true by show(d.noL&&true)=true;rw[n];rfl) (show IsDs K H [d] [x] from⟨x,[],rfl,h,rfl⟩);obtain⟨y,r,e1,h1,_⟩:=this
 cases e1
 exact h1
def nU{K:xh}{a:xS}{xs:List V}{ix:xq}{te:TE}{σ:St}{H:Hp}{Q:VK}(fs:List D)(hS:SqL K H a xs)(hn:fs.length='h')(hz:'h'<=sizeLine)(hf:D.noLs fs=true)
 (item:∀(i:Nat) (x:V) (d:D) (H':Hp) (R:VK),xs[i]?=some x->fs[i]?=some d->Same H H'->(∀y xw,Same H' xw->IsD K xw d y->R y xw)->∃t u v,x=.ref t/\SqT K H' t [u,v]/\te (some u::some v::cap ix σ) H' R)
 (fin:∀l H',H l=none->Same H H'->IsD K H' (.lst fs) (.ref l)->Q (.ref l) H'):aT K ix te σ Q (Itl K a) H:=by
 refine yT (λi y H'=>∃d,fs[i]?=some d/\IsD K H' d y) hS hz (λi y H1 H2 sm ⟨d,e,h⟩=>⟨d,e,h.same sm⟩) (λi y H1 Da l l' e ⟨d,ed,h⟩=>⟨d,ed,h.updL1 e (fj hf d (jZ ed))⟩)
  (λi x H' R hx sm hR=>?_) (λl H' ys hl sm e ly gy=>fin l H' hl sm ⟨l,ys,rfl,.of e,?_⟩)
 . have hi:i < fs.length:=by rw[hn];exact(jF.mp hx).1
   exact item i x fs[i] H' R hx (jB hi) sm λy xw s' h=>hR y xw s' ⟨_,jB hi,h⟩
 . have:∀(fs:List D) (ys:List V),ys.length=fs.length->(∀i y,ys[i]? = some y->∃d,fs[i]? = some d/\IsD K H' d y)->IsDs K H' fs ys:=λfs=>by
    induction fs with
    |nil=>intro ys h _;exact kO.mp h
    |cons d fs ih =>
     intro ys h k
     cases ys with
     |nil=>simp at h
     |cons y ys =>
      obtain⟨d',e,h1⟩:=k 0 y rfl;have e':d=d':=Option.some.inj e;subst e';exact⟨y,ys,rfl,h1,ih ys (by simpa using h) λi z hz=>k (i+1) z hz⟩
   exact this fs ys 'c' gy
end L2
namespace L2
open PySem PySem.W PySem.Spec PyProof.Rows
section
variable {X:Cx}
theorem nV:∀{ns:xr}{its:xm},Vals (ns.map V.int) its->∃ps:List (Int×Tok),its=ps.map (λp=>Value.int p.1 p.2)/\ps.map (·.1)=ns
 | [],_,.nil=>⟨[],rfl,rfl⟩
 |n::ns,_,.cons ⟨t,e⟩ r=>by
  obtain⟨ps,h1,h2⟩:=nV (ns:=ns) r;exact⟨(n,t)::ps,by rw[e,h1];rfl,by rw[jM,h2]⟩
theorem fR(ps:List (Int×Tok)):∀j,j<=ps.length->preSum (numAt ps.toArray) j=((ps.map (·.1)).take j).sum
 |0,_=>rfl
 |j+1,h=>by
  have hj:j<(ps.map (·.1)).length:=by rw[jA];omega
  show preSum (numAt ps.toArray) j+numAt ps.toArray j=_;rw[fR ps j 'c',ja hj,List.sum_append]
  have:numAt ps.toArray j=(ps.map (·.1))[j]:=by
   unfold numAt;rw[List.getElem?_toArray,jB 'c',j9];rfl
  rw[this];simp
theorem nW:∀{l:xr},(∀n∈l,0<=n/\n<=B)->0<=l.sum/\l.sum<=B*l.length
 | [],_=>⟨Int.le_refl _,by simp⟩
 |a::l,h=>by
  obtain⟨h1,h2⟩:=nW (l:=l) λn hn=>h n (jN _ hn);obtain⟨a1,a2⟩:=h a (jO ..);rw[List.sum_cons,jV];refine⟨by omega,?_⟩;have:B*((l.length+1:Nat):Int)=B*l.length+B:=by push_cast;rw[Int.mul_add,Int.mul_one]
  rw[this];omega
def yU(K:xh)(hK:X.K=K)(hc:X.calm=true):CallR X (.builtin "sum") (λxs H Q=>∃(p:xS) (ns:xr),xs=[.ref p]/\SqL K H p (ns.map V.int)/\(∀n∈ns,0<=n/\n<=10 ^ 9)/\ns.length<=1000/\Q (.int ns.sum) H):=by
 subst hK;intro xt s σ H xs us Q I r h;obtain⟨p,ns,rfl,hS,hb,hl,q⟩:=h;obtain⟨u,rfl,rx⟩:=Qc r
 cases rx
 obtain⟨its,rv,pl,_⟩:=I.list hS;obtain⟨ps,rfl,rfl⟩:=nV rv
 have hL:s.heap.IsList p (intItems ps.toArray):=by
  have:=pl.isList;unfold intItems;simpa using this
 rw[jA]at hl;refine sum_intList (show X.A.handled=none from I.ok.hd hc) hL (λj hj=>?_) λh' tk t' kp=>?_
 . have hj':j < ps.length:=by simpa using hj
   have b1:=nW (B:=10 ^ 9) (l:=(ps.map (·.1)).take (j+1)) λn hn=>hb n (jj hn);rw[<- fR ps (j+1) hj',jW,jA]at b1
   have e:numAt ps.toArray j=(ps.map (·.1))[j]'(by rw[jA];exact hj'):=by
    unfold numAt;rw[List.getElem?_toArray,jB hj',j9];rfl
   have b2:=hb (numAt ps.toArray j) (e ▸ jX _);have b3:(10:Int) ^ 9*((min (j+1) ps.length:Nat):Int)<=10 ^ 9*1000:=Int.mul_le_mul_of_nonneg_left 'c' 'd';unfold InLong;omega
 . have e:preSum (numAt ps.toArray) ps.toArray.size=(ps.map (·.1)).sum:=by
    rw[fR ps _ 'f',j4 'f']
   rw[e];exact⟨.int _,H,I.kept (h':=h') (t':=tk) kp,⟨t',rfl⟩,q⟩
end
end L2
namespace L2
open PySem PySem.Spec PyProof.Rows
section
variable {X:Cx}{xt:xg}{σ:St}{H:Hp}{s:xR}
def Inv.turnNew{h':Heap}{t':Nat}{e it a:xS}{o:HO}(I:Inv X xt σ H s)(f:∀b∈[e,it],FpOk X xt H b)(k:∀b u,b≠e->b≠it->'i' b=some u->h'.get? b=some u)(hp:'g'<=a)
 (new:ObjOk X.prog X.w (upd H a o) h' a o):Inv X xt σ (upd H a o) { s with heap:=h',toks:=t' }:=by
 have hn:H a=none:=I.hok.fresh hp;have fe:=f e 'f';have fi:=f it 'f';have ne:∀b u,H b=some u->b≠e:=λb u q z=>by rw[z,fe.1]at q;cases q
 have ni:∀b u,H b=some u->b≠it:=λb u q z=>by rw[z,fi.1]at q;cases q
 have k':∀b u,b∉[e,it]->'i' b=some u->h'.get? b=some u:=λb u hb q=>k b u (λz=>hb (by simp[z])) (λz=>hb (by simp[z])) q
 refine I.step (g':=s.gens) (d':=s.drawn) (ch:=[e,it]) (λb hb=>?_) (λb u _ _ hc q _=>k' b u hc q) (λb u _ _ hc q _=>⟨u.slots,k' b u hc q⟩) (λb u _ q n=>?_)
  (λb u hc q=>⟨u,k' b u hc q⟩) (λb xs q=>by rw[xZ (Jp q hn)];exact q) (λb _ _ q=>by rw[xZ (Jp q hn)];exact q) (λb ps q=>⟨#[],by rw[xZ (Jp q hn),q];simp⟩) (λm hm=>?_) (λb u q=>?_) I.bare
 . obtain⟨_,g1,g2,g3,g4,g5⟩:=f b hb;exact⟨g3,g1,g4,g5⟩
 . rw[xZ (λz=>by rw[z]at q;exact absurd (jS (jI q) hp) (kA _))];exact n
 . obtain⟨ob,es,ep,ho,r⟩:=hm;exact⟨ob,es,ep,k _ ob (Ne.symm fe.2.1) (Ne.symm fi.2.1) ho,r⟩
 . by_cases hb:b=a
   . subst hb;rw[J1]at q;cases q;exact new
   . rw[xZ hb]at q;refine(I.hok b u q).stay (λc v hc z=>k c v ?_ ?_ z) (λc z=>by rw[xZ (Jp z hn)];exact z) λc xs z=>by rw[xZ (Jp z hn)];exact z
     . rcases hc with z | z
       . rw[z];exact ne b u q
       . exact ne c _ z
     . rcases hc with z | z
       . rw[z];exact ni b u q
       . exact ni c _ z
end
section
variable {prog:xT}{w:xU}{A:xV}{E:xc}{s:xR}
structure TWalk (h:Heap) (it t:xS) (xs:xk) (i:Nat):Prop where
 kd:(IsTupIter h it t i/\IsTup h t xs)\/(h.IsListIter it t i/\h.IsList t xs)
 ne:t≠it
def TWalk.all(W:TWalk h it t xs i)(k:∀b o,b=it\/b=t->h.get? b=some o->h'.get? b=some o):TWalk h' it t xs i:=by
 obtain⟨⟨⟨o,e,r⟩,o2,e2,r2⟩|⟨⟨o,e,r⟩,o2,e2,r2⟩,n⟩:=W
 . exact⟨.inl ⟨⟨o,k _ _ (.inl rfl) e,r⟩,⟨o2,k _ _ (.inr rfl) e2,r2⟩⟩,n⟩
 . exact⟨.inr ⟨⟨o,k _ _ (.inl rfl) e,r⟩,⟨o2,k _ _ (.inr rfl) e2,r2⟩⟩,n⟩
def TWalk.but(W:TWalk h it t xs i)(k:Heap.ExtBut b h h')(n1:it≠b)(n2:t≠b):TWalk h' it t xs i:=W.all λc o hc e=>k c o (by rcases hc with rfl|rfl;exact n1;exact n2) e
def TWalk.obj(W:TWalk h it t xs i):∃o,h.get? it=some o:=by
 obtain⟨⟨⟨o,e,_⟩,_⟩|⟨⟨o,e,_⟩,_⟩,_⟩:=W<;>exact⟨o,e⟩
def aU(W:TWalk s.heap it t xs i)(hx:xs[i]?=some x)
 (k:∀h',TWalk h' it t xs (i+1)->Heap.SameBut it s.heap h'->Q x { s with heap:=h' }):wpAny (model prog w) A (Builtin.SmallTypes.nextOf (.ref it)) Q E s:=by
 obtain⟨⟨⟨o,ho,hc,hd⟩,⟨ot,et,ct,mt,dt⟩⟩|⟨hit,ol,el,rl⟩,n⟩:=W
 case inr=>exact wpAny_nextOf_list_item hit ⟨ol,el,rl⟩ hx λh' a' sb=>k h' ⟨.inr ⟨a',ol,sb.extBut _ _ n el,rl⟩,n⟩ sb
 have ti:s.TypeIs (.ref it) "tuple_iterator" := ⟨o,ho,hc⟩;unfold Builtin.SmallTypes.nextOf;apply q8;apply qD (name:=Str.ofString "__next__") ti slot_tupleiter_next;apply qE slot_tupleiter_next ti entry_tupleiter_next _ (args_tupleiter_next _);apply q8 (qk ho hd (x := .ref t) rfl _);apply q8 (qk ho hd (x := .int i 0) rfl _);apply q8 (qK et dt _);dsimp only;rw[kC,hx];have b:=Heap.SameBut.update s.heap it (Obj.mapFields (·.setIfInBounds 1 (rawInt ((i:Int)+1))));dsimp only;refine q8 (qR ho hd 'f' (qf ⟨x,rfl,qf (k _ ⟨.inl ⟨?_,IsTup.extBut ⟨ot,et,ct,mt,dt⟩ b.extBut n⟩,n⟩ b)⟩));refine⟨_,jn _ ho (Obj.isFreed_of_fields (Obj.data_mapFields hd _)),(Obj.cls_mapFields ..).trans hc,?_⟩;rw[Obj.data_mapFields hd];simp[rawInt]
def nX(hh:A.handled=none)(W:TWalk s.heap it t xs i)(hx:xs[i]?=none)
 (k:∀h' e,Heap.ExtBut it s.heap h'->(∃o,h'.get? e=some o/\o.cls=.type "StopIteration")->E (.ref e) { s with heap:=h' }):wpAny (model prog w) A (Builtin.SmallTypes.nextOf (.ref it)) Q E s:=by
 obtain⟨⟨⟨o,ho,hc,hd⟩,⟨ot,et,ct,mt,dt⟩⟩|⟨hit,hl⟩,n⟩:=W
 case inr=>exact wpAny_nextOf_list_end hh hit hl hx k
 have ti:s.TypeIs (.ref it) "tuple_iterator" := ⟨o,ho,hc⟩;unfold Builtin.SmallTypes.nextOf;apply q8;apply qD (name:=Str.ofString "__next__") ti slot_tupleiter_next;apply qE slot_tupleiter_next ti entry_tupleiter_next _ (args_tupleiter_next _);apply q8 (qk ho hd (x := .ref t) rfl _);apply q8 (qk ho hd (x := .int i 0) rfl _);apply q8 (qK et dt _);dsimp only;rw[kC,hx];dsimp only;refine q8 (qZ (q8 (qR ho hd 'f' ?_)));have b:=(Heap.SameBut.update s.heap it (Obj.mapFields (·.setIfInBounds 0 .none))).extBut;unfold Builtin.SmallTypes.stopIteration;refine q8 ?_;unfold newExc;refine q8 (wpAny_newTuple ?_);have f0:firstArgMember (.type "StopIteration") []=pure .none:=rfl;refine q8 ?_;rw[f0];refine qf (qu ?_ (by size_fits));exact wpAny_raiseNew_none (show A.in1.handled=none from hh) (k _ _ ((b.push _).push _) ⟨_,jH _ rfl,rfl⟩)
structure ZAt (h:Heap) (z TI TO i1 i2 t1 t2:xS) (xs ys:xk) (n:Nat) (f0:xQ) (f1:Bool):Prop where
 zip:h.get? z=some { cls := .type "zip",dict:=none,data := .fields #[f0,.bool f1,.bool false,.ref TI,.ref TO],slots:=#[] }
 its:h.get? TI=some { cls := .type "tuple",data := .seq #[.ref i1,.ref i2] }
 own:∃a b,h.get? TO=some { cls := .type "tuple",data := .seq #[a,b] }
 w1:TWalk h i1 t1 xs n
 w2:TWalk h i2 t2 ys n
structure ZOff (z TI TO i1 i2 t1 t2:xS):Prop where
 ne:[z,TI,TO,i1,i2].Nodup
 o1:t1∉[z,TI,TO,i1,i2]
 o2:t2∉[z,TI,TO,i1,i2]
def nY(g:'i' T=some { cls := .type "tuple",data := .seq #[a,b] })
 (k:∀h',h'.get? T=some { cls := .type "tuple",data := .seq ((#[a,b]:xk).setIfInBounds j v) }->Heap.SameBut T s.heap h'->Q () { s with heap:=h' }):wpAny (model prog w) A (updateSeq T (·.setIfInBounds j v)) Q E s :=
 qU g rfl (k _ (by rw[jn _ g rfl];simp[Obj.mapSeq]) (Heap.SameBut.update ..))
def yV{z TI TO i1 i2 t1 t2:xS}{xs ys:xk}{n:Nat}{x y:xQ}{f1:Bool}{Q:xc}(D:ZOff z TI TO i1 i2 t1 t2)(Z:ZAt s.heap z TI TO i1 i2 t1 t2 xs ys n .none f1)(hx:xs[n]?=some x)(hy:ys[n]?=some y)
 (k:∀h',ZAt h' z TI TO i1 i2 t1 t2 xs ys (n+1) (rawInt 'g') false->h'.get? 'g'=some { cls := .type "tuple",data := .seq #[x,y] }->h'.objs.size='g'+1->(∀c o,c≠z->c≠TO->c≠i1->c≠i2->'i' c=some o->h'.get? c=some o)->Q (.ref 'g') { s with heap:=h' }) :
 wpAny (model prog w) A (Builtin.«zip.__next__» ⟨[.ref z],[]⟩) (λfin s'=>∃v,fin=.done (.ret v)/\Q v s') E s:=by
 obtain⟨gz,gi,⟨a,b,go⟩,w1,w2⟩:=Z;obtain⟨ne,o1,o2⟩:=D;simp only[jm,jJ,jy,x9,not_or,jp,and_true,not_false_eq_true]at ne o1 o2;obtain⟨⟨zTI,zTO,z1,z2⟩,⟨TT,T1,T2⟩,⟨O1,O2⟩,i12⟩:=ne;unfold Builtin.«zip.__next__»;refine q8 (qf ?_);dsimp only;refine q8 (qk gz rfl (x := .bool false) rfl ?_);refine q8 (qk gz rfl (x := .ref TI) rfl ?_);refine q8 (qK gi rfl ?_);dsimp only;rw[qg (λc=>Bool.noConfusion c)];refine q8 ?_;unfold Builtin.SmallTypes.ownedTupleIsFree;refine q8 (qk gz rfl (x := .none) rfl (qf ?_));rw[qh rfl];refine q8 (qZ (q8 (qk gz rfl (x := .ref TO) rfl ?_)));dsimp only;refine q8 (qJ gz 'f' λh1 gz1 e1=>?_);have go1:=e1.extBut _ _ (Ne.symm zTO) go;refine q8 ?_;rw[show([Value.ref i1,Value.ref i2]:xm).zipIdx=[(.ref i1,0),(.ref i2,1)] from rfl,qA];refine q8 (q8 (wpAny_onRaise ?_));refine q8 (aU (w1.but e1.extBut (Ne.symm z1) o1.1) hx λh2 w12 e2=>qf ?_);have go2:=e2.extBut _ _ O1 go1;dsimp only;refine q8 (qK go2 rfl ?_);dsimp only;refine q8 (nY go2 λh3 go3 e3=>q8 (wpAny_letGo (qf ?_)));dsimp only;rw[qA];have v2:=((w2.but e1.extBut (Ne.symm z2) o2.1).but e2.extBut (Ne.symm i12) o2.2.2.2.1).but e3.extBut (Ne.symm O2) o2.2.2.1;refine q8 (q8 (wpAny_onRaise ?_));refine q8 (aU v2 hy λh4 w24 e4=>qf ?_);have go4:=e4.extBut _ _ O2 go3;dsimp only;refine q8 (qK go4 rfl ?_);dsimp only;refine q8 (nY go4 λh5 go5 e5=>q8 (wpAny_letGo (qf ?_)));dsimp only;rw[List.forIn_nil];refine qf ?_;dsimp only;refine q8 (qK go5 rfl ?_);dsimp only;refine q8 (wpAny_newTuple ?_ (by show(2:Nat)<=sizeLine;decide));have sz:h5.objs.size='g':=by rw[e5.1,e4.1,e3.1,e2.1,e1.1]
 have gz5:h5.get? z=some _:=e5.extBut _ _ zTO (e4.extBut _ _ z2 (e3.extBut _ _ zTO (e2.extBut _ _ z1 gz1)));have all5:∀c o,c≠z->c≠TO->c≠i1->c≠i2->'i' c=some o->h5.get? c=some o:=λc o c1 c2 c3 c4 e=>e5.extBut _ _ c2 (e4.extBut _ _ c4 (e3.extBut _ _ c2 (e2.extBut _ _ c3 (e1.extBut _ _ c1 e))));have u1:=((w12.but e3.extBut (Ne.symm O1) o1.2.2.1).but e4.extBut i12 o1.2.2.2.2).but e5.extBut (Ne.symm O1) o1.2.2.1;have u2:=w24.but e5.extBut (Ne.symm O2) o2.2.2.1;have zl:=jI gz5;refine q8 ?_;unfold Builtin.SmallTypes.ownedTupleHandOut;dsimp only;refine q8 (qJ (jC _ gz5) 'f' λh7 gz7 e7=>qJ gz7 'f' λh8 gz8 e8=>?_);have up:∀c o,c≠z->h5.get? c=some o->h8.get? c=some o:=λc o c1 e=>e8.extBut _ _ c1 (e7.extBut _ _ c1 (jC _ e))
 have new:h8.get? 'g'=some { cls := .type "tuple",data := .seq #[x,y] }:=by
  rw[<- sz];exact e8.extBut _ _ (jo zl) (e7.extBut _ _ (jo zl) (jH _ rfl))
 have s8:h8.objs.size='g'+1:=by rw[e8.1,e7.1,j8,sz]
 refine qf ⟨_,rfl,?_⟩;rw[sz]at gz8 ⊢;refine k h8 ⟨gz8,up _ _ (Ne.symm zTI) (all5 _ _ (Ne.symm zTI) TT T1 T2 gi),⟨x,y,up _ _ (Ne.symm zTO) go5⟩,u1.all λc o hc e=>up c o ?_ e,u2.all λc o hc e=>up c o ?_ e⟩ new s8 λc o c1 c2 c3 c4 e=>up c o c1 (all5 c o c1 c2 c3 c4 e)
 . rcases hc with rfl | rfl
   . exact Ne.symm z1
   . exact o1.1
 . rcases hc with rfl | rfl
   . exact Ne.symm z2
   . exact o2.1
def yW{z TI TO i1 i2 t1 t2:xS}{xs ys:xk}{n:Nat}{f1:Bool}{Q:Fin->xR->Prop}(hh:A.handled=none)(D:ZOff z TI TO i1 i2 t1 t2)(Z:ZAt s.heap z TI TO i1 i2 t1 t2 xs ys n .none f1)(hx:xs[n]?=none)
 (k:∀h' e,(∀c o,c≠z->c≠i1->'i' c=some o->h'.get? c=some o)->(∃o,h'.get? e=some o/\o.cls=.type "StopIteration")->E (.ref e) { s with heap:=h' }) :
 wpAny (model prog w) A (Builtin.«zip.__next__» ⟨[.ref z],[]⟩) Q E s:=by
 obtain⟨gz,gi,⟨a,b,go⟩,w1,w2⟩:=Z;obtain⟨ne,o1,o2⟩:=D;simp only[jm,jJ,jy,x9,not_or,jp,and_true,not_false_eq_true]at ne o1 o2;obtain⟨⟨zTI,zTO,z1,z2⟩,⟨TT,T1,T2⟩,⟨O1,O2⟩,i12⟩:=ne;unfold Builtin.«zip.__next__»;refine q8 (qf ?_);dsimp only;refine q8 (qk gz rfl (x := .bool false) rfl ?_);refine q8 (qk gz rfl (x := .ref TI) rfl ?_);refine q8 (qK gi rfl ?_);dsimp only;rw[qg (λc=>Bool.noConfusion c)];refine q8 ?_;unfold Builtin.SmallTypes.ownedTupleIsFree;refine q8 (qk gz rfl (x := .none) rfl (qf ?_));rw[qh rfl];refine q8 (qZ (q8 (qk gz rfl (x := .ref TO) rfl ?_)));dsimp only;refine q8 (qJ gz 'f' λh1 gz1 e1=>?_);refine q8 ?_;rw[show([Value.ref i1,Value.ref i2]:xm).zipIdx=[(.ref i1,0),(.ref i2,1)] from rfl,qA];refine q8 (q8 (wpAny_onRaise ?_));refine q8 (nX hh (w1.but e1.extBut (Ne.symm z1) o1.1) hx λh2 e e2 he=>?_);obtain⟨oe,ge,ce⟩:=he;have gz2:h2.get? z=some _:=e2 _ _ z1 gz1;have ez:e≠z:=λq=>by subst q;rw[gz2]at ge;cases ge;simp at ce
 exact qJ gz2 'f' λh3 _ e3=>k h3 e (λc o c1 c2 g=>e3.extBut _ _ c1 (e2 _ _ c2 (e1.extBut _ _ c1 g))) ⟨oe,e3.extBut _ _ ez ge,ce⟩
def nZ{z TI TO T:xS}{oT:Obj}{f1:Bool}(gz:'i' z=some { cls := .type "zip",dict:=none,data := .fields #[rawInt T,.bool f1,.bool false,.ref TI,.ref TO],slots:=#[] })(gT:'i' T=some oT) :
 wpAny (model prog w) A (Builtin.SmallTypes.ownedTupleIsFree (.ref z)) (λr s1=>r=false/\∃h1,s1={ s with heap:=h1 }/\h1.get? z=some { cls := .type "zip",dict:=none,data := .fields #[rawInt T,.bool true,.bool false,.ref TI,.ref TO],slots:=#[] }/\Heap.SameBut z s.heap h1) E s:=by
 unfold Builtin.SmallTypes.ownedTupleIsFree;refine q8 (qk gz rfl (x:=rawInt T) rfl ?_);dsimp only[rawInt];rw[kC];refine q8 (PySem.W.kdx_alive gT ?_);rw[qg (λc=>Bool.noConfusion c)];refine q8 (qk gz rfl (x := .bool f1) rfl ?_)
 cases f1 with
 |false =>
  rw[qh 'd'];exact q8 (qJ gz 'f' λh1 g1 e1=>qf ⟨rfl,h1,rfl,g1,e1⟩)
 |true =>
  rw[qg 'd'];exact qf ⟨rfl,s.heap,rfl,gz,Heap.SameBut.refl ..⟩
def yX{z TI TO i1 i2 t1 t2:xS}{xs ys:xk}{n:Nat}{x y:xQ}{T:xS}{oT:Obj}{f1:Bool}{Q:xc}(D:ZOff z TI TO i1 i2 t1 t2)(Z:ZAt s.heap z TI TO i1 i2 t1 t2 xs ys n (rawInt T) f1)(gT:'i' T=some oT)(hx:xs[n]?=some x)(hy:ys[n]?=some y)
 (k:∀h',ZAt h' z TI TO i1 i2 t1 t2 xs ys (n+1) (rawInt T) true->h'.get? 'g'=some { cls := .type "tuple",data := .seq #[x,y] }->h'.objs.size='g'+1->(∀c o,c≠z->c≠i1->c≠i2->'i' c=some o->h'.get? c=some o)->Q (.ref 'g') { s with heap:=h' }) :
 wpAny (model prog w) A (Builtin.«zip.__next__» ⟨[.ref z],[]⟩) (λfin s'=>∃v,fin=.done (.ret v)/\Q v s') E s:=by
 obtain⟨gz,gi,⟨a,b,go⟩,w1,w2⟩:=Z;obtain⟨ne,o1,o2⟩:=D;simp only[jm,jJ,jy,x9,not_or,jp,and_true,not_false_eq_true]at ne o1 o2;obtain⟨⟨zTI,zTO,z1,z2⟩,⟨TT,T1,T2⟩,⟨O1,O2⟩,i12⟩:=ne;unfold Builtin.«zip.__next__»;refine q8 (qf ?_);dsimp only;refine q8 (qk gz rfl (x := .bool false) rfl ?_);refine q8 (qk gz rfl (x := .ref TI) rfl ?_);refine q8 (qK gi rfl ?_);dsimp only;rw[qg (λc=>Bool.noConfusion c)];refine q8 ?_;refine qq (nZ gz gT) (λr s1 hr=>?_) λ_ _ q=>q;obtain⟨rfl,h1,rfl,gz1,e1⟩:=hr;rw[qg (λc=>Bool.noConfusion c)];refine q8 ?_;rw[<- Array.forIn_toList];rw[show(#[Value.ref i1,Value.ref i2]:xk).toList=[.ref i1,.ref i2] from rfl,qA];refine q8 (q8 (qF ?_));refine q8 (aU (w1.but e1.extBut (Ne.symm z1) o1.1) hx λh2 w12 e2=>qf (qf ?_));dsimp only;rw[qA];have v2:=(w2.but e1.extBut (Ne.symm z2) o2.1).but e2.extBut (Ne.symm i12) o2.2.2.2.1;refine q8 (q8 (qF ?_));refine q8 (aU v2 hy λh3 w23 e3=>qf (qf ?_));dsimp only;rw[List.forIn_nil];refine qf ?_;dsimp only;refine q8 (wpAny_newTuple ?_ (by show(2:Nat)<=sizeLine;decide));have sz:h3.objs.size='g':=by rw[e3.1,e2.1,e1.1]
 have gz3:h3.get? z=some _:=e3.extBut _ _ z2 (e2.extBut _ _ z1 gz1);have all3:∀c o,c≠z->c≠i1->c≠i2->'i' c=some o->h3.get? c=some o:=λc o c1 c2 c3 e=>e3.extBut _ _ c3 (e2.extBut _ _ c2 (e1.extBut _ _ c1 e));have u1:=w12.but e3.extBut i12 o1.2.2.2.2;have up:∀(c:xS) (o:Obj),h3.get? c=some o->(h3.push { cls := .type "tuple",data := .seq #[x,y] }).get? c=some o:=λc o e=>jC _ e;refine qf ⟨_,rfl,?_⟩;show Q (.ref h3.objs.size) _
 have new:(h3.push { cls := .type "tuple",data := .seq #[x,y] }).get? 'g'=some { cls := .type "tuple",data := .seq #[x,y] }:=by
  rw[<- sz];exact jH _ rfl
 rw[sz];exact k _ ⟨up _ _ gz3,up _ _ (all3 _ _ (Ne.symm zTI) T1 T2 gi),⟨a,b,up _ _ (all3 _ _ (Ne.symm zTO) O1 O2 go)⟩,u1.all λc o _ e=>up c o e,w23.all λc o _ e=>up c o e⟩ new (by rw[j8,sz]) λc o c1 c2 c3 e=>up c o (all3 c o c1 c2 c3 e)
def yY{z TI TO i1 i2 t1 t2:xS}{xs ys:xk}{n:Nat}{T:xS}{oT:Obj}{f1:Bool}{Q:Fin->xR->Prop}(hh:A.handled=none)(D:ZOff z TI TO i1 i2 t1 t2)(Z:ZAt s.heap z TI TO i1 i2 t1 t2 xs ys n (rawInt T) f1)(gT:'i' T=some oT)(hx:xs[n]?=none)
 (k:∀h' e,(∀c o,c≠z->c≠i1->'i' c=some o->h'.get? c=some o)->(∃o,h'.get? e=some o/\o.cls=.type "StopIteration")->E (.ref e) { s with heap:=h' }) :
 wpAny (model prog w) A (Builtin.«zip.__next__» ⟨[.ref z],[]⟩) Q E s:=by
 obtain⟨gz,gi,⟨a,b,go⟩,w1,w2⟩:=Z;obtain⟨ne,o1,o2⟩:=D;simp only[jm,jJ,jy,x9,not_or,jp,and_true,not_false_eq_true]at ne o1 o2;obtain⟨⟨zTI,zTO,z1,z2⟩,⟨TT,T1,T2⟩,⟨O1,O2⟩,i12⟩:=ne;unfold Builtin.«zip.__next__»;refine q8 (qf ?_);dsimp only;refine q8 (qk gz rfl (x := .bool false) rfl ?_);refine q8 (qk gz rfl (x := .ref TI) rfl ?_);refine q8 (qK gi rfl ?_);dsimp only;rw[qg (λc=>Bool.noConfusion c)];refine q8 (qq (nZ gz gT) (λr s1 hr=>?_) λ_ _ q=>q);obtain⟨rfl,h1,rfl,gz1,e1⟩:=hr;rw[qg (λc=>Bool.noConfusion c)];refine q8 ?_;rw[<- Array.forIn_toList];rw[show(#[Value.ref i1,Value.ref i2]:xk).toList=[.ref i1,.ref i2] from rfl,qA];refine q8 (q8 (qF ?_));exact q8 (nX hh (w1.but e1.extBut (Ne.symm z1) o1.1) hx λh2 e e2 he=>k h2 e (λc o c1 c2 g=>e2 _ _ c2 (e1.extBut _ _ c1 g)) he)
def o5(ht:s.TypeIs (.ref z) "zip")(h:wpAny (model prog w) A.in1 (Builtin.«zip.__next__» ⟨[.ref z],[]⟩) (λfin s'=>∃v,fin=.done (.ret v)/\Q (some v) s') (λe s'=>s'.TypeIs e "StopIteration" /\ Q none s') s):wpAny (model prog w) A (pyNext (.ref z)) Q E s:=by
 unfold pyNext;refine q8 (wpAny_attempt (qD (name:=Str.ofString "__next__") ht F.slot_zip_next (qE F.slot_zip_next ht F.entry_zip_next ?_ (F.args_zip_next_1 _))));refine qq h (λfin s' ⟨v,e,q⟩=>⟨v,e,qf q⟩) λe s' ⟨te,q⟩=>?_;exact q8 (x5 (T := "StopIteration") (b:=true) te isSubtype_stop (qf q))
def Z0(n1:String)(b t1 t2:xS):List Obj:=[{ cls := .type n1,data := .fields #[.ref t1,.int 0 0] },{ cls := .type "tuple_iterator",data := .fields #[.ref t2,.int 0 0] },
 { cls := .type "tuple",data := .seq #[.ref b,.ref (b+1)] },{ cls := .type "tuple",data := .seq #[.none,.none] },{ cls := .type "zip",data := .fields #[.none,.bool false,.bool false,.ref (b+2),.ref (b+3)] }]
def laid(h:Heap)(os:List Obj):Heap:=os.foldl Heap.push h
def FstQ(n1:String)(h:Heap)(t:xS)(xs:xk):Prop:=(n1 = "tuple_iterator" /\ IsTup h t xs)\/(n1 = "list_iterator" /\ h.IsList t xs)
theorem FstQ.lt(q:FstQ n1 h t xs):t<h.objs.size:=by
 rcases q with ⟨_,q⟩|⟨_,o,e,_⟩
 . exact q.lt
 . exact jI e
def yZ(n1:String)(t1 t2:xS)(xs ys:xk):Meets (Builtin.«zip.__new__» ⟨[.type "zip",.ref t1,.ref t2],[]⟩) (λ_ R s=>FstQ n1 s.heap t1 xs/\IsTup s.heap t2 ys/\R (.ok (.ret (.ref ('g'+4)))) { s with heap:=laid s.heap (Z0 n1 'g' t1 t2) }) :=
 .of_wp λprog w A R s h=>by
  obtain⟨hp,g,d,tk,os⟩:=s;obtain⟨h1,h2,h⟩:=h;have hsub:=sub_zip;have q2:IsTup (Shared.heap ⟨hp.push { cls := .type n1,data := .fields #[.ref t1,.int 0 0] },g,d,tk,os⟩) t2 ys:=h2.push _
  have q1:∀{A':xV}{E':xc}{Q':xc},Q' (.ref (Shared.heap ⟨hp,g,d,tk,os⟩).objs.size) { (⟨hp,g,d,tk,os⟩:xR) with heap:=(Shared.heap ⟨hp,g,d,tk,os⟩).push { cls := .type n1,data := .fields #[.ref t1,.int 0 0] } }->wpAny (model prog w) A' (pyIter (.ref t1)) Q' E' ⟨hp,g,d,tk,os⟩:=fun {A' E' Q'} q=>by
   rcases h1 with ⟨rfl,h1⟩|⟨rfl,h1⟩
   . exact iter_tuple h1 q
   . exact wpAny_pyIter_list h1 q
  wp_walk using q1,iter_tuple q2;refine⟨_,rfl,?_⟩;dsimp only at h ⊢;simp only[j8]at h ⊢;exact h
def o6(q1:FstQ n1 h t1 xs)(q2:IsTup h t2 ys):ZAt (laid h (Z0 n1 h.objs.size t1 t2)) (h.objs.size+4) (h.objs.size+2) (h.objs.size+3) h.objs.size (h.objs.size+1) t1 t2 xs ys 0 .none false/\(laid h (Z0 n1 h.objs.size t1 t2)).objs.size=h.objs.size+5/\∀c o,h.get? c=some o->(laid h (Z0 n1 h.objs.size t1 t2)).get? c=some o:=by
 unfold laid Z0;simp only[List.foldl];have at_:∀(h:Heap) (o:Obj) (n:Nat),o.isFreed=false->h.objs.size=n->(h.push o).get? n=some o:=λh o n f e=>by subst e;exact jH _ f
 have up:∀(h:Heap) (o o':Obj) (c:xS),h.get? c=some o'->(h.push o).get? c=some o':=λh o o' c e=>jC _ e;have l1:=q1.lt;have l2:=q2.lt
 refine⟨⟨at_ _ _ _ rfl (by simp only[j8]),up _ _ _ _ (up _ _ _ _ (at_ _ _ _ rfl (by simp only[j8]))),⟨_,_,up _ _ _ _ (at_ _ _ _ rfl (by simp only[j8]))⟩,
  ⟨?_,jQ l1⟩,
  ⟨.inl ⟨⟨_,up _ _ _ _ (up _ _ _ _ (up _ _ _ _ (at_ _ _ _ rfl (by simp only[j8])))),rfl,rfl⟩,((((q2.push _).push _).push _).push _).push _⟩,λz=>kA _ (jS (jd (Nat.le_of_eq z.symm) l2) (Nat.le_add_right _ _))⟩⟩,?_,λc o e=>up _ _ _ _ (up _ _ _ _ (up _ _ _ _ (up _ _ _ _ (up _ _ _ _ e))))⟩
 . rcases q1 with ⟨rfl,q1⟩ | ⟨rfl,o,e,r⟩
   . exact .inl ⟨⟨_,up _ _ _ _ (up _ _ _ _ (up _ _ _ _ (up _ _ _ _ (at_ _ _ _ rfl rfl)))),rfl,rfl⟩,((((q1.push _).push _).push _).push _).push _⟩
   . exact .inr ⟨⟨_,up _ _ _ _ (up _ _ _ _ (up _ _ _ _ (up _ _ _ _ (at_ _ _ _ rfl rfl)))),rfl,rfl⟩,o,up _ _ _ _ (up _ _ _ _ (up _ _ _ _ (up _ _ _ _ (up _ _ _ _ e)))),r⟩
 . simp only[j8]
def z6{h:Heap}{t1 t2:xS}(l1:t1<h.objs.size)(l2:t2<h.objs.size):ZOff (h.objs.size+4) (h.objs.size+2) (h.objs.size+3) h.objs.size (h.objs.size+1) t1 t2:=by
 have far:∀(t:xS) (k:Nat),t<h.objs.size->¬t=h.objs.size+k:=λt k l z=>kA _ (jS (jd (Nat.le_of_eq z.symm) l) (Nat.le_add_right _ _));refine⟨by simp,?_,?_⟩<;>simp only[jJ,jy,x9,not_or]
 . exact⟨far _ 4 l1,far _ 2 l1,far _ 3 l1,far _ 0 l1,far _ 1 l1⟩
 . exact⟨far _ 4 l2,far _ 2 l2,far _ 3 l2,far _ 0 l2,far _ 1 l2⟩
def z7(q1:FstQ n1 s.heap t1 xs)(q2:IsTup s.heap t2 ys)(k:Q (.ref ('g'+4)) { s with heap:=laid s.heap (Z0 n1 'g' t1 t2) }):wpAny (model prog w) A (call (.type "zip") [.ref t1,.ref t2]) Q E s :=
 callType_new F.called_zip 'd' (F.typeCall_zip_2 _ _) (F.newCall_zip_2 _ _) (λobj=>F.args_object_init_3 obj _ _) F.entry_zip_new (yZ n1 t1 t2 xs ys) ⟨q1,q2,⟨⟨_,(o6 q1 q2).1.zip,rfl⟩,k⟩⟩
end
end L2
namespace L2
open PySem PySem.W PySem.Spec PyProof.Rows
def z8:typeLookup (.type "zip") "keys" = pure none:=by rw[typeLookup_type,builtinLookup_eq_fast];kernel_rfl
def z9:typeLookup (.type "zip") "__getattr__" = pure none:=by rw[typeLookup_type,builtinLookup_eq_fast];kernel_rfl
theorem zb:entryFor table "zip.__getattribute__" = some Builtin.«object.__getattribute__»:=entryFor_alias (id' := "object.__getattribute__") (by kernel_rfl) (by first|rfl|decide +kernel) (by decide +kernel) (by kernel_rfl)
def zc(a:xS)(vs:xk)(u:Tok) :
 Meets (Builtin.«object.__getattribute__» ⟨[.ref a,.str "keys" u],[]⟩) (λA R s=>'i' a=some { cls := .type "zip",dict:=none,data := .fields vs,slots:=#[] }/\raisesAttr (.ref a) "keys" A R s) :=
 Meets.of_wp λprog w A R s hs=>by
  obtain⟨hp,g,d,tk,os⟩:=s;obtain⟨hx,hs⟩:=hs;have zt:(⟨hp,g,d,tk,os⟩:xR).TypeIs (.ref a) "zip" := ⟨_,hx,rfl⟩;have z0:=z8;unfold Builtin.«object.__getattribute__»
  repeat (any_goals (first|assumption|wp_step))
  exact wpAny_raiseAttrError hs.1 hs.2 (attrMsg_fits (by decide +kernel) (by rw[qH];decide))
def zf(hx:'i' a=some { cls := .type "zip",dict:=none,data := .fields vs,slots:=#[] })(hA:A.handled=none)
 (h:∀h' tk,(∀b o,'i' b=some o->h'.get? b=some o)->Q none { s with heap:=h',toks:=tk }):wpAny (model prog w) A (getAttr? (.ref a) "keys") Q E s:=by
 obtain⟨hp,g,d,tk,os⟩:=s;have zt:∀xH,(⟨hp,g,d,xH,os⟩:xR).TypeIs (.ref a) "zip" := λ_=>⟨_,hx,rfl⟩;have f1:=sub_AttributeError;have f3:=F.slot_zip_getattribute.lookup;have f4:=F.slot_zip_getattribute.bind (.ref a);have f5:=z9;unfold getAttr? getAttrBy? getAttrBy
 repeat (any_goals (first|assumption|exact zt _|((with_reducible show wpAny _ _ (call (Value.builtin "zip.__getattribute__") _ _) _ _ _);refine call_meets F.slot_zip_getattribute (zt _) zb (F.args_zip_getattribute_2 _ _) (zc a vs _) ⟨hx,hA,λh' xH e hx'=>?_⟩)|wp_step))
 obtain⟨t',u',he⟩:=hx'.there;show wpAny _ _ (getattributeRaised _ _ _ _ _ _ _) _ _ _;unfold getattributeRaised
 repeat (any_goals (first|assumption|wp_step))
 exact h _ _ hx'.keeps
def ZS(h:Heap)(z TI TO i1 i2 t1 t2:xS)(xs ys:xk)(n:Nat):Prop:=∃f0 f1,ZAt h z TI TO i1 i2 t1 t2 xs ys n f0 f1/\(f0=.none\/∃(T:xS) (o:Obj),f0=rawInt (T:Nat)/\h.get? T=some o)
section
variable {prog:xT}{w:xU}{A:xV}{E:xc}{s:xR}{z TI TO i1 i2 t1 t2:xS}{xs ys:xk}{n:Nat}
def zg(D:ZOff z TI TO i1 i2 t1 t2)(Z:ZS s.heap z TI TO i1 i2 t1 t2 xs ys n)(hx:xs[n]?=some x)(hy:ys[n]?=some y)
 (k:∀h',ZS h' z TI TO i1 i2 t1 t2 xs ys (n+1)->h'.get? 'g'=some { cls := .type "tuple",data := .seq #[x,y] }->(∀c o,c∉[z,TI,TO,i1,i2]->'i' c=some o->h'.get? c=some o)->Q (some (.ref 'g')) { s with heap:=h' }):wpAny (model prog w) A (pyNext (.ref z)) Q E s:=by
 obtain⟨f0,f1,Z,c⟩:=Z;refine o5 ⟨_,Z.zip,rfl⟩ ?_;rcases c with rfl|⟨T,o,rfl,gT⟩
 . exact yV D Z hx hy λh' Z' new _ al=>k h' ⟨_,_,Z',.inr ⟨_,_,rfl,new⟩⟩ new λc o hc q=>al c o (λe=>hc (by simp[e])) (λe=>hc (by simp[e])) (λe=>hc (by simp[e])) (λe=>hc (by simp[e])) q
 . refine yX D Z gT hx hy λh' Z' new _ al=>k h' ⟨_,_,Z',.inr ?_⟩ new λc o hc q=>al c o (λe=>hc (by simp[e])) (λe=>hc (by simp[e])) (λe=>hc (by simp[e])) q
   by_cases e1:T=z
   . have g:=Z'.zip;exact⟨T,_,rfl,(qG h'.get? e1).trans g⟩
   by_cases e2:T=i1
   . obtain⟨o',g⟩:=Z'.w1.obj;exact⟨T,o',rfl,(qG h'.get? e2).trans g⟩
   by_cases e3:T=i2
   . obtain⟨o',g⟩:=Z'.w2.obj;exact⟨T,o',rfl,(qG h'.get? e3).trans g⟩
   exact⟨T,o,rfl,al T o e1 e2 e3 gT⟩
def zh(hh:A.handled=none)(D:ZOff z TI TO i1 i2 t1 t2)(Z:ZS s.heap z TI TO i1 i2 t1 t2 xs ys n)(hx:xs[n]?=none)
 (k:∀h',(∀c o,c∉[z,TI,TO,i1,i2]->'i' c=some o->h'.get? c=some o)->Q none { s with heap:=h' }):wpAny (model prog w) A (pyNext (.ref z)) Q E s:=by
 obtain⟨f0,f1,Z,c⟩:=Z;refine o5 ⟨_,Z.zip,rfl⟩ ?_;rcases c with rfl|⟨T,o,rfl,gT⟩
 . exact yW hh D Z hx λh' e al he=>⟨let ⟨o,g,c⟩:=he;⟨o,g,c⟩,k h' λc o hc q=>al c o (λe=>hc (by simp[e])) (λe=>hc (by simp[e])) q⟩
 . exact yY hh D Z gT hx λh' e al he=>⟨let ⟨o,g,c⟩:=he;⟨o,g,c⟩,k h' λc o hc q=>al c o (λe=>hc (by simp[e])) (λe=>hc (by simp[e])) q⟩
def ZS.keep(Z:ZS h z TI TO i1 i2 t1 t2 xs ys n)(hd:d∉[z,TI,TO,i1,i2,t1,t2])(k:∀c,c≠d->h'.get? c=h.get? c)(hh:∃o,h'.get? d=some o):ZS h' z TI TO i1 i2 t1 t2 xs ys n:=by
 obtain⟨f0,f1,⟨a,b,⟨p,q,c⟩,w1,w2⟩,al⟩:=Z;simp only[jJ,jy,x9,not_or]at hd;obtain⟨d1,d2,d3,d4,d5,d6,d7⟩:=hd;have up:∀c o,¬d=c->h.get? c=some o->h'.get? c=some o:=λc o n e=>(k c (λq=>n q.symm)).trans e;refine⟨f0,f1,⟨up _ _ d1 a,up _ _ d2 b,⟨p,q,up _ _ d3 c⟩,w1.all λb o hb e=>up b o ?_ e,w2.all λb o hb e=>up b o ?_ e⟩,?_⟩
 . rcases hb with rfl | rfl
   . exact d4
   . exact d6
 . rcases hb with rfl | rfl
   . exact d5
   . exact d7
 . rcases al with e | ⟨T,o,e,g⟩
   . exact .inl e
   . by_cases q:T=d
     . obtain⟨o',g'⟩:=hh;exact .inr ⟨T,o',e,q ▸ g'⟩
     . exact .inr ⟨T,o,e,(k T q).trans g⟩
def zi(hh:A.handled=none)(D:ZOff z TI TO i1 i2 t1 t2)(hd:d∉[z,TI,TO,i1,i2,t1,t2])(more:List (Key×xQ))(lx:xs.size=more.length)(ly:ys.size=more.length)
 (kx:∀(j:Nat) (x:xQ) (kv:Key×xQ),xs[j]?=some x->more[j]?=some kv->(Jl prog w).is kv.1 x=true) (ky:∀(j:Nat) (y:xQ) (kv:Key×xQ),ys[j]?=some y->more[j]?=some kv->y=kv.2) :
 ∀(k i:Nat) (s:xR) (kvs:List (Key×xQ)),more.length - i=k->i<=more.length->ZS s.heap z TI TO i1 i2 t1 t2 xs ys i->s.heap.DictOf (Jl prog w) d kvs->kvs.length+(more.length - i)<=sizeLine ->
  (∀h' tk,h'.DictOf (Jl prog w) d (merged kvs (more.drop i))->(∀b o,b≠d->b∉[z,TI,TO,i1,i2]->'i' b=some o->h'.get? b=some o)->R (.ok (.ret .none)) { s with heap:=h',toks:=tk }) ->
  codeAny (model prog w) A (.builtin "dict.update.loop" ⟨[.ref d,.ref z,rawInt i,.none],[]⟩) R s:=by
 have dz:d∉[z,TI,TO,i1,i2]:=λq=>hd (by simp only[jJ,jy,x9]at q ⊢;rcases q with q|q|q|q|q<;>simp[q]);intro k
 induction k with
 |zero =>
  intro i s kvs hk hi Z dd hz hR;refine qL aQ ?_;rw[Around.under_plainId Xz _];refine q8 (zh (show A.in1.handled=none from hh) D Z (Array.getElem?_eq_none 'c') λh' al=>?_);refine q8 (qf (qf (hR h' s.toks ?_ λb o _ hb e=>al b o hb e)));obtain⟨o,es,ep,ho,r⟩:=dd;rw[kY 'c'];exact⟨o,es,ep,al d o dz ho,r⟩
 |succ k ih =>
  intro i s kvs hk hi Z dd hz hR;have hlt:i<more.length:=by omega
  have hm:more[i]?=some more[i]:=jB hlt;have hx:xs[i]?=some (xs[i]'(by omega)):=jl _;have hy:ys[i]?=some (ys[i]'(by omega)):=jl _;have isk:=kx i _ _ hx hm;have isv:=ky i _ _ hy hm;refine qL aQ ?_;rw[Around.under_plainId Xz _];refine q8 (zg D Z hx hy λh' Z' new al=>?_)
  have dd':h'.DictOf (Jl prog w) d kvs:=by
   obtain⟨o,es,ep,ho,r⟩:=dd;exact⟨o,es,ep,al d o dz ho,r⟩
  refine q8 (qF (q8 (wpAny_tryCatch ?_)));unfold Builtin.Dict.pairItems;refine q8 (qY (T := "tuple") ⟨_,new,rfl⟩ ?_);rw[qh 'd'];refine q8 (qK new rfl (qf ?_));rw[isv]at new ⊢;refine qF (wpAny_dictSet_pairs (hsz:=by omega) isk dd' λh2 dd2 e2=>?_);have hstl:(stored kvs more[i].1 more[i].2).length<=kvs.length+1:=by unfold stored;split<;>simp
  refine qf ⟨qN Xz _,?_⟩;rw[show rawInt ((i:Int)+1)=rawInt ((i+1:Nat):Int) from by push_cast;rfl];refine ih (i+1) _ (stored kvs more[i].1 more[i].2) 'c' hlt (Z'.keep hd (λc hc=>e2.2 c hc) (let ⟨o,_,_,ho,_⟩:=dd2;⟨o,ho⟩)) dd2 'c' λh3 tk3 dd3 k3=>hR h3 tk3 ?_ λb o h1 h4 e=>k3 b o h1 h4 ((e2.2 b h1).trans (al b o h4 e));rw[kW hlt];exact dd3
end
section
variable {X:Cx}{xt:xg}{σ:St}{H:Hp}{s:xR}
theorem o7(I:Inv X xt σ H s):∀{ks:List Key}{vs:List V}{ik iv:xm},Vals (ks.map kV) ik->Vals vs iv->ks.length=vs.length ->
 ∃more',KV (ks.zip vs) more'/\more'.length=ks.length/\(∀(j:Nat) (x:xQ) (kv:Key×xQ),ik[j]?=some x->more'[j]?=some kv->(Jl X.prog X.w).is kv.1 x=true)/\∀(j:Nat) (y:xQ) (kv:Key×xQ),iv[j]?=some y->more'[j]?=some kv->y=kv.2
 | [],[],_,_,.nil,.nil,_=>⟨[],.nil,rfl,λj x kv e=>by simp at e,λj x kv e=>by simp at e⟩
 |k::ks,v::vs,_::_,_::_,.cons (b:=_) r1 r2,.cons (b:=y) q1 q2,h=>by
  obtain⟨more',h1,h2,h3,h4⟩:=o7 I r2 q2 (by simpa using h);refine⟨(k,y)::more',.cons ⟨rfl,q1⟩ h1,by simp[h2],λj x kv e1 e2=>?_,λj x kv e1 e2=>?_⟩
  . cases j with
    |zero=>simp at e1 e2;subst e1 e2;exact Zs r1
    |succ j=>exact h3 j x kv (by simpa using e1) (by simpa using e2)
  . cases j with
    |zero=>simp at e1 e2;subst e1 e2;rfl
    |succ j=>exact h4 j x kv (by simpa using e1) (by simpa using e2)
def zj(K:xh)(ta:TA):TE:=λσ H Q=>ta σ H λvs H1=>∃(a b:xS) (ks:List Key) (ys:List V),vs=[.ref a,.ref b]/\(SqT K H1 a (ks.map kV)\/SqL K H1 a (ks.map kV))/\SqT K H1 b ys/\ks.length=ys.length/\ks.length<=sizeLine/\∀p,H1 p=none->Q (.ref p) (upd H1 p (.dK (JJ [] (ks.zip ys))))
def zm{p p2 cp pos:Pos}{ta:TA}(K:xh)(hK:X.K=K)(hc:X.calm=true)(hg:Gl X "dict")(hm:X.mg "dict" = none)(hv:bootBuiltins "dict" = some (.type "dict"))(hg2:Gl X "zip")(hm2:X.mg "zip" = none)(hv2:bootBuiltins "zip" = some (.type "zip"))(ha:PA X [e1,e2] ta)
 (he:starEach [e1,e2] X.env=(false,eval e1 X.env)::starEach [e2] X.env:=by rfl) (hpl:(backTo cp (starEach [e2] X.env)).any (·.1)=false:=by rfl):PE X (.Call (.Name "dict" p) [.Call (.Name "zip" p2) [e1,e2] [] cp] [] pos) (zj K ta):=by
 subst hK;intro xt s σ H Q I h;refine qI (QR I hg hm hv ?_ 'd' 'd');refine PyProof.Rows.callWith_type1 ?_ rfl rfl;show wpAny _ _ (spliced [(false,eval (.Call (.Name "zip" p2) [e1,e2] [] cp) X.env)]) _ _ s;refine Calls.spliced_cons (qI (QR I hg2 hm2 hv2 ?_ 'd' 'd'));refine PyProof.Rows.callWith_type1 (thn (ha cp xt s σ H _ I h) λus s1 pc=>?_) he hpl;obtain⟨vs,H1,I1,r1,q1⟩:=pc;obtain⟨a,b,ks,ys,rfl,qa,qb,el,z,q⟩:=q1;obtain⟨_,_,rfl,ra,rb⟩:=am r1
 cases ra
 cases rb
 obtain⟨n1,ik,rk,pa⟩:∃n1 ik,Vals (ks.map kV) ik/\FstQ n1 s1.heap a ik.toArray:=by
  rcases qa with qa|qa
  . obtain⟨ik,rk,pa,_⟩:=I1.tuple qa;exact⟨_,ik,rk,.inl ⟨rfl,pa⟩⟩
  . obtain⟨ik,rk,pa,_⟩:=I1.list qa;exact⟨_,ik,rk,.inr ⟨rfl,pa.isList⟩⟩
 obtain⟨iv,rv,pb,_⟩:=I1.tuple qb;have hh:X.A.handled=none:=I1.ok.hd hc;refine z7 pa pb (Calls.spliced_nil ?_);obtain⟨Z,sz,kz⟩:=o6 pa pb;have D:=z6 pa.lt pb.lt;obtain⟨more',km,lm,kk,kv⟩:=o7 I1 rk rv el;generalize laid s1.heap (Z0 n1 s1.heap.objs.size a b)=h0 at Z sz kz ⊢;have lk:=rk.length;have lv:=rv.length;rw[jA]at lk;refine callType_codes (Q₁:=λobj s₁=>obj=.ref h0.objs.size/\s₁={ s1 with heap:=h0.push { cls := .type "dict",data := .dict #[] } }) F.kt_called_dict (F.kt_typeCall_dict_1 _) F.entry_dict_init (kt_code_dict_new _ ⟨rfl,rfl⟩) ?_;rintro obj s₁ ⟨rfl,rfl⟩;have dd0:(h0.push { cls := .type "dict",data := .dict #[] }).DictOf (Jl X.prog X.w) h0.objs.size []:=Heap.DictOf.new h0;have le:s1.heap.objs.size<=h0.objs.size:=by rw[sz];exact Nat.le_add_right _ _
 have fr:H1 h0.objs.size=none:=I1.hok.fresh le;have hd:(h0.objs.size==sysModules)=false:=beq_eq_false_iff_ne.mpr (Ne.symm (jQ (jS I1.big le)));refine⟨dd0.typeIs,F.args_dict_init_2 _ _,?_⟩;unfold Builtin.«dict.__init__»;refine q8 ?_;unfold Builtin.Dict.selfAndRest;refine q8 (qV dd0.typeIs ?_);show wpAny _ _ (pure (h0.objs.size,[Value.ref (s1.heap.objs.size+4)])) _ _ _;refine qf ?_;have kp0:∀c o,h0.get? c=some o->(h0.push { cls := .type "dict",data := .dict #[] }).get? c=some o:=λc o e=>jC _ e;generalize h0.push { cls := .type "dict",data := .dict #[] }=g at dd0 kp0 ⊢;show wpAny _ _ (Builtin.Dict.updateFrom "dict.__init__" h0.objs.size (.ref (s1.heap.objs.size+4)) [] .none) _ _ _;have gz:=kp0 _ _ Z.zip;unfold Builtin.Dict.updateFrom;refine q8 (qY (T := "zip") ⟨_,gz,rfl⟩ ?_);rw[qh 'd'];refine q8 (zf gz (show X.A.in1.in1.handled=none from hh) λh1 tk1 k1=>?_);simp only[Option.isNone_none,if_true];refine q8 (qZ ?_);have k01:∀c o,h0.get? c=some o->h1.get? c=some o:=λc o e=>k1 _ _ (kp0 _ _ e);refine q8 (wpAny_pyIter_zip (s:={ s1 with heap:=h1,toks:=tk1 }) (k01 _ _ Z.zip) ?_)
 have dd1:h1.DictOf (Jl X.prog X.w) h0.objs.size []:=by
  obtain⟨o,es,ep,ho,r⟩:=dd0;exact⟨o,es,ep,k1 _ _ ho,r⟩
 have Z1:ZS h1 (s1.heap.objs.size+4) (s1.heap.objs.size+2) (s1.heap.objs.size+3) s1.heap.objs.size (s1.heap.objs.size+1) a b ik.toArray iv.toArray 0:=by
  obtain⟨y1,y2,⟨u,v,y3⟩,y4,y5⟩:=Z;exact⟨.none,false,⟨k01 _ _ y1,k01 _ _ y2,⟨u,v,k01 _ _ y3⟩,y4.all λc o _ e=>k01 c o e,y5.all λc o _ e=>k01 c o e⟩,.inl rfl⟩
 have far:∀(t:xS) (j:Nat),t<s1.heap.objs.size->t≠s1.heap.objs.size+j:=λt j l e=>kA _ (jS (jd (Nat.le_of_eq e.symm) l) (Nat.le_add_right _ _))
 have hdz:h0.objs.size∉[s1.heap.objs.size+4,s1.heap.objs.size+2,s1.heap.objs.size+3,s1.heap.objs.size,s1.heap.objs.size+1,a,b]:=by
  have la:=pa.lt;have lb:=pb.lt;simp only[jJ,jy,x9,not_or,sz];exact⟨by simp,by simp,by simp,by simp,by simp,λe=>far a 5 la e.symm,λe=>far b 5 lb e.symm⟩
 refine qf ⟨qN Xz _,zi (prog:=X.prog) (w:=X.w) (A:=X.A.in1) (show X.A.in1.handled=none from hh) D hdz more' (by rw[jK,lm,lk]) (by rw[jK,lm,el,lv]) (λj x kv' e1 e2=>kk j x kv' (by simpa using e1) e2) (λj y kv' e1 e2=>kv j y kv' (by simpa using e1) e2) _ 0 _ [] rfl (jT _) Z1 dd1 (by rw[Nat.sub_zero,lm];simpa using z) λh' tk dd' kp=>?_⟩;rw[List.drop_zero]at dd'
 have kept:∀c u,s1.heap.get? c=some u->h'.get? c=some u:=λc u hu=>by
  have lc:=jI hu;refine kp c u (λe=>far c 5 lc (e.trans sz)) ?_ (k01 c u (kz c u hu));simp only[jJ,jy,x9,not_or];exact⟨far c 4 lc,far c 2 lc,far c 3 lc,far c 0 lc,far c 1 lc⟩
 have lm2:(ks.zip ys).length<=sizeLine:=by rw[km.length,lm];exact z
 exact⟨rfl,.ref h0.objs.size,_,I1.laid (t':=tk) kept le (eU (jg (eY (ks.zip ys) []) (by simpa using lm2)) hd (km.merge .nil) dd'),rfl,q _ fr⟩
end
end L2
namespace L2
open PySem PySem.Spec PyProof.Rows
section
variable {X:Cx}{k j1 j2:Nat}{ps1 ps2:xp}{sp1 sp2:Sp}{x n1 n2:Str}{p pos:Pos}{e:Expr}{es:List Expr}{t:TA}{tn:TE}
def zp:TS:=λ_ _ _=>False
def zu{st:Stmt}:PS X st zp:=λ_ _ _ _ _ _ h=>h.elim
end
section
variable {P:xT}{w:xU}{H H':Hp}{h h1 h2 B:Heap}{a:xS}{o:HO}
def ObjOk.has(x:ObjOk P w H h a o):∃ob,h.get? a=some ob:=by
 cases o with
 |lst xs=>obtain⟨_,_,_,_,e⟩:=x;exact⟨_,e⟩
 |tup xs=>obtain⟨_,_,_,ob,e,_⟩:=x;exact⟨ob,e⟩
 |dK kvs=>obtain⟨_,_,_,_,ob,_,_,e,_⟩:=x;exact⟨ob,e⟩
 |dT kvs=>obtain⟨_,_,_,_,ob,_,_,e,_⟩:=x;exact⟨ob,e⟩
 |set S n=>obtain⟨ob,_,_,_,e,_⟩:=x;exact⟨ob,e⟩
 |ins C dx fs=>obtain⟨_,_,_,e,_⟩:=x;exact⟨_,e⟩
 |own y=>exact x
 |xd fs=>obtain⟨_,⟨ob,_,_,e,_⟩,_⟩:=x;exact⟨ob,e⟩
 |rng lo hi=>obtain⟨_,_,_,e⟩:=x;exact⟨_,e⟩
 |frz ob u=>obtain⟨e,_⟩:=x;exact⟨ob,e⟩
 |tbl ps=>exact⟨_,(show h.get? a=some _ from x)⟩
 |met f y=>exact⟨_,(show h.get? a=some _ from x)⟩
 |ext φ=>obtain⟨_,e,_⟩:=x;exact e
def HOk.fly(x:HOk P w H h)(hB:∀b ob,h.get? b=some ob->(H b).isSome=true->B.get? b=some ob)(k:B.StaysIn h2):HOk P w H h2:=λa o e =>
 (x a o e).stay (λb u hb q=>k b u (hB b u q (by rcases hb with rfl|hb<;>first|(rw[e];rfl)|(rw[hb];rfl)))) (λ_ q=>q) λ_ _ q=>q
theorem Un.fly(u:Un fs [] H H' h h1)(hB:∀b ob,h1.get? b=some ob->((H' b).isSome=true\/(h.get? b).isSome=true)->b∉fs->B.get? b=some ob)(k:B.StaysIn h2)
 (hf:∀b∈fs,∀ob,h1.get? b=some ob->∃sl,h2.get? b=some { ob with slots:=sl }):Un fs [] H H' h h2 where
 keep:=λb ob e n hb hx=>k b ob (hB b ob (u.keep b ob e n hb hx) (.inr (by rw[e];rfl)) hb)
 slot:=λb ob e n hb hx=>by
  obtain⟨sl,e1⟩:=u.slot b ob e n hb hx;obtain⟨sl',e2⟩:=hf b hb _ e1;exact⟨sl',e2⟩
 free:=u.free
 there:=λb ob e hx=>by
  obtain⟨o',e1⟩:=u.there b ob e hx
  by_cases hb:b∈fs
  . obtain⟨sl,e2⟩:=hf b hb _ e1;exact⟨_,e2⟩
  . exact⟨o',k b o' (hB b o' e1 (.inr (by rw[e];rfl)) hb)⟩
 tups:=u.tups
 frzs:=u.frzs
 tbls:=u.tbls
end
section
variable {X:Cx}{xt:xg}{σ:St}{H:Hp}{s:xR}
def Inv.off(I:Inv X xt σ H s)(h:(H b).isSome=true\/(X.s₀.heap.get? b).isSome=true)(hb:b∉X.fs):b∉frs X.stack:=λz=>by
 rcases jJ.mp (I.stkSub b z) with q|q
 . rcases h with h | h
   . rw[q,I.free]at h;cases h
   . obtain⟨ob,e⟩:=jt.mp h;exact absurd (jI e) (by rw[q];exact Nat.not_lt.mpr I.ok.above)
 . exact hb q
def Inv.noFr(I:Inv X xt σ H s)(h:(H b).isSome=true):b∉frs X.stack:=λz=>by
 rw[I.stkFree b z]at h;cases h
def Inv.old(I:Inv X xt σ H s)(hx:X.ex=[])(h:(H b).isSome=true\/(X.s₀.heap.get? b).isSome=true):∃ob,'i' b=some ob:=by
 rcases h with h|h
 . obtain⟨u,e⟩:=jt.mp h;exact(I.hok b u e).has
 . obtain⟨ob,e⟩:=jt.mp h;exact I.base.there b ob e (by rw[hx];exact λz=>nomatch z)
end
abbrev vErr:xm:=[.type "ValueError",.type "Exception",.type "BaseException",.type "object"]
structure ExcC (K:xh) (mg:xf) (x:Str) (C:xS):Prop where
 mg:mg x=some (.ref C)
 ex:PySem.W.excIn K C vErr "ValueError.__new__" = true
structure NmC (mg:xf) (x:Str) (C:xS):Prop where
 mg:mg x=some (.ref C)
def zv{K:xh}{h:Heap}{C:xS}{bmB:xm}{nid:String}(X:K.In h)(q:PySem.W.excIn K C bmB nid=true) :
 ∃bm Na nm qn bs hdc sn sub ab col dd k0 k1 k2 k3 k5 mN,h.get? C=some (excClassObj nm qn C Na bs bm hdc sn sub ab col dd k0 k1 k2 k3 k5 nid)/\h.Ns Na mN/\mN "__init__" = none/\OwnTail h bmB bm:=by
 unfold PySem.W.excIn at q;split at q
 . rename_i dd cd sl ho;split at q
   . rename_i C' bm k0 k1 k2 k3 n k5 hm hs;simp only[beq_iff_eq,Bool.not_eq_true',kH]at q;rcases q with ⟨⟨⟨⟨⟨e1,e2⟩,e3⟩,e4⟩,e5⟩,e6⟩;rcases cd with ⟨nm,bs,mro,na,qn,hdc,sn,sub,ab,col,del⟩;dsimp only at hm e3 e5 e6;subst e1 e2 hm e3
     have e7:sl=#[k0,k1,k2,k3,some (.builtin n),k5]:=by
      rcases sl with ⟨l⟩;exact qG Array.mk hs
     subst e7;have hN:=Heap.Ns.of_isNs (PySem.W.isNs_of_in X e5);exact⟨_,_,_,_,_,_,_,_,_,_,_,_,_,_,_,_,_,X _ _ ho,hN,PySem.W.nsMap_none_of_in X e5 e6,PySem.W.tail_of_in X e4⟩
   . cases q
 . cases q
section
variable {X:Cx}{x:Str}{C:xS}{E:XK}{np cpos pos:Pos}
def zw(E:XK)(C:xS):TS:=λ_ _ H=>E (.ref C) none H
end
def Cx.caught(X:Cx)(e:xS):Cx:={ X with A:=X.A.mark (some (.ref e)),calm:=false,xe:=λ_ _=>False }
section
variable {X:Cx}{xt:xg}{σ:St}{H:Hp}{s:xR}{e:xS}
theorem Inv.caught(I:Inv X xt σ H s)(e:xS):Inv (X.caught e) xt σ H s :=
 ⟨⟨I.ok.mod,I.ok.kind,I.ok.glob,I.ok.blt,I.ok.above,I.ok.inj,I.ok.has,I.ok.cab,(λz=>nomatch z),I.ok.frames,I.ok.stk,I.ok.exf,I.ok.bs,I.ok.bsz,I.ok.noex,I.ok.exfs,I.ok.funs,I.ok.frf⟩,I.os,I.bare,I.base,I.loc,I.cell,I.free,I.freeC,I.pin,I.hok,I.len⟩
def Inv.uncaught(ok:X.Ok)(I:Inv (X.caught e) xt σ H s):Inv X xt σ H s:=⟨ok,I.os,I.bare,I.base,I.loc,I.cell,I.free,I.freeC,I.pin,I.hok,I.len⟩
theorem SP.uncaught(ok:X.Ok){D:Ends}{f:Flow}(h:SP (X.caught e) xt D f s):SP X xt D f s:=by
 cases f with
 |next=>obtain⟨σ',H',I,q⟩:=h;exact⟨σ',H',I.uncaught ok,q⟩
 |brk=>obtain⟨σ',H',I,q⟩:=h;exact⟨σ',H',I.uncaught ok,q⟩
 |cont=>obtain⟨σ',H',I,q⟩:=h;exact⟨σ',H',I.uncaught ok,q⟩
 |ret u=>obtain⟨v,σ',H',I,r,q⟩:=h;exact⟨v,σ',H',I.uncaught ok,r,q⟩
end
section
variable {X:Cx}{xt:xg}{σ:St}{H:Hp}{s:xR}
def Inv.track(I:Inv X xt σ H s)(hn:H e=none)(h0:X.s₀.heap.get? e=none)(hL:e≠X.env.locals)(hc:∀x c,X.env.cells.lookup x=some c->c≠e)(hp:∀p∈X.pn++xt,p.1≠e)
 (new:ObjOk X.prog X.w (upd H e o) s.heap e o):Inv X xt σ (upd H e o) s:=by
 refine⟨I.ok,I.os,I.bare,⟨I.base.keep,I.base.slot,λb ob q n hx=>?_,I.base.there,λb xs q=>?_,λb ob u q=>?_,λb ps q=>?_⟩,I.loc,I.cell,?_,λx c q=>?_,λp q=>?_,λb u q=>?_,I.len⟩
 . rw[xZ (λz=>by rw[z,h0]at q;cases q)];exact I.base.free b ob q n hx
 . have z:=I.base.tups b xs q;rw[xZ (Jp z hn)];exact z
 . have z:=I.base.frzs b ob u q;rw[xZ (Jp z hn)];exact z
 . obtain⟨more,z⟩:=I.base.tbls b ps q;exact⟨more,by rw[xZ (Jp z hn)];exact z⟩
 . rw[xZ (Ne.symm hL)];exact I.free
 . rw[xZ (hc x c q)];exact I.freeC x c q
 . obtain⟨z1,z2,z3,z4,z5⟩:=I.pin p q;exact⟨z1,by rw[xZ (hp p q)];exact z2,z3,z4,z5⟩
 . by_cases hb:b=e
   . subst hb;rw[J1]at q;cases q;exact new
   . rw[xZ hb]at q;exact(I.hok b u q).stay (λ_ _ _ z=>z) (λc z=>by rw[xZ (Jp z hn)];exact z) λc xs z=>by rw[xZ (Jp z hn)];exact z
theorem Inv.gone(I:Inv X xt σ H s)(hN:X.N.Nodup)(hi:X.N[i]?=some n)(hl:∀(j:Nat) (y:Str) (u:V),X.N[j]?=some y->σ[j]?=some (some u)->Vis X.env.scope y->∃z,RelV u z/\Look X.env s.heap m y z)(hm:s.heap.Ns X.env.locals m)
 (hn:h'.Ns X.env.locals (λx=>if x=n then v else m x)) (hs:Heap.SameBut X.env.locals s.heap h'):Inv X xt (σ.set i none) H { s with heap:=h',toks:=t' }:=by
 obtain⟨oL,_,_,hoL,_⟩:=id hm;have hiσ:i<σ.length:=by rw[I.len];exact(jF.mp hi).1
 have ne0:∀{b:xS}{ob:Obj},X.s₀.heap.get? b=some ob->b≠X.env.locals:=λq=>jQ (jS (jI q) I.ok.above);refine⟨I.ok,I.os,I.bare,⟨λb ob q z hb hx=>?_,λb ob q z hb hx=>?_,I.base.free,λb ob q hx=>?_,I.base.tups,I.base.frzs,I.base.tbls⟩,⟨_,hn,λj y u e1 e2 e3=>?_⟩,λy c q=>?_,I.free,I.freeC,λp hp=>?_,λb u q=>?_,by simpa using I.len⟩
 . exact(hs.2 b (ne0 q)).trans (I.base.keep b ob q z hb hx)
 . obtain⟨sl,e1⟩:=I.base.slot b ob q z hb hx;exact⟨sl,(hs.2 b (ne0 q)).trans e1⟩
 . obtain⟨o',e1⟩:=I.base.there b ob q hx;exact⟨o',(hs.2 b (ne0 q)).trans e1⟩
 . by_cases hj:j=i
   . subst hj;rw[List.getElem?_set_self hiσ]at e2;cases e2
   . rw[List.getElem?_set_ne (Ne.symm hj)]at e2;obtain⟨z,r,l⟩:=hl j y u e1 e2 e3;refine⟨z,r,?_⟩;rcases l with ⟨k,e⟩ | ⟨k,c,e,q⟩
     . have:y≠n:=λe=>hj (dU hN e1 (e ▸ hi));exact .inl ⟨k,by simp[this,e]⟩
     . exact .inr ⟨k,c,e,q.sameBut hs (I.cne y c e)⟩
 . obtain⟨w',z⟩:=I.cell y c q;exact⟨w',z.sameBut hs (I.cne y c q)⟩
 . obtain⟨z1,z2,z3,z4,z5⟩:=I.pin p hp;exact⟨(hs.2 p.1 z3).trans z1,z2,z3,z4,z5⟩
 . refine(I.hok b u q).stay (λc w' hc z=>(hs.2 c ?_).trans z) (λ_ z=>z) λ_ _ z=>z;rintro rfl;rcases hc with z | z
   . rw[<- z,I.free]at q;cases q
   . rw[I.free]at z;cases z
end
def o8(i:Nat)(D:Ends):Ends:={ nx:=λσ H=>D.nx (σ.set i none) H,rt:=D.rt,bk:=λσ H=>D.bk (σ.set i none) H,ct:=λσ H=>D.ct (σ.set i none) H }
structure ExcIs (K:xh) (C:xS):Prop where
 cl:PySem.W.hasDictIn K C=true
 ga:PySem.W.findIn K (.ref C) "__getattribute__" = some (some (.builtin "BaseException.__getattribute__"))
 gt:PySem.W.findIn K (.ref C) "__getattr__" = some none
 cc:PySem.W.findIn K (.ref C) "__class__" = some (some (.builtin "object.__class__"))
 mo:PySem.W.mroIn K C (.type "object")=some true
 mb:PySem.W.mroIn K C (.type "BaseException")=some true
def zx(C e:xS)(h:Heap):Prop:=∃ob,h.get? e=some ob/\ob.cls=.ref C/\∃vs,ob.data=.fields vs
section
variable {prog:xT}{w:xU}{A:xV}{E:xc}{h:Heap}{g:Array GenState}{d:Drawn}{t:Nat}{os:OsState}{K:xh}{C e:xS}{ob:Obj}
def o9(h1:h.get? e=some ob)(h2:ob.cls=.ref C):PySem.W.Looks M h (typeOf (.ref e)) (.ref C):=h2 ▸ (PySem.W.Looks.ld h1).andThen .now
def zy(c:ExcIs K C)(X:K.In h)(h1:h.get? e=some ob)(h2:ob.cls=.ref C)(q:Q () ⟨h,g,d,t,os⟩) :
 wpAny M A (checkBuiltinCall "BaseException.__getattribute__" ⟨[.ref e,nv],[]⟩) Q E ⟨h,g,d,t,os⟩:=by
 have k1:builtinKind "BaseException.__getattribute__" = some .slot:=by decide +kernel
 have k2:splitId "BaseException.__getattribute__" = some ("BaseException", "__getattribute__"):=by decide +kernel
 have k3:=F.args_bexc_ga (.ref e) nv;have L1:=PySem.W.looks_mroIn (M:=M) X c.mb;simp only[checkBuiltinCall,k1,k2];refine q8 ?_;unfold isInstance
 repeat (first|(with_reducible refine wpAny_loadPart_at h1 ?_;rw[h2])|(with_reducible refine L1.at ?_)|wp_step)
 exact q
def zA(c:ExcIs K C)(X:K.In h)(h1:h.get? e=some ob)(h2:ob.cls=.ref C)(q:R (.ok (.ret (.ref C))) ⟨h,g,d,t,os⟩) :
 codeAny (model prog w) A (.call (.builtin "getset_descriptor.__get__") ⟨[.builtin "object.__class__",.ref e,.ref C],[]⟩) R ⟨h,g,d,t,os⟩:=by
 have hT:(⟨h,g,d,t,os⟩:xR).TypeIs (.builtin "object.__class__") "getset_descriptor" := F.typeOf_object_class;have L0:=o9 (M:=model prog w) h1 h2;have L1:=PySem.W.looks_mroIn (M:=model prog w) X c.mo;refine codeAny_call_builtin F.slot_gs_get.plain F.entry_gs_get ((F.slot_gs_get).check _ _ _ _ _ _ _ _ hT (F.args_gs_get _ _ _) ?_);unfold Builtin.«getset_descriptor.__get__» Builtin.Getset_descriptor.descrGet;rw[PySem.W.dga_obj];refine q8 (qf ?_);unfold Builtin.Getset_descriptor.descrGetter Builtin.Getset_descriptor.descrCheckInstance;unfold Builtin.Getset_descriptor.descrNameAndClass isInstance;simp only[PySem.W.KF.owner_class]
 repeat lk
 refine And.intro (Code.quiet_builtin _ (by decide +kernel)) (qL F.entry_object_class ?_);unfold Builtin.«object.__class__» shownTypeOf
 repeat lk
 exact q
def zB(c:ExcIs K C)(X:K.In h)(h1:h.get? e=some ob)(h2:ob.cls=.ref C)(q:Q (.done (.ret (.ref C))) ⟨h,g,d,t,os⟩) :
 wpAny (model prog w) A (Builtin.«object.__getattribute__» ⟨[.ref e,.str "__class__" tk],[]⟩) Q E ⟨h,g,d,t,os⟩:=by
 have L1:=PySem.W.looks_findIn (M:=model prog w) X c.cc;have f5:=F.typeOf_object_class;have f6:=F.slot_gs_get.lookup;have f7:=F.slot_gs_set.lookup;have hT:(⟨h,g,d,t,os⟩:xR).TypeIs (.builtin "object.__class__") "getset_descriptor" := F.typeOf_object_class
 repeat (any_goals (first|assumption|(with_reducible refine wpAny_loadPart_at h1 ?_;rw[h2])|(with_reducible refine L1.at ?_)|wp_step))
 refine zA c X h1 h2 ?_
 repeat (any_goals (first|assumption|wp_step))
def zC{tk:Tok}{fill expr:Bool}{Q:xc}(c:ExcIs K C)(X:K.In h)(h1:h.get? e=some ob)(h2:ob.cls=.ref C)(q:Q (.ref C) ⟨h,g,d,t,os⟩) :
 wpAny (model prog w) A (getAttrBy (.ref e) (.str "__class__" tk) fill expr) Q E ⟨h,g,d,t,os⟩:=by
 have f3:=F.attr_ValueError.ga.bind (.ref e);have L1:=PySem.W.looks_findIn (M:=model prog w) X c.ga;have L2:=PySem.W.looks_findIn (M:=model prog w) X c.gt;have z0:(expr&&onTheHeap (Value.builtin "BaseException.__getattribute__"))=false:=by cases expr<;>rfl
 have z2:(Value.builtin "BaseException.__getattribute__" == Value.builtin "object.__getattribute__")=false:=by decide +kernel
 have z1:(onTheHeap (Value.ref C)&&Value.builtin "BaseException.__getattribute__" == Value.builtin "object.__getattribute__")=false:=by rw[z2,Bool.and_false]
 repeat (any_goals (first|assumption|(with_reducible refine wpAny_loadPart_at h1 ?_;rw[h2])|(with_reducible refine L1.at ?_)|(with_reducible refine L2.at ?_)|wp_step))
 refine codeAny_call_builtin F.attr_ValueError.ga.plain F.entry_bexc_ga (zy c X h1 h2 (zB c X h1 h2 ?_))
 repeat (any_goals (first|assumption|wp_step))
def zD(c:ExcIs K C)(X:K.In h)(h1:h.get? e=some ob)(h2:ob.cls=.ref C)(q:Q (some (.ref C)) ⟨h,g,d,t+1,os⟩) :
 wpAny (model prog w) A (getAttr? (.ref e) "__class__") Q E ⟨h,g,d,t,os⟩:=by
 unfold getAttr? getAttrBy?;refine q8 (wpAny_mkText (q8 (wpAny_attempt (zC c X h1 h2 ?_))));exact qf q
theorem zE(c:ExcIs K C):PySem.W.KitX K (.ref e) (.ref C) (zx C e) where
 ty:=λM h _ ⟨ob,h1,h2,_⟩=>o9 h1 h2
 it:=λM h X _=>by
  obtain⟨cd,hc,_⟩:=PySem.W.any_some c.cl;unfold PySem.W.clsIn at hc;split at hc
  . rename_i ho;intro A Q E s k q;unfold isType loadHead;exact q8 (wpAny_loadPart (k _ _ (X _ _ ho)) (qf q))
  . cases hc
 ne:=λh tp dd its n sl X ht=>by
  obtain⟨cd,hc,_⟩:=PySem.W.any_some c.cl
  cases q:(Value.ref C==Value.ref tp) with
  |false=>rfl
  |true =>
   have e:C=tp:=Value.ref.inj (beq_iff_eq.mp q);subst e;unfold PySem.W.clsIn at hc;split at hc
   . rename_i ho
     cases (X _ _ ho).symm.trans ht
   . cases hc
 ca:=fun {prog w A E Q s} X p q=>by
  obtain⟨h,g,d,t,os⟩:=s;obtain⟨ob,h1,h2,_⟩:=p;exact zD c X h1 h2 q
end
abbrev oh(C:xS)(od:Option xS)(t:xS):Obj:=⟨.ref C,od,.fields #[.ref t,.none,.none,.none,.bool false,.none],#[]⟩
section
variable {X:Cx}{xt:xg}{σ:St}{H:Hp}{s:xR}{C e t dx:xS}{od:Option xS}
def Inv.fresh0(I:Inv X xt σ H s)(hx:X.ex=[])(h:'i' e=none):H e=none/\X.s₀.heap.get? e=none/\e≠X.env.locals/\(∀x c,X.env.cells.lookup x=some c->c≠e)/\∀p∈X.pn++xt,p.1≠e:=by
 refine⟨?_,?_,λz=>?_,λx c q z=>?_,λp hp z=>?_⟩
 . cases q:H e with
   |none=>rfl
   |some u =>
    obtain⟨ob,z⟩:=(I.hok e u q).has;rw[h]at z;cases z
 . cases q:X.s₀.heap.get? e with
   |none=>rfl
   |some o =>
    obtain⟨o2,z⟩:=I.base.there e o q (by rw[hx];exact λz=>nomatch z);rw[h]at z;cases z
 . obtain⟨m,⟨ol,es,ep,hol,_⟩,_⟩:=I.loc;rw[<- z,h]at hol;cases hol
 . obtain⟨v,oc,hoc,_⟩:=I.cell x c q;rw[z,h]at hoc;cases hoc
 . have:=(I.pin p hp).1;rw[z,h]at this;cases this
end
def TrD(h base:Heap)(e:xS)(c:xQ)(od:Option xS)(fl:xQ):Prop :=
 ∃(vs:xk) (sl:Array (xj)) (T:xS) (oT:Obj) (ts:xk),h.get? e=some ⟨c,od,.fields vs,sl⟩/\vs[1]?=some (.ref T)/\base.get? T=none/\T≠e/\h.get? T=some oT/\oT.data=.fields ts/\ts[3]?=some fl
def FlyD(base:Heap)(l:List Env)(e:xS)(c:xQ)(od:Option xS)(fl:xQ)(h:Heap):Prop:=base.StaysIn h/\base.get? e=none/\h.FunFrames base l/\TrD h base e c od fl
section
variable {M:Model}{A:xV}{E:xc}{s:xR}{base:Heap}{env:Env}{outer l:List Env}{L e:xS}{c fl:xQ}{od:Option xS}{vs:xk}{sl:Array (xj)}
def om(fr:A.frames=some (env::outer))(ff:s.heap.FunFrames base (env::outer))(fe:env.frame=some L)(qe:'i' e=some ⟨c,od,.fields vs,sl⟩)(kb:base.StaysIn s.heap)(nb:base.get? e=none)(sz:1<vs.size)
 (k:∀h',FlyD base (env::outer) e c od (rawInt L) h'->s.heap.UpToSlots h'->Q () { s with heap:=h' }) :
 wpAny M A (do let a <- frameOf env;let pl <- entryPlaceOf L had;let b <- EntryCells.newEntry head a .none (rawInt L) .none pl;setField (.ref e) 1 b) Q E s:=by
 have ne:e∉(env::outer).filterMap (·.frame):=λz=>by
  obtain⟨_,o,ho,hn⟩:=ff.mem z;rw[qe]at ho;cases ho;exact hn vs rfl
 refine q8 (wpAny_frameOf_fun fr ff fe λg sg=>?_);refine q8 (wpAny_entryPlaceOf λpl ip=>?_);unfold EntryCells.newEntry newFields;refine q8 (qu ?_ (ip.sizeOk5 _ _ _ _ _));have q1:g.get? e=some ⟨c,od,.fields vs,sl⟩:=(sg.2.1 e ne).trans qe;have b1:base.StaysIn g:=λb o z=>(sg.2.1 b λm=>by rw[(ff.mem m).1]at z;cases z).trans (kb b o z);generalize hob:([head,Value.ref L,Value.none,rawInt L,Value.none]++(if pl.isEmpty then List.replicate 6 Value.none else pl)).toArray=cells;have c3:cells[3]?=some (rawInt L):=by rw[<- hob];simp
 obtain⟨tb,etb⟩:∃tb:Obj,tb={ cls := .type "traceback",dict:=none,data := .fields cells }:=⟨_,rfl⟩;rw[<- etb];have q2:=jC (h:=g) tb q1;have nt:g.objs.size≠e:=jo (jI q1);refine qR q2 rfl sz (k _ ?_ ?_)
 all_goals
  obtain⟨g3,eg3⟩:∃g3,g3=(g.push tb).update e (Obj.mapFields (·.setIfInBounds 1 (Value.ref g.objs.size))):=⟨_,rfl⟩;rw[<- eg3];have q3:g3.get? e=some ⟨c,od,.fields (vs.setIfInBounds 1 (Value.ref g.objs.size)),sl⟩:=by rw[eg3];exact jn _ q2 rfl
  have t3:g3.get? g.objs.size=some tb:=by rw[eg3,jc _ _ (Ne.symm nt)];exact jH g (by rw[etb];rfl)
  have kp:∀b o,b≠e->g.get? b=some o->g3.get? b=some o:=λb o hb z=>by rw[eg3,jc _ _ (Ne.symm hb)];exact jC _ z
  have nr:∀b o,'i' b=some o->(∀ws,o.data ≠ .fields ws)->b≠e:=λb o z hn q=>by
   rw[q,qe]at z;cases z;exact hn vs rfl
 . refine⟨λb o z=>kp b o (λq=>by rw[q,nb]at z;cases z) (b1 b o z),nb,ff.of_keeps λb o z hn=>?_,?_⟩
   . obtain⟨sl',z'⟩:=sg.2.2 b o z;exact⟨_,kp b _ (nr b o z hn) z',rfl⟩
   . exact⟨_,sl,g.objs.size,tb,cells,q3,by simp[sz],b1.fresh,nt,t3,by rw[etb],c3⟩
 . intro b o z hn;obtain⟨sl',z'⟩:=sg.2.2 b o z;exact⟨sl',kp b _ (nr b o z hn) z'⟩
def aV(f:FlyD base l e c od fl s.heap)(k:∀h',FlyD base l e c od .none h'->s.heap.UpToSlots h'->Q () { s with heap:=h' }):wpAny M A (setFlight (.ref e) none) Q E s:=by
 obtain⟨kb,nb,ff,vs,sl,T,oT,ts,qe,q1,nT,ne,qT,dT,q3⟩:=f;have z3:3<ts.size:=(Array.getElem?_eq_some_iff.mp q3).1;unfold setFlight;refine q8 (qk qe rfl q1 ?_);rw[qh (show(Value.ref T != Value.none)=true from by simp)];have ot:∀b,b≠T->(s.heap.update T (Obj.mapFields (·.setIfInBounds 3 Value.none))).get? b='i' b:=λb hb=>jc _ _ (Ne.symm hb)
 have nr:∀b o,'i' b=some o->(∀ws,o.data ≠ .fields ws)->b≠T:=λb o z hn q=>by
  rw[q,qT]at z;cases z;exact hn ts dT
 refine qR qT dT z3 (k _ ⟨λb o z=>(ot b λq=>by rw[q,nT]at z;cases z).trans (kb b o z),nb,ff.of_keeps λb o z hn=>⟨o,(ot b (nr b o z hn)).trans z,rfl⟩,?_⟩ λb o z hn=>⟨o.slots,(ot b (nr b o z hn)).trans z⟩);exact⟨vs,sl,T,_,_,(ot e (Ne.symm ne)).trans qe,q1,nT,ne,jn _ qT (Obj.isFreed_of_fields (Obj.data_mapFields dT _)),Obj.data_mapFields dT _,by simp[z3]⟩
def on(fr:A.frames=some (env::outer))(fe:env.frame=some L)(f:FlyD base (env::outer) e c od .none s.heap)(k:∀h',FlyD base (env::outer) e c od (rawInt L) h'->s.heap.UpToSlots h'->Q () { s with heap:=h' }):wpAny M A (noteFrame (.ref e) env) Q E s:=by
 obtain⟨kb,nb,ff,vs,sl,T,oT,ts,qe,q1,nT,ne,qT,dT,q3⟩:=f;unfold noteFrame;simp only[fe];refine q8 (qk qe rfl q1 ?_);rw[qh (show(Value.ref T != Value.none)=true from by simp)];refine q8 (qk qT dT q3 ?_);rw[qg (show ¬((Value.none==rawInt L)=true) from by simp[rawInt])];refine q8 (qR qT dT (Array.getElem?_eq_some_iff.mp q3).1 ?_);have ot:∀b,b≠T->(s.heap.update T (Obj.mapFields (·.setIfInBounds 3 Value.none))).get? b='i' b:=λb hb=>jc _ _ (Ne.symm hb)
 have nr:∀b o,'i' b=some o->(∀ws,o.data ≠ .fields ws)->b≠T:=λb o z hn q=>by
  rw[q,qT]at z;cases z;exact hn ts dT
 refine om fr (ff.of_keeps λb o z hn=>⟨o,(ot b (nr b o z hn)).trans z,rfl⟩) fe ((ot e (Ne.symm ne)).trans qe) (λb o z=>(ot b λq=>by rw[q,nT]at z;cases z).trans (kb b o z)) nb (Array.getElem?_eq_some_iff.mp q1).1 λh' f' sm=>k h' f' λb o z hn=>sm b o ((ot b (nr b o z hn)).trans z) hn
def FlyD.at_e(f:FlyD base l e c od fl h):∃vs sl,h.get? e=some ⟨c,od,.fields vs,sl⟩:=by
 obtain⟨_,_,_,vs,sl,_,_,_,q,_⟩:=f;exact⟨vs,sl,q⟩
end
def CXD(P:xT)(w:xU):CXT:=λouter H s E ev s'=>∃(e C:xS) (od:Option xS) (B:Heap) (H':Hp),ev=.ref e/\s'.os=s.os/\AllBare s'.gens/\Un (frs outer) [] H H' s.heap s'.heap/\HOk P w H' s'.heap /\
 FlyD B outer e (.ref C) od .none s'.heap/\(∀b ob,s'.heap.get? b=some ob->((H' b).isSome=true\/('i' b).isSome=true)->b∉frs outer->B.get? b=some ob)/\H' e=none/\E (.ref C) od H'
def oo:QC (CXD P w) X E0:=by rintro _ _ _ _ _ _ _ ⟨_,_,_,_,_,_,_,_,_,_,_,_,_,h⟩;exact h.elim
section
variable {P:xT}{w:xU}{K:xh}{mg:xf}{base:Heap}{N:xp}{qual:Str}{scope:Scope}{f:xS}{cd:xQ}{A:xV}{outer:List Env}{s0:xR}{H0:Hp}{E:XK}
def oq(X:Cx)(E:XK):Prop:=∀(xt:xg) (σ:St) (H:Hp) (s:xR) (e C:xS) (od:Option xS) (t:xS),Inv X xt σ H s->H e=none->X.s₀.heap.get? e=none->'i' e=some (oh C od t)->E (.ref C) od H->X.xe (.ref e) s
end
structure Def2 (P:xT) (w:xU) (K:xh) (mg:xf) (base:Heap) (x:Str) (k:Nat) (ps:xp) (sp:Sp):Prop where
 ex:∃f fd,FnOk P w K mg base (CXD P w) k f fd ps sp/\Binds K fd ps []/\PySem.W.keepIn K (.ref f)=true/\mg x=some (.ref f)
section
variable {P:xT}{w:xU}{K:xh}{mg:xf}{base:Heap}
def Fn.ok2{x:Str}{st:Stmt}{N ps:xp}{k:Nat}{sp:Sp}(F:Fn K mg x st ps)(S:FnScope N ps (defScope st))(len:∀vs H Q E,sp vs H Q E->vs.length=ps.length)
 (xB:∀(f:xS) (xu:xQ) (A:xV) (outer:List Env) (s:xR) (H:Hp) (vs:List V) (Q:VK) (E:XK),Room k (A.deeper (envOfC x (defScope st) 'g' f xu))->sp vs H Q E ->
  ∃t,PSs (QD (CXD P w) P w K mg base N x (defScope st) f xu A outer s H E) (defBody st) t/\t { nx:=λ_ H'=>Q .non H',rt:=Q } (JD N vs) H):Def2 P w K mg base x (k+1) ps sp:=by
 obtain⟨f,fd,FF,b,m⟩:=F.ex;have kp:=FF.kp;obtain⟨oc,od,kV,xI,pm,an,xu,ct,osl,rfl,lk,hcd⟩:=FF.ex;exact⟨f,_,au lk hcd S len λA outer s H vs Q E hr hsp=>xB f xu A outer s H vs Q E hr hsp,b,kp,m⟩
end
section
variable {X:Cx}{k j:Nat}{ps:xp}{sp:Sp}{x:Str}{p pos:Pos}{e:Expr}{es:List Expr}{t:TA}{E:XK}
def ou(D:Def2 X.prog X.w X.K X.mg X.base x j ps sp)(hr:Room k X.A)(hg:Gl X x)(hx:QC (CXD X.prog X.w) X E)(ha:PA X (e::es) t)(hjk:j<=k:=by decide)(hdb:(x==("__debug__" : Str))=false:=by decide)
 (he:starEach (e::es) X.env=(false,eval e X.env)::starEach es X.env:=by rfl) (hpl:(backTo pos (starEach es X.env)).any (·.1)=false:=by rfl) :
 PE X (.Call (.Name x p) (e::es) [] pos) (Zn sp [] E t):=by
 obtain⟨f,fd,F,b,kp,m⟩:=D.ex;exact eO F (hr.mono hjk) hg m kp b .nil hx ha hdb he hpl
end
def Xe(C e:xS)(od:Option xS):HO := .ext λh=>∃ob,h.get? e=some ob/\ob.cls=.ref C/\ob.dict=od/\∃vs,ob.data=.fields vs
def zF(x:∃ob,h.get? e=some ob/\ob.cls=.ref C/\ob.dict=od/\∃vs,ob.data=.fields vs):ObjOk P w H h e (Xe C e od) :=
 ⟨x,let ⟨ob,q,_⟩:=x;⟨ob,q⟩,λ_ _ ⟨ob,q1,q2⟩ k=>⟨ob,k ob q1,q2⟩⟩
section
variable {X:Cx}{x f:Str}{C:xS}{k:Nat}{E:XK}{np cpos pos:Pos}{e:Expr}{t:TA}
def zG(c:ExcC X.K X.mg x C)(hc:X.calm=true)(hg:Gl X x)(hx:X.ex=[])(R:oq X E)(hd:(x==("__debug__" : Str))=false:=by decide):PS X (.Raise (some (.Call (.Name x np) [] [] cpos)) none pos) (zw E C):=by
 intro xt s σ H D I h;obtain⟨bm,Na,nm,qn,bs,hdc,sn,sub,ab,col,dd,k0,k1,k2,k3,k5,mN,hC,hN,hni,T⟩:=zv I.kIn c.ex;refine wpAny_Raise_call_subT (nm:=nm) (q:=qn) (N:=Na) (bs:=bs) (bm:=bm) (hdct:=hdc) (sn:=sn) (sub:=sub) (ab:=ab) (col:=col) (dd:=dd) (k0:=k0) (k1:=k1) (k2:=k2) (k3:=k3) (k5:=k5) F.excBase_ValueError (mN:=mN) (T.hasType F.excBase_ValueError.hasBase) (I.ok.hd hc) rfl hni (Xu I hg c.mg ⟨rfl,?_⟩ hd);refine evalArgs_empty ⟨rfl,jT _,hC,hN,T,λh' e hm=>?_⟩;obtain⟨tt,hE,_,_⟩:=hm.there;obtain⟨f1,f2,_⟩:=I.fresh0 hx hm.new;exact R xt σ H _ e C none tt (I.kept (h':=h') (t':=s.toks) hm.keeps) f1 f2 hE h
end
section
variable {X:Cx}{e:Expr}{f:Str}{pos:Pos}{ta:TE}
def zH(K:xh)(hK:X.K=K):CallR X (.builtin "isinstance") (λxs H Q=>∃e c C od b,xs=[.ref e,c]/\isC c=true/\H e=some (Xe C e od)/\ExcIs K C/\PySem.W.kitOne K (.ref C) (aE c)=some b/\Q (.bl b) H):=by
 subst hK;intro xt s σ H xs us Q I r h;obtain⟨e,c,C,od,b,rfl,hc,he,x,k,q⟩:=h;obtain⟨u,w',rfl,rx,rc⟩:=am r;have:=mP rc hc;subst this
 cases rx
 obtain⟨ob,h1,h2,h3,vs,h4⟩:=(show ObjOk X.prog X.w H s.heap e (Xe C e od) from I.hok e _ he).1;exact PySem.W.kia_one (zE x) I.kIn ⟨ob,h1,h2,vs,h4⟩ k (λz=>nomatch z) λtk=>⟨.bl b,H,I.tok _,rfl,q⟩
end
def TrI(h B:Heap)(e:xS)(C:xS)(od:Option xS)(L:xS):Prop:=(∃t,h.get? e=some (oh C od t))\/TrD h B e (.ref C) od .none\/TrD h B e (.ref C) od (rawInt L)
structure InF (X:Cx) (B:Heap) (H':Hp) (e:xS) (s':xR):Prop where
 os:s'.os=X.s₀.os
 bare:AllBare s'.gens
 un:Un (frs X.outer) [] X.H₀ H' X.s₀.heap s'.heap
 hok:HOk X.prog X.w H' s'.heap
 kb:B.StaysIn s'.heap
 nb:B.get? e=none
 ff:s'.heap.FunFrames B X.stack
 inB:∀b ob,s'.heap.get? b=some ob->((H' b).isSome=true\/(X.s₀.heap.get? b).isSome=true)->b∉frs X.outer->B.get? b=some ob
 inH:∀b ob,s'.heap.get? b=some ob->(H' b).isSome=true->B.get? b=some ob
 fr:∀b∈frs X.outer,b∈X.stack.filterMap (·.frame)
def InF.step(I:InF X B H' e s')(k1:B.StaysIn h2)(ff2:h2.FunFrames B X.stack)(sm:s'.heap.UpToSlots h2):InF X B H' e { s' with heap:=h2 }:=by
 refine⟨I.os,I.bare,Un.fly I.un I.inB k1 (λb hb ob q=>?_),HOk.fly I.hok I.inH k1,k1,I.nb,ff2,λb ob q c nb=>?_,λb ob q c=>?_,I.fr⟩
 . obtain⟨_,o',ho',hnf⟩:=I.ff.mem (I.fr b hb);rw[q]at ho';cases ho';exact sm b ob q hnf
 . have:∃o1,s'.heap.get? b=some o1:=by
    rcases c with c|c
    . obtain⟨u,z⟩:=jt.mp c;exact(I.hok b u z).has
    . obtain⟨o,z⟩:=jt.mp c;exact I.un.there b o z (λz=>nomatch z)
   obtain⟨o1,e1⟩:=this;have z:=I.inB b o1 e1 c nb;have:=k1 b o1 z;rw[q]at this;cases this;exact z
 . obtain⟨u,z⟩:=jt.mp c;obtain⟨o1,e1⟩:=(I.hok b u z).has;have z:=I.inH b o1 e1 c;have:=k1 b o1 z;rw[q]at this;cases this;exact z
def ow(X:Cx)(E:XK)(ev:xQ)(s':xR):Prop:=∃(e C:xS) (od:Option xS) (B:Heap) (H':Hp),ev=.ref e/\InF X B H' e s'/\TrI s'.heap B e C od X.env.locals/\H' e=none/\E (.ref C) od H'
section
variable {M:Model}{A:xV}{E:xc}{s:xR}{base:Heap}{env:Env}{outer l:List Env}{L e C:xS}{c fl:xQ}{od:Option xS}
def ox(fr:A.frames=some (env::outer))(fe:env.frame=some L)(kb:base.StaysIn s.heap)(nb:base.get? e=none)(ff:s.heap.FunFrames base (env::outer))(tr:TrI s.heap base e C od L)(k:∀h',FlyD base (env::outer) e (.ref C) od (rawInt L) h'->s.heap.UpToSlots h'->Q () { s with heap:=h' }):wpAny M A (noteFrame (.ref e) env) Q E s:=by
 rcases tr with ⟨t,he⟩|tr|tr
 . unfold noteFrame;simp only[fe];refine q8 (qk he rfl (x := .none) rfl ?_);rw[qg 'd'];exact om fr ff fe he kb nb (by show 1<6;decide) k
 . exact on fr fe ⟨kb,nb,ff,tr⟩ k
 . have f:FlyD base (env::outer) e (.ref C) od (rawInt L) s.heap:=⟨kb,nb,ff,tr⟩;obtain⟨vs,sl,T,oT,ts,qe,q1,nT,ne,qT,dT,q3⟩:=tr;unfold noteFrame;simp only[fe];refine q8 (qk qe rfl q1 ?_);rw[qh (show(Value.ref T != Value.none)=true from by simp)];refine q8 (qk qT dT q3 ?_);rw[qh (show(rawInt L==rawInt L)=true from by simp)];exact qf (k s.heap f (Heap.UpToSlots.refl _))
def zI(f:FlyD base l e c od fl s.heap)(k:∀h',FlyD base l e c od (rawInt L) h'->s.heap.UpToSlots h'->Q () { s with heap:=h' }):wpAny M A (setFlight (.ref e) (some L)) Q E s:=by
 obtain⟨kb,nb,ff,vs,sl,T,oT,ts,qe,q1,nT,ne,qT,dT,q3⟩:=f;have z3:3<ts.size:=(Array.getElem?_eq_some_iff.mp q3).1;unfold setFlight;refine q8 (qk qe rfl q1 ?_);rw[qh (show(Value.ref T != Value.none)=true from by simp)];have ot:∀b,b≠T->(s.heap.update T (Obj.mapFields (·.setIfInBounds 3 (rawInt L)))).get? b='i' b:=λb hb=>jc _ _ (Ne.symm hb)
 have nr:∀b o,'i' b=some o->(∀ws,o.data ≠ .fields ws)->b≠T:=λb o z hn q=>by
  rw[q,qT]at z;cases z;exact hn ts dT
 refine qR qT dT z3 (k _ ⟨λb o z=>(ot b λq=>by rw[q,nT]at z;cases z).trans (kb b o z),nb,ff.of_keeps λb o z hn=>⟨o,(ot b (nr b o z hn)).trans z,rfl⟩,?_⟩ λb o z hn=>⟨o.slots,(ot b (nr b o z hn)).trans z⟩);exact⟨vs,sl,T,_,_,(ot e (Ne.symm ne)).trans qe,q1,nT,ne,jn _ qT (Obj.isFreed_of_fields (Obj.data_mapFields dT _)),Obj.data_mapFields dT _,by simp[z3]⟩
end
section
variable {P:xT}{w:xU}{K:xh}{mg:xf}{base:Heap}{N:xp}{qual:Str}{scope:Scope}{f:xS}{cd:xQ}{A:xV}{outer:List Env}{s0:xR}{H0:Hp}{E:XK}
abbrev cxI(P:xT)(w:xU)(K:xh)(mg:xf)(base:Heap)(N:xp)(qual:Str)(scope:Scope)(f:xS)(cd:xQ)(A:xV)(outer:List Env)(s0:xR)(H0:Hp)(E:XK):Cx :=
 (QD (CXD P w) P w K mg base N qual scope f cd A outer s0 H0 E).wish (ow (QD (CXD P w) P w K mg base N qual scope f cd A outer s0 H0 E) E)
theorem zJ(fr:(A.deeper (envOfC qual scope s0.heap.objs.size f cd)).frames=some (envOfC qual scope s0.heap.objs.size f cd::outer)):PassesOwn (model (cxI P w K mg base N qual scope f cd A outer s0 H0 E).prog (cxI P w K mg base N qual scope f cd A outer s0 H0 E).w) (cxI P w K mg base N qual scope f cd A outer s0 H0 E).A (cxI P w K mg base N qual scope f cd A outer s0 H0 E).env (cxI P w K mg base N qual scope f cd A outer s0 H0 E).xe:=by
 rintro ev s' ⟨e,C,od,B,H',rfl,I,tr,he,hE⟩;refine ox fr rfl I.kb I.nb I.ff tr λh1 f1 m1=>?_;have I1:=I.step f1.1 f1.2.2.1 m1;obtain⟨vs,sl,T,oT,ts,qe,q1,_⟩:=id f1.2.2.2;show wpAny _ _ _ _ _ _;refine q8 (qk (s:={ s' with heap:=h1 }) qe rfl q1 ?_);rw[qg (show ¬((Value.ref T==Value.none)=true) from by simp)];refine zI (s:={ s' with heap:=h1 }) (L:=(envOfC qual scope s0.heap.objs.size f cd).locals) f1 λh2 f2 m2=>?_;exact⟨e,C,od,B,H',rfl,I1.step f2.1 f2.2.2.1 m2,.inr (.inr f2.2.2.2),he,hE⟩
def fT(fr:(A.deeper (envOfC qual scope s0.heap.objs.size f cd)).frames=some (envOfC qual scope s0.heap.objs.size f cd::outer))(h:ow (QD (CXD P w) P w K mg base N qual scope f cd A outer s0 H0 E) E ev s'):(QD (CXD P w) P w K mg base N qual scope f cd A outer s0 H0 E).xe ev s':=by
 obtain⟨e,C,od,B,H',rfl,I,tr,he,hE⟩:=h;show wpAny _ _ (leaving _ (.ref e)) _ _ s';unfold leaving;refine q8 (ox fr rfl I.kb I.nb I.ff tr λh1 f1 m1=>?_);have I1:=I.step f1.1 f1.2.2.1 m1;refine aV (s:={ s' with heap:=h1 }) f1 λh2 f2 m2=>?_;have I2:=I1.step f2.1 f2.2.2.1 m2;obtain⟨a,b,⟨_,_,d⟩,t⟩:=f2;exact⟨e,C,od,B,H',rfl,I2.os,I2.bare,I2.un,I2.hok,⟨a,b,d,t⟩,I2.inB,he,hE⟩
end
section
variable {P:xT}{w:xU}{K:xh}{mg:xf}{base:Heap}{N:xp}{qual:Str}{scope:Scope}{f:xS}{cd:xQ}{A:xV}{outer:List Env}{s0:xR}{H0:Hp}{E:XK}
def oA:∀b∈frs l,b∈(env::l).filterMap (·.frame):=λb hb=>by
 obtain⟨v,hv,e⟩:=List.mem_filterMap.mp hb;exact List.mem_filterMap.mpr ⟨v,jN _ hv,e⟩
def zK:oq (cxI P w K mg base N qual scope f cd A outer s0 H0 E) E:=by
 intro xt σ H s e C od t I0 hHe h0 he hE;have I:=I0.unwish;obtain⟨as,eas⟩:∃as,as=e::frs (QD (CXD P w) P w K mg base N qual scope f cd A outer s0 H0 E).stack:=⟨_,rfl⟩
 have ne:∀{b:xS},((H b).isSome=true\/(s0.heap.get? b).isSome=true)->b≠e:=fun {b} c z=>by
  subst z;rcases c with c|c
  . rw[hHe]at c;cases c
  . have h0':s0.heap.get? b=none:=h0;rw[h0']at c;cases c
 have inB:∀b ob,'i' b=some ob->((H b).isSome=true\/(s0.heap.get? b).isSome=true)->b∉frs outer->(PySem.W.hideAll s.heap as).get? b=some ob:=λb ob q c nb =>
  PySem.W.hideAll_get _ q (by rw[eas];exact λz=>(jJ.mp z).elim (ne c) (I.off c nb))
 have inH:∀b ob,'i' b=some ob->(H b).isSome=true->(PySem.W.hideAll s.heap as).get? b=some ob:=λb ob q c =>
  PySem.W.hideAll_get _ q (by rw[eas];exact λz=>(jJ.mp z).elim (ne (.inl c)) (I.noFr c))
 refine⟨e,C,od,PySem.W.hideAll s.heap as,H,rfl,⟨I.os,I.bare,I.base,I.hok,λb ob q=>PySem.W.of_hideAll _ q,PySem.W.hideAll_none _ (by rw[eas];exact .head _),PySem.W.funFrames_hide I.stack λenv hev a ha=>by rw[eas];exact jN _ (List.mem_filterMap.mpr ⟨env,hev,ha⟩),inB,inH,oA⟩,.inl ⟨t,he⟩,hHe,hE⟩
def JN:QC (CXD P w) (cxI P w K mg base N qual scope f cd A outer s0 H0 E) E:=by
 intro xt σ H s ev s' I0 h;have I:=I0.unwish;obtain⟨e,C,od,B,H',rfl,hos,hg,u,hok,fl,hB,he,hE⟩:=h;have I':=I.call' (s':=s') (ch:=[]) hos u hok hg (λ_ z=>nomatch z)
 have inB:∀b ob,s'.heap.get? b=some ob->((H' b).isSome=true\/(s0.heap.get? b).isSome=true)->b∉frs outer->B.get? b=some ob:=λb ob q c nb=>by
  refine hB b ob q ?_ (I'.off c nb);rcases c with c|c
  . exact .inl c
  . obtain⟨o1,e1⟩:=I.old rfl (.inr c);exact .inr (by rw[e1];rfl)
 exact⟨e,C,od,B,H',rfl,⟨I'.os,I'.bare,I'.base,I'.hok,fl.1,fl.2.1,fl.2.2.1,inB,λb ob q c=>hB b ob q (.inl c) (I'.noFr c),oA⟩,.inr (.inl fl.2.2.2),he,hE⟩
def Z2(hi:PI (cxI P w K mg base N qual scope f cd A outer s0 H0 E) tg xC wi)(hg:PG (cxI P w K mg base N qual scope f cd A outer s0 H0 E) tg g)(hb:PSs (cxI P w K mg base N qual scope f cd A outer s0 H0 E) body tb)
 (hs:∀x,foldedSetIterable xC (cxI P w K mg base N qual scope f cd A outer s0 H0 E).env x=pure x:=by intro _;rfl):PS (cxI P w K mg base N qual scope f cd A outer s0 H0 E) (.For tg xC body [] pos) (lO wi g tb) :=
 λxt s σ H D I h=>QI (zJ I.ok.frames) rfl hi hg hb hs xt s σ H D I h
def Fn.ok3{x:Str}{st:Stmt}{N ps:xp}{k:Nat}{sp:Sp}(F:Fn K mg x st ps)(S:FnScope N ps (defScope st))(len:∀vs H Q E,sp vs H Q E->vs.length=ps.length)
 (xB:∀(f:xS) (xu:xQ) (A:xV) (outer:List Env) (s:xR) (H:Hp) (vs:List V) (Q:VK) (E:XK),Room k (A.deeper (envOfC x (defScope st) 'g' f xu))->sp vs H Q E ->
  ∃t,PSs (cxI P w K mg base N x (defScope st) f xu A outer s H E) (defBody st) t/\t { nx:=λ_ H'=>Q .non H',rt:=Q } (JD N vs) H):Def2 P w K mg base x (k+1) ps sp:=by
 refine F.ok2 S len λf xu A outer s H vs Q E hr h=>?_;obtain⟨t,ht,hq⟩:=xB f xu A outer s H vs Q E hr h;refine⟨t,λxt s1 σ H1 D I q=>?_,hq⟩;exact qq (ht xt s1 σ H1 D (I.wish _) q) (λfl s2 z=>z.unwish) (λev s2 z=>fT I.ok.frames z)
end
structure MFn (K:xh) (C:xS) (m qual:Str) (st:Stmt) (ps:xp):Prop where
 ex:∃f fd,Fun K m qual st f fd/\Meth K C m f/\Binds K fd ps []
structure DefM (P:xT) (w:xU) (K:xh) (mg:xf) (base:Heap) (C:xS) (m:Str) (k:Nat) (ps:xp) (sp:Sp):Prop where
 ex:∃f fd,Meth K C m f/\FnOk P w K mg base (CXD P w) k f fd ps sp/\Binds K fd ps []
section
variable {P:xT}{w:xU}{K:xh}{mg:xf}{base:Heap}
def Fun.ok3{x qual:Str}{st:Stmt}{f:xS}{fd:FuncData}{N ps:xp}{k:Nat}{sp:Sp}(F:Fun K x qual st f fd)(S:FnScope N ps (defScope st))(len:∀vs H Q E,sp vs H Q E->vs.length=ps.length)
 (xB:∀(xu:xQ) (A:xV) (outer:List Env) (s:xR) (H:Hp) (vs:List V) (Q:VK) (E:XK),Room k (A.deeper (envOfC qual (defScope st) 'g' f xu))->sp vs H Q E ->
  ∃t,PSs (cxI P w K mg base N qual (defScope st) f xu A outer s H E) (defBody st) t/\t { nx:=λ_ H'=>Q .non H',rt:=Q } (JD N vs) H):FnOk P w K mg base (CXD P w) (k+1) f fd ps sp:=by
 obtain⟨oc,od,kV,xI,pm,an,xu,ct,osl,rfl,lk,hcd⟩:=F.ex;refine au lk hcd S len λA outer s H vs Q E hr hsp=>?_;obtain⟨t,ht,hq⟩:=xB xu A outer s H vs Q E hr hsp;refine⟨t,λxt s1 σ H1 D I q=>?_,hq⟩;exact qq (ht xt s1 σ H1 D (I.wish _) q) (λfl s2 z=>z.unwish) (λev s2 z=>fT I.ok.frames z)
theorem MFn.ok3{C:xS}{m qual:Str}{st:Stmt}{N ps:xp}{k:Nat}{sp:Sp}(F:MFn K C m qual st ps)(S:FnScope N ps (defScope st))(len:∀vs H Q E,sp vs H Q E->vs.length=ps.length)
 (xB:∀(f:xS) (xu:xQ) (A:xV) (outer:List Env) (s:xR) (H:Hp) (vs:List V) (Q:VK) (E:XK),Room k (A.deeper (envOfC qual (defScope st) 'g' f xu))->sp vs H Q E ->
  ∃t,PSs (cxI P w K mg base N qual (defScope st) f xu A outer s H E) (defBody st) t/\t { nx:=λ_ H'=>Q .non H',rt:=Q } (JD N vs) H):DefM P w K mg base C m (k+1) ps sp:=by
 obtain⟨f,fd,FF,M,b⟩:=F.ex;exact⟨f,fd,M,FF.ok3 S len (xB f),b⟩
end
section
variable {X:Cx}{C:xS}{k j:Nat}{ps:xp}{sp:Sp}{E:XK}{m x:Str}{apos pos p:Pos}{e o:Expr}{es:List Expr}{ta:TE}{t:TA}
def Qm{pl:Sem Bool}(D:DefM X.prog X.w X.K X.mg X.base C m j ps sp)(c:Cls X.K C)(hr:Room k X.A)(hx:QC (CXD X.prog X.w) X E)(ho:PE X o ta)(ha:PA X (e::es) t)(hjk:j<=k:=by decide)
 (hst:starEach (e::es) X.env=(false,eval e X.env)::starEach es X.env:=by rfl) (hpl:(backTo pos (starEach es X.env)).any (·.1)=false:=by rfl)
 (ht:eval (.Call (.Attribute o m apos) (e::es) [] pos) X.env=(do
  let ov <- eval o X.env
  standAt apos.atName
  let (f,first) <- holding [ov] (getMethod ov m pl)
  callWith pos f first (backTo pos (starEach (e::es) X.env)) (backToKw pos (keywordEach [] X.env))):=by rfl):PE X (.Call (.Attribute o m apos) (e::es) [] pos) (eL C m sp [] E ta t):=by
 obtain⟨f,fd,M,F,b⟩:=D.ex;exact vB (pl:=pl) ho c M F (hr.mono hjk) b .nil hx ha hst hpl ht
structure NewC (P:xT) (w:xU) (K:xh) (mg:xf) (base:Heap) (x:Str) (C:xS) (k:Nat) (ps:xp) (sp:Sp):Prop where
 nm:mg x=some (.ref C)
 ex:∃f fd,Mk K C f/\FnOk P w K mg base (CXD P w) k f fd ps sp/\Binds K fd ps []
def Yp(D:NewC X.prog X.w X.K X.mg X.base x C j ps sp)(hr:Room k X.A)(hg:Gl X x)(hx:QC (CXD X.prog X.w) X E)(ha:PA X (e::es) t)(hjk:j+1<=k:=by decide)(hdb:(x==("__debug__" : Str))=false:=by decide)
 (he:starEach (e::es) X.env=(false,eval e X.env)::starEach es X.env:=by rfl) (hpl:(backTo pos (starEach es X.env)).any (·.1)=false:=by rfl):PE X (.Call (.Name x p) (e::es) [] pos) (Zo C sp [] E t):=by
 obtain⟨f,fd,M,F,b⟩:=D.ex;exact vD M F (hr.mono hjk) hg D.nm b .nil hx ha hdb he hpl
end
structure IFn (K:xh) (mg:xf) (x:Str) (C:xS) (qual:Str) (st:Stmt) (ps:xp):Prop where
 nm:mg x=some (.ref C)
 ex:∃f fd,Fun K "__init__" qual st f fd/\Mk K C f/\Binds K fd ps []
def IFn.new{P:xT}{w:xU}{K:xh}{mg:xf}{base:Heap}{x qual:Str}{C:xS}{st:Stmt}{ps:xp}{k:Nat}{sp:Sp}(I:IFn K mg x C qual st ps)(h:∀f fd,Fun K "__init__" qual st f fd->FnOk P w K mg base (CXD P w) k f fd ps sp):NewC P w K mg base x C k ps sp:=by
 obtain⟨f,fd,F,M,b⟩:=I.ex;exact⟨I.nm,f,fd,M,h f fd F,b⟩
inductive NK where
 |lf (v:Int)|qn (q:Int) (ns:xr)
 deriving DecidableEq
section
variable {prog:xT}{w:xU}{A:xV}{E:xc}{s:xR}
def fU(prog:xT)(w:xU)(A:xV)(h:Heap)(v:xQ)(p:Int×Nat):Prop :=
 ∀(E:xc) (s':xR) (Q:Int->xR->Prop),s'.heap=h->Q p.1 { s' with toks:=s'.toks+p.2 }->wpAny (model prog w) A (pyHash v) Q E s'
def zM(hu:A.units<cLine)(ho:'i' a=some o)(hc:o.cls=.type "tuple")(hd:o.data=.seq items n)
 (hi:Paired (fU prog w A.in1 s.heap) items.toList hs)
 (h:Q (reduceHash (Builtin.Tuple.tupleHashOf (hs.map (·.1)))) { s with toks:=s.toks+((hs.map (·.2)).sum+1) }):wpAny (model prog w) A (pyHash (.ref a)) Q E s:=by
 have hT:s.TypeIs (.ref a) "tuple" := ⟨o,ho,hc⟩;unfold pyHash
 first|unfold pyHashByItsType|skip
 first|refine q8 (wpAny_cRoomFor_or (.inr hu) ?_)|skip
 refine q8 (xb hT F.slot_tuple_hash.lookup ?_);show wpAny _ _ (if (some (Value.builtin "tuple.__hash__")==some Value.none)=true then _ else _) Q E s;rw[qg (by rw[beq_builtin_none];exact jR)];refine q8 (xb hT F.slot_tuple_hash.lookup ?_);show wpAny _ _ (callSpecialIfBoundUnlessNone? (.ref a) "__hash__" _ >>= _) Q E s;refine q8 (wpAny_callSpecialIfBoundUnlessNone?_slot hT F.slot_tuple_hash (qE F.slot_tuple_hash hT F.entry_tuple_hash ?_ (F.args_tuple_hash_1 _)));show wpAny _ _ (Builtin.Tuple.tupleItemsOf (.ref a) >>= _) _ _ s;refine q8 (wpAny_tupleItemsOf ho hd ?_);refine q8 ?_;rw[<- Array.forIn_toList]
 refine wpAny_forIn_list _
  (λxy (b:Array Int) s'=>∃done left,hs=done++left/\Paired (fU prog w A.in1 s.heap) xy left/\b.toList=done.map (·.1)/\s'={ s with toks:=s.toks+(done.map (·.2)).sum })
  _ ?_ ?_ _ _ ⟨[],hs,rfl,hi,rfl,rfl⟩
 . rintro x xy b s' ⟨done,left,rfl,hl,hb,rfl⟩
   cases hl with
   | @cons _ k _ xE h1 hl' =>
    refine q8 (h1 _ _ _ rfl ?_)
    first
     |exact qf ⟨done++[k],xE,by simp,hl',by simp[hb],by simp[Nat.add_assoc]⟩
     |exact q8 (qf (qf ⟨done++[k],xE,by simp,hl',by simp[hb],by simp[Nat.add_assoc]⟩))
 . rintro b s' ⟨done,left,rfl,hl,hb,rfl⟩
   cases hl
   rw[jk]at h;show wpAny _ _ (retInt (Builtin.Tuple.tupleHashOf b.toList)) _ _ _;rw[hb];refine wpAny_ret_mkInt ?_;show wpAny _ _ (if (decide (-(2:Int) ^ 63<=Builtin.Tuple.tupleHashOf (done.map (·.1)))&&decide (Builtin.Tuple.tupleHashOf (done.map (·.1))<2 ^ 63))=true then _ else _) Q E _;unfold reduceHash at h
   by_cases hr:(decide (-(2:Int) ^ 63<=Builtin.Tuple.tupleHashOf (done.map (·.1)))&&decide (Builtin.Tuple.tupleHashOf (done.map (·.1))<2 ^ 63))=true
   . rw[qh hr];rw[qh hr]at h;exact qf (by simpa [Nat.add_assoc] using h)
   . rw[qg hr];rw[qg hr]at h;exact q8 (qZ (qf (by simpa [Nat.add_assoc] using h)))
def oB(ho:'i' a=some o)(hc:o.cls=.type "tuple")(hd:o.data=.seq items n)
 (hi:∀v∈items.toList,∀Q:Bool->xR->Prop,Q true s->wpAny (model prog w) A (eqIsQuiet m v) Q E s) (h:Q true s):wpAny (model prog w) A (eqIsQuiet (m+1) (.ref a)) Q E s:=by
 have hT:s.TypeIs (.ref a) "tuple" := ⟨o,ho,hc⟩;unfold eqIsQuiet;refine q8 (xb hT F.slot_tuple_eq.lookup ?_);show wpAny _ _ (isInstance (.ref a) (.type "tuple") >>= _) _ _ s;refine q8 (x5 hT isSubtype_tuple_tuple ?_);simp only[Bool.not_true,j6,qP];refine q8 (qK ho hd ?_);refine q8 ?_;show wpAny _ _ (forIn items _ _) _ _ s;rw[<- Array.forIn_toList];refine wpAny_forIn_list _ (λxy r s'=>r.1=none/\s'=s/\∀v∈xy,v∈items.toList) _ ?_ ?_ _ _ ⟨rfl,rfl,λ_ h=>h⟩
 . rintro v xy r s' ⟨hr,rfl,hall⟩;refine q8 (hi v (hall v jO) _ ?_);simp only[Bool.not_true,j6,qP];exact qf ⟨rfl,rfl,λu hu'=>hall u (jN _ hu')⟩
 . rintro⟨r1,r2⟩ s' ⟨hr,rfl,_⟩;simp only at hr;subst hr;exact qf h
end
structure FunD (K:xh) (x qual:Str) (st:Stmt) (f:xS) (fd:FuncData) (dv:xQ):Prop where
 ex:∃(T:xS) (To:xQ) (Td:Option xS) (Tn:Nat) (Ts:Array (xj)) (oc:xQ) (od:Option xS) (kV xI pm:xQ) (an:Option xS) (xu ct:xQ) (osl:Array (xj)),
  fd=PySem.W.fnOf x qual (defArgs st) (defBody st) (defScope st) (.ref T) kV xI pm an xu ct/\K.lookup f=some ⟨oc,od,.func fd,osl⟩/\PySem.W.codeIn K xu qual=true/\K.lookup T=some ⟨To,Td,.seq #[dv] Tn,Ts⟩
section
variable {P:xT}{w:xU}{K:xh}{mg:xf}{base:Heap}
def FunD.ok3{x qual:Str}{st:Stmt}{f:xS}{fd:FuncData}{dv:xQ}{N ps:xp}{k:Nat}{sp:Sp}(F:FunD K x qual st f fd dv)(S:FnScope N ps (defScope st))(len:∀vs H Q E,sp vs H Q E->vs.length=ps.length)
 (xB:∀(xu:xQ) (A:xV) (outer:List Env) (s:xR) (H:Hp) (vs:List V) (Q:VK) (E:XK),Room k (A.deeper (envOfC qual (defScope st) 'g' f xu))->sp vs H Q E ->
  ∃t,PSs (cxI P w K mg base N qual (defScope st) f xu A outer s H E) (defBody st) t/\t { nx:=λ_ H'=>Q .non H',rt:=Q } (JD N vs) H):FnOk P w K mg base (CXD P w) (k+1) f fd ps sp:=by
 obtain⟨T,To,Td,Tn,Ts,oc,od,kV,xI,pm,an,xu,ct,osl,rfl,lk,hcd,_⟩:=F.ex;refine au lk hcd S len λA outer s H vs Q E hr hsp=>?_;obtain⟨t,ht,hq⟩:=xB xu A outer s H vs Q E hr hsp;refine⟨t,λxt s1 σ H1 D I q=>?_,hq⟩;exact qq (ht xt s1 σ H1 D (I.wish _) q) (λfl s2 z=>z.unwish) (λev s2 z=>fT I.ok.frames z)
def FunD.binds{x qual:Str}{st:Stmt}{f:xS}{fd:FuncData}{dv:xQ}{ps:xp}(F:FunD K x qual st f fd dv){ds:xm}
 (h:∀(T:xS) (kV xI pm:xQ) (an:Option xS) (xu ct:xQ) (us:xm),(us++ds).length=ps.length->∃k,bindArgs (PySem.W.fnOf x qual (defArgs st) (defBody st) (defScope st) (.ref T) kV xI pm an xu ct) ⟨us,[]⟩=seqItems? (.ref T) >>= k/\k (some #[dv])=pure (ps.zip (us++ds))):Binds K fd ps ds:=by
 obtain⟨T,To,Td,Tn,Ts,oc,od,kV,xI,pm,an,xu,ct,osl,rfl,lk,hcd,lT⟩:=F.ex;intro s us hK hl;obtain⟨k,h1,h2⟩:=h T kV xI pm an xu ct us hl;exact BindsTo.of_defaults (T:=T) rfl (hK _ _ lT) rfl h1 h2
end
structure FnD (K:xh) (mg:xf) (x:Str) (st:Stmt) (ps:xp) (d:V):Prop where
 ex:∃f fd dv,FunD K x x st f fd dv/\Binds K fd ps []/\Binds K fd ps [dv]/\RelV d dv/\PySem.W.keepIn K (.ref f)=true/\mg x=some (.ref f)
structure DefD (P:xT) (w:xU) (K:xh) (mg:xf) (base:Heap) (x:Str) (k:Nat) (ps:xp) (d:V) (sp:Sp):Prop where
 ex:∃f fd dv,FnOk P w K mg base (CXD P w) k f fd ps sp/\Binds K fd ps [dv]/\RelV d dv/\PySem.W.keepIn K (.ref f)=true/\mg x=some (.ref f)
section
variable {P:xT}{w:xU}{K:xh}{mg:xf}{base:Heap}
theorem FnD.ok3{x:Str}{st:Stmt}{N ps:xp}{k:Nat}{d:V}{sp:Sp}(F:FnD K mg x st ps d)(S:FnScope N ps (defScope st))(len:∀vs H Q E,sp vs H Q E->vs.length=ps.length)
 (xB:∀(f:xS) (xu:xQ) (A:xV) (outer:List Env) (s:xR) (H:Hp) (vs:List V) (Q:VK) (E:XK),Room k (A.deeper (envOfC x (defScope st) 'g' f xu))->sp vs H Q E ->
  ∃t,PSs (cxI P w K mg base N x (defScope st) f xu A outer s H E) (defBody st) t/\t { nx:=λ_ H'=>Q .non H',rt:=Q } (JD N vs) H):Def2 P w K mg base x (k+1) ps sp/\DefD P w K mg base x (k+1) ps d sp:=by
 obtain⟨f,fd,dv,FF,b0,b1,r,kp,m⟩:=F.ex;have ok:=FF.ok3 (k:=k) (sp:=sp) S len (λxu A outer s H vs Q E hr h=>xB f xu A outer s H vs Q E hr h);exact⟨⟨f,fd,ok,b0,kp,m⟩,⟨f,fd,dv,ok,b1,r,kp,m⟩⟩
end
section
variable {X:Cx}{k j:Nat}{ps:xp}{sp:Sp}{x:Str}{p pos:Pos}{e:Expr}{es:List Expr}{t:TA}{E:XK}{d:V}
def oC(D:DefD X.prog X.w X.K X.mg X.base x j ps d sp)(hr:Room k X.A)(hg:Gl X x)(hx:QC (CXD X.prog X.w) X E)(ha:PA X (e::es) t)(hjk:j<=k:=by decide)(hdb:(x==("__debug__" : Str))=false:=by decide)
 (he:starEach (e::es) X.env=(false,eval e X.env)::starEach es X.env:=by rfl) (hpl:(backTo pos (starEach es X.env)).any (·.1)=false:=by rfl) :
 PE X (.Call (.Name x p) (e::es) [] pos) (Zn sp [d] E t):=by
 obtain⟨f,fd,dv,F,b,r,kp,m⟩:=D.ex;exact eO F (hr.mono hjk) hg m kp b (.cons r .nil) hx ha hdb he hpl
end
end L2
namespace HT
open PySem PySem.Spec PyProof.Rows
section
variable {prog:xT}{w:xU}{A:xV}{E:xc}{s:xR}
theorem getItem_tuple_whole{items:xk}{lo hi:Option Int}{Q:xc}(ht:IsTup s.heap t items)(hs:s.heap.IsSliceOf sl vl vu .none)(pl:IsPart vl lo)(pu:IsPart vu hi)
 (hw:sIx items.size 0 lo=0/\sIx items.size items.size hi=items.size) (h:Q (.ref t) s):wpAny (model prog w) A (getItem (.ref t) (.ref sl)) Q E s:=by
 obtain⟨os,hos,hcs,hds⟩:=id hs;have hTs:s.TypeIs (.ref sl) "slice" := ⟨os,hos,hcs⟩;unfold getItem
 try with_reducible refine qF ?_
 first|refine q8 (qf ?_)|skip
 refine q8 (wpAny_sequenceKey ht.typeIs 'd' ?_)
 refine q8 (qD (name:=Str.ofString "__getitem__") ht.typeIs PyProof.Rows.slot_tuple_getitem
  (qE PyProof.Rows.slot_tuple_getitem ht.typeIs entry_tuple_getitem ?_ (args_tuple_getitem _ _)))
 show wpAny _ _ (Builtin.Tuple.tupleItemsOf (.ref t) >>= _) _ _ s;refine q8 (tupleItemsOf_ ht ?_);refine q8 (qY hTs ?_);rw[qh 'd'];refine q8 (mq hs pl pu ?_)
 have hyes:(((sIx items.size 0 lo:Nat):Int)==0&&(1:Int)==1&&(sIx items.size items.size hi - sIx items.size 0 lo)==items.size)=true:=by
  rw[hw.1,hw.2];simp
 show wpAny _ _ (if (((sIx items.size 0 lo:Nat):Int)==0&&(1:Int)==1&&(sIx items.size items.size hi - sIx items.size 0 lo)==items.size)=true then _ else _) _ _ s;rw[qh hyes];have hx:Builtin.Tuple.tupleIsExact (.ref t)=(typeOf (.ref t) >>= λv=>pure (v==.type "tuple")):=rfl;refine q8 (Q:=_) ?_;rw[hx];refine q8 (qY ht.typeIs (qf ?_));rw[qh 'd'];refine q8 (qZ ?_);exact qf ⟨_,rfl,qf h⟩
end
end HT
namespace L2
open PySem PySem.Spec PyProof.Rows
section
variable {X:Cx}
def oE(K:xh):V->Option Int->Option Int->Hp->VK->Prop:=λx lo hi H Q=>∃a xs,x=.ref a/\SqT K H a xs /\
 ((HT.sIx 'h' 0 lo=0/\HT.sIx 'h' 'h' hi='h')->Q (.ref a) H)/\(¬(HT.sIx 'h' 0 lo=0/\HT.sIx 'h' 'h' hi='h')->∀p,H p=none->Q (.ref p) (upd H p (.tup (JB xs lo hi))))
def oF(K:xh)(hK:X.K=K):SlR X (oE K):=by
 subst hK;intro xt s σ H x v vl vu lo hi sl Q I rx hs pl pu h;obtain⟨a,xs,rfl,hx,q1,q2⟩:=h
 by_cases hw:HT.sIx 'h' 0 lo=0/\HT.sIx 'h' 'h' hi='h'
 . cases rx
   obtain⟨its,r,ht,hz⟩:=I.tuple hx;have xx:its.toArray.size='h':=by rw[jK];exact r.length.symm
   exact⟨"tuple",_,PyProof.Rows.slot_tuple_getitem.lookup,ht.typeIs,HT.getItem_tuple_whole ht hs pl pu (by rw[xx];exact hw) ⟨.ref a,H,I,rfl,q1 hw⟩⟩
 . exact mw xt s σ H (.ref a) v vl vu lo hi sl Q I rx hs pl pu ⟨a,xs,rfl,hx,hw,q2 hw⟩
end
structure Cau (X:Cx) (xt:xg) (σ:St) (H':Hp) (B:Heap) (e C:xS) (od:Option xS) (s:xR):Prop where
 inv:Inv X xt σ H' s
 fly:FlyD B X.stack e (.ref C) od .none s.heap
 out:H' e=none
 new0:X.s₀.heap.get? e=none
 pn:∀p∈X.pn++xt,p.1≠e
 aft:∀h6:Heap,FlyD B X.stack e (.ref C) od .none h6->s.heap.UpToSlots h6->Inv X xt σ H' { s with heap:=h6 }
abbrev TH:=Ends->St->xS->Option xS->Hp->Prop
def PH(X:Cx)(hs:List ExceptHandler)(th:TH):Prop:=∀(xt:xg) (s:xR) (σ:St) (H':Hp) (B:Heap) (e C:xS) (od:Option xS) (D:Ends),Cau X xt σ H' B e C od s->th D σ C od H' ->
 wpAny (model X.prog X.w) X.A (handleBy (.ref e) X.env hs) (SP X xt D) X.xe s
section
variable {X:Cx}{y n:Str}{CH:xS}{np hpos:Pos}{b0:Stmt}{suite:List Stmt}{xy:List ExceptHandler}{ts:TS}{tr:TH}{i:Nat}
def zN:PH X [] (λ_ _ _ _ _=>False):=λ_ _ _ _ _ _ _ _ _ _ h=>h.elim
def zO(K:xh)(CH:xS)(i:Nat)(ts:TS)(tr:TH):TH:=λD σ C od H'=>(PySem.W.exmOne K (.ref C) (.ref CH)=some true/\∀e,H' e=none->ts (o8 i D) (σ.set i (some (.ref e))) (upd H' e (Xe C e od))) \/
 (PySem.W.exmOne K (.ref C) (.ref CH)=some false/\tr D σ C od H')
def zP(hN:X.N.Nodup)(hi:X.N[i]?=some n)(hn:X.env.scope.names.lookup n=some .local)(hg:Gl X y)(hm:X.mg y=some (.ref CH))(hs:∀e,PSs (X.caught e) (b0::suite) ts)(hr:PH X xy tr)(hd:(y==("__debug__" : Str))=false:=by decide) :
 PH X (.ExceptHandler (some (.Name y np)) (some n) (b0::suite) hpos::xy) (zO X.K CH i ts tr):=by
 intro xt s σ H' B e C od D c h;have I5:=c.inv.caught e;obtain⟨ws5,sl5,hob⟩:=c.fly.at_e;have LT:PySem.W.Looks (model X.prog X.w) s.heap (typeOf (.ref e)) (.ref C):=(PySem.W.Looks.ld hob).andThen .now;refine wpAny_handleBy_cons (codeAny_handlers_test (Xu (X:=X.caught e) I5 hg hm ?_ hd)) (by intro q;cases q);rcases h with ⟨hex,hread⟩|⟨hex,hrest⟩
 . refine(PySem.W.exm_one I5.kIn LT hex).here ?_;refine codeAny_handlers_suite_as ?_;refine aV (s:=s) c.fly λh6 fl6 sm6=>?_;have J:=c.aft h6 fl6 sm6;obtain⟨w6,sl6,ho6⟩:=fl6.at_e
   have hL:e≠X.env.locals:=λz=>by
    obtain⟨m,⟨ol,es,ep,hol,hdl,_⟩,_⟩:=J.loc;have hol':h6.get? e=some ol:=z ▸ hol;rw[ho6]at hol';cases hol'
    cases hdl
   have hcl:∀x c,X.env.cells.lookup x=some c->c≠e:=λx c q z=>by
    obtain⟨v,oc,hoc,hdc⟩:=J.cell x c q;have hoc':h6.get? e=some oc:=z ▸ hoc;rw[ho6]at hoc';cases hoc'
    cases hdc
   have I6:=(J.track (o:=Xe C e od) c.out c.new0 hL hcl c.pn (zF ⟨_,ho6,rfl,rfl,w6,rfl⟩)).caught e;refine Y3 (X:=X.caught e) (v := .ref e) I6 hN hi (.inl hn) rfl (λs7 I7=>?_) (.inr hn);refine qq (hs e xt s7 _ _ (o8 i D) I7 (hread e c.out)) (λf s8 h8=>?_) (λ_ _ z=>z.elim);show wpAny _ X.A (do bindName X.env n .none;unbindBehindTheSuite X.env n hpos) (λ_ s9=>SP X xt D f s9) X.xe s8
   have go:∀{σ':St}{xw:Hp},Inv (X.caught e) xt σ' xw s8->(∀s9,Inv X xt (σ'.set i none) xw s9->SP X xt D f s9)->wpAny (model X.prog X.w) X.A (do bindName X.env n .none;unbindBehindTheSuite X.env n hpos) (λ_ s9=>SP X xt D f s9) X.xe s8:=fun {σ' xw} I8 k=>by
    have I8':=I8.uncaught c.inv.ok;obtain⟨m,hnm,hl⟩:=I8'.loc;exact wpAny_nameGoes_keeps hn hnm (by rw[c.inv.ok.kind];rfl) λh' v q1 q2=>k _ (I8'.gone hN hi hl hnm q1 q2)
   cases f with
   |next=>obtain⟨σ',xw,I8,q⟩:=h8;exact go I8 λs9 I9=>⟨_,xw,I9,q⟩
   |brk=>obtain⟨σ',xw,I8,q⟩:=h8;exact go I8 λs9 I9=>⟨_,xw,I9,q⟩
   |cont=>obtain⟨σ',xw,I8,q⟩:=h8;exact go I8 λs9 I9=>⟨_,xw,I9,q⟩
   |ret z=>obtain⟨v,σ',xw,I8,r,q⟩:=h8;exact go I8 λs9 I9=>⟨v,_,xw,I9,r,q⟩
 . refine(PySem.W.exm_one I5.kIn LT hex).here ?_;dsimp only;show wpAny _ X.A (handleBy (.ref e) X.env _) _ _ s;exact hr xt s σ H' B e C od D c hrest
def zQ(K:xh)(CH:xS)(ts:TS)(tr:TH):TH:=λD σ C od H'=>(PySem.W.exmOne K (.ref C) (.ref CH)=some true/\ts D σ H')\/(PySem.W.exmOne K (.ref C) (.ref CH)=some false/\tr D σ C od H')
def zR(hg:Gl X y)(hm:X.mg y=some (.ref CH))(hs:∀e,PSs (X.caught e) (b0::suite) ts)(hr:PH X xy tr)(hd:(y==("__debug__" : Str))=false:=by decide) :
 PH X (.ExceptHandler (some (.Name y np)) none (b0::suite) hpos::xy) (zQ X.K CH ts tr):=by
 intro xt s σ H' B e C od D c h;have I5:=c.inv.caught e;obtain⟨ws5,sl5,hob⟩:=c.fly.at_e;have LT:PySem.W.Looks (model X.prog X.w) s.heap (typeOf (.ref e)) (.ref C):=(PySem.W.Looks.ld hob).andThen .now;refine wpAny_handleBy_cons (codeAny_handlers_test (Xu (X:=X.caught e) I5 hg hm ?_ hd)) (by intro q;cases q);rcases h with ⟨hex,hread⟩|⟨hex,hrest⟩
 . refine(PySem.W.exm_one I5.kIn LT hex).here ?_;refine codeAny_handlers_suite ?_;refine aV (s:=s) c.fly λh6 fl6 sm6=>?_;exact wpAny_noRaise (thn (hs e xt _ σ H' D ((c.aft h6 fl6 sm6).caught e) hread) λf s7 h7=>h7.uncaught c.inv.ok)
 . refine(PySem.W.exm_one I5.kIn LT hex).here ?_;dsimp only;show wpAny _ X.A (handleBy (.ref e) X.env _) _ _ s;exact hr xt s σ H' B e C od D c hrest
variable {c1 c2 c3:Str}{C1 C2 C3:xS}{q1 q2 q3 tq:Pos}{kk:Nat}{body1:List Stmt}{nm1:Option Str}
end
abbrev XS:=St->XK
abbrev TX:=Ends->XS->St->Hp->Prop
abbrev TEX:=St->Hp->VK->XK->Prop
def Rz(X:Cx)(xt:xg)(E:XS)(ev:xQ)(s':xR):Prop:=∃σ' H1 s1,Inv X xt σ' H1 s1/\CXD X.prog X.w X.stack H1 s1 (E σ') ev s'
def PX(X:Cx)(st:Stmt)(t:TX):Prop:=∀(xt:xg) (s:xR) (σ:St) (H:Hp) (D:Ends) (E:XS),Inv X xt σ H s->t D E σ H->wpAny (model X.prog X.w) X.A (exec st X.env) (SP X xt D) (Rz X xt E) s
def PXs(X:Cx)(sts:List Stmt)(t:TX):Prop:=∀(xt:xg) (s:xR) (σ:St) (H:Hp) (D:Ends) (E:XS),Inv X xt σ H s->t D E σ H->wpAny (model X.prog X.w) X.A (execs sts X.env) (SP X xt D) (Rz X xt E) s
def PEX(X:Cx)(e:Expr)(t:TEX):Prop:=∀(xt:xg) (s:xR) (σ:St) (H:Hp) (Q:VK) (E:XK),Inv X xt σ H s->t σ H Q E->wpAny (model X.prog X.w) X.A (eval e X.env) (EP X xt σ Q) (λev s'=>∃H1 s1,Inv X xt σ H1 s1/\CXD X.prog X.w X.stack H1 s1 E ev s') s
section
variable {X:Cx}{st:Stmt}{sts:List Stmt}{t u:TX}{e:Expr}{te:TEX}{pos:Pos}
def zS(h:PX X st t):PXs X [st] t:=by
 intro xt s σ H D E I q;refine wpAny_execs_cons (thn (h xt s σ H D E I q) λf s1 z=>?_)
 cases f with
 |next=>exact xa z
 |brk=>exact z
 |cont=>exact z
 |ret _=>exact z
def zT(te:TEX):TX:=λD E σ H=>te σ H (λ_ H1=>D.nx σ H1) (E σ)
def zU(h:PEX X e te)(hsw:swapsWith e none pos.line X.env=pure false:=by rfl):PX X (.Expr e pos) (zT te):=by
 intro xt s σ H D E I q;exact wpAny_Expr_any (qq (h xt s σ H _ _ I q) (λv s1 ⟨z,H1,I1,r1,q1⟩=>⟨σ,H1,I1,q1⟩) λev s' ⟨H1,s1,I1,q1⟩=>⟨σ,H1,s1,I1,q1⟩) I.quiet hsw
end
section
variable {X:Cx}{k j:Nat}{ps:xp}{sp:Sp}{x:Str}{p pos:Pos}{e:Expr}{es:List Expr}{t:TA}{d:V}
def zV(sp:Sp)(dvs:List V)(t:TA):TEX:=λσ H Q E=>t σ H λvs H1=>sp (vs++dvs) H1 Q E
def zW(D:DefD X.prog X.w X.K X.mg X.base x j ps d sp)(hr:Room k X.A)(hg:Gl X x)(ha:PA X.nox (e::es) t)(hjk:j<=k:=by decide)(hdb:(x==("__debug__" : Str))=false:=by decide)
 (he:starEach (e::es) X.env=(false,eval e X.env)::starEach es X.env:=by rfl) (hpl:(backTo pos (starEach es X.env)).any (·.1)=false:=by rfl) :
 PEX X (.Call (.Name x p) (e::es) [] pos) (zV sp [d] t):=by
 intro xt s σ H Q E I h;obtain⟨f,fd,dv,F,hb,rd,kp,m⟩:=D.ex;refine qI (Xu I hg m ?_ hdb);refine PySem.W.callWith_K (h₀:=X.base) I.ok.mod.kin kp (qq (ha pos xt s σ H _ (I.wish _) h) (λus s1 pc=>?_) λ_ _ z=>z.elim) he hpl;obtain⟨vs,H1,I1,r,q⟩:=pc;refine ⟨I1.unwish.kIn,?_⟩;have I2:=I1.unwish;have r2:Vals (vs++[d]) (us++[dv]):=r.append (.cons rd .nil);have hl:(us++[dv]).length=ps.length:=by rw[<- r2.length];exact F.len _ _ _ _ q
 refine wpAny_call (codeAny_mono (F.run X.A X.stack s1 H1 ⟨us,[]⟩ (us++[dv]) (vs++[d]) Q E (hr.mono hjk) I2.env0 (hb s1 us I2.kIn hl) r2 q) λr s' hq=>?_)
 cases r with
 |error ev=>exact⟨H1,s1,I2,hq⟩
 |ok fl =>
  cases fl with
  |ret u=>exact I2.after hq
  |next=>exact False.elim hq
  |brk=>exact False.elim hq
  |cont=>exact False.elim hq
end
section
variable {X:Cx}{body:List Stmt}{h0:ExceptHandler}{hs:List ExceptHandler}{tb:TX}{th:TH}{tpos:Pos}
def zX(tb:TX)(th:TH):TS:=λD σ H=>tb D (λσ' c od H2=>∃C,c=.ref C/\th D σ' C od H2) σ H
def zY(hst:X.stack=X.env::X.outer)(hfr:X.env.frame=some X.env.locals)(hxe:X.ex=[])(hb:PXs X body tb)(hh:PH X (h0::hs) th):PS X (.Try body (h0::hs) [] [] tpos) (zX tb th):=by
 intro xt s σ H D I h;refine wpAny_Try_except (qq (hb xt s σ H D _ I h) (λf s1 z=>?_) λev s' z=>?_)
 . cases f with
   |next=>exact xa z
   |brk=>exact z
   |cont=>exact z
   |ret _=>exact z
 obtain⟨σ',H1,s1,I,e,C,od,B,H',rfl,hos,hga,u,hok,fl,hB,he,C',ec,hread⟩:=z
 cases ec
 have I0:=I.call' (s':=s') (ch:=[]) hos u hok hga (λ_ z=>nomatch z)
 have after:∀{h6:Heap},FlyD B X.stack e (.ref C) od .none h6->s'.heap.UpToSlots h6->Inv X xt σ' H' { s' with heap:=h6 }:=fun {h6} f6 sm =>
  I.call' (s':={ s' with heap:=h6 }) (ch:=[]) hos (Un.fly u hB f6.1 (λb hb ob q=>by
   obtain⟨_,o',ho',hnf⟩:=fl.2.2.1.mem hb;rw[q]at ho';cases ho';exact sm b ob q hnf)) (HOk.fly hok (λb ob q c=>hB b ob q (.inl c) (I0.noFr c)) f6.1) hga (λ_ z=>nomatch z)
 obtain⟨ws,sl0,hoe⟩:=fl.at_e
 have nfr:e∉frs X.stack:=λz=>by
  obtain⟨_,o',ho',hnf⟩:=fl.2.2.1.mem z;rw[hoe]at ho';cases ho';exact hnf ws rfl
 have new1:s1.heap.get? e=none:=by
  cases q:s1.heap.get? e with
  |none=>rfl
  |some o1 =>
   have:=hB e _ hoe (.inr (by rw[q];rfl)) nfr;rw[fl.2.1]at this;cases this
 have new0:X.s₀.heap.get? e=none:=by
  cases q:X.s₀.heap.get? e with
  |none=>rfl
  |some o1 =>
   obtain⟨o2,z⟩:=I.base.there e o1 q (by rw[hxe];exact λz=>nomatch z);rw[new1]at z;cases z
 have hpn:∀p∈X.pn++xt,p.1≠e:=λp hp z=>by
  have:=(I.pin p hp).1;rw[z,new1]at this;cases this
 refine on (hst ▸ I.ok.frames) hfr (hst ▸ fl) λh4 held sm4=>?_;refine aV (s:={ s' with heap:=h4 }) held λh5 fl5 sm5=>?_;rw[<- hst]at fl5;have sm:=sm4.trans sm5;exact hh xt { s' with heap:=h5 } σ' H' B e C od D ⟨after fl5 sm,fl5,he,new0,hpn,λh6 f6 sm6=>after f6 (sm.trans sm6)⟩ hread
end
section
variable {X:Cx}{a b c d:Expr}{ta tb tc td:TE}{pos:Pos}{x1:_}
def oG:PE X (.Tuple [] x1 pos) (Zm JA):=Jq xY
def zZ(ha:PE X a ta)(h1:Pl X a []):PE X (.Tuple [a] x1 pos) (Zm (JF ta JA)):=Jq (Jb ha xY h1)
end
def fV(t:TA):TE:=λσ H Q=>t σ H λxs H1=>'h'<=sizeLine/\∀p o,H1 p=none->o.dict=none->Q (.ref p) (upd H1 p (.frz o (.tup xs)))
section
variable {X:Cx}{a b c d:Expr}{ta tb tc td:TE}{pos:Pos}{x1:_}
def oH(h:PA X es t):PE X (.Tuple es x1 pos) (fV t):=by
 intro xt s σ H Q I hq;refine wpAny_Tuple_spliced (thn (h pos xt s σ H _ I hq) λus s1 pc=>?_);obtain⟨xs,H1,I1,r,z,q⟩:=pc;refine ⟨by rw[<- r.length];exact z,?_⟩;have hf:H1 s1.heap.objs.size=none:=I1.hok.fresh (jE _);refine⟨.ref s1.heap.objs.size,upd H1 s1.heap.objs.size (.frz { cls := .type "tuple",data := .seq us.toArray } (.tup xs)),I1.laid (t':=s1.toks) (λb u e=>jC _ e) (jE _) ?_,rfl,q _ _ hf rfl⟩;exact⟨jH _ rfl,z,us,r,IsTup.new _ _⟩
def Yq:PE X (.Tuple [] x1 pos) (fV JA):=oH xY
def A0(ha:PE X a ta)(h1:Pl X a []):PE X (.Tuple [a] x1 pos) (fV (JF ta JA)):=oH (Jb ha xY h1)
end
section
variable {H0:Hp}{σ:St}{te:TE}{i n m:Nat}{sep:Str}{ts:xp}
theorem oJ{K:xh}{H:Hp}:∀{ns:xp}{ys:List V},IsDs K H (ns.map D.str) ys->ys=ns.map V.str
 | [],_,h=>h
 |_::ns,_,⟨x,r,e1,e2,e3⟩=>by
  have e2:x=.str _:=e2;have e3:=oJ (ns:=ns) e3;rw[e1,e2,e3];rfl
end
section
variable {X:Cx}
def A1:V->List V->Hp->VK->Prop:=λx vs H Q=>∃l b xs zs,x=.ref l/\vs=[.ref b]/\H l=some (.lst xs)/\Rd H b (.lst zs)/\'h'+zs.length<=sizeLine/\Q .non (upd H l (.lst (xs++zs)))
def A2:MtM X "list.extend" A1:=by
 intro xt s σ H x vs v us Q I rx rv h;obtain⟨l,b,xs,zs,rfl,rfl,hH,hB,hz,q⟩:=h
 cases rx
 obtain⟨u,rfl,ru⟩:=rv.one
 cases ru
 obtain⟨z,its,n,r,hl,e⟩:=I.lstM hH;obtain⟨z2,its2,n2,r2,e2⟩:=hB.ok I.hok;have hl2:=r2.length;have hsz:its.toArray.size+its2.toArray.size<=sizeLine:=by rw[jK,jK];omega
 have hlong:¬(!its.toArray.isEmpty&&Builtin.List.listTooLong (its.toArray.size+its2.toArray.size))=true:=by
  rw[wd hsz,Bool.and_false];exact jR
 refine call_meets F.slot_list_extend ⟨_,e,rfl⟩ F.entry_list_extend (F.args_list_extend_2 _ _)
  (AutoSeq1.list_extend_list_list_0 l its.toArray n b its2.toArray n2 hlong (by rw[jK];omega) 'c') ⟨e,e2,?_⟩
 refine⟨.non,_,I.lset (its':=its++its2) hH e 'f' (r.append r2) ?_,rfl,q⟩;rw[jU];omega
end
end L2
namespace L2
open PySem
section
variable {prog:xT}{w:xU}{J:Type} [DecidableEq J] {knd:HeapKind prog w J}{A:xV}{E:xc}{s:xR}
def A3(knd:HeapKind prog w J)(d:xS)(hd:(d==sysModules)=false):MeetsIn prog w (Builtin.«dict.__len__» ⟨[.ref d],[]⟩) (λ_ R s=>∃xs,s.heap.DictOfH knd d xs/\R (.ok (.ret (.int 'h' s.toks))) { s with toks:=s.toks+1 }) :=
 .of_wp λA R s h=>by
  obtain⟨xs,⟨o,es,ep,ho,_,xA,he,_,_⟩,q⟩:=h;have e:=size_of_entries (knd:=knd) he;show wpAny _ _ (dictSize d >>= _) _ _ s;unfold dictSize;refine q8 (q8 (qM ho xA (qf ?_)));show wpAny _ _ (Builtin.Dict.pendingCount d >>= _) _ _ s;refine q8 (wpAny_pendingCount_other hd (wpAny_ret_mkInt ?_));rw[e];exact q
def oK(hd:(d==sysModules)=false)(hm:s.heap.DictOfH knd d xs)(hf:('h':Int)<2 ^ 63)(h:Q (.int 'h' (s.toks+1)) { s with toks:=s.toks+1+1 }):wpAny (model prog w) A (call (.builtin "len") [.ref d]) Q E s:=by
 refine Calls.call_function_entry kind_len plain_len entry_len (args_len1 _) ?_;unfold Builtin.«len»;refine q8 (m:=oneArg "len" _) (qf ?_);refine q8 (m:=callSpecial? (.ref d) (Str.ofString "__len__")) (qD (name:=Str.ofString "__len__") hm.typeIs PySem.F.slot_dict_len (call_meetsIn PySem.F.slot_dict_len hm.typeIs PySem.F.entry_dict_len (PySem.F.args_dict_len_1 _) (A3 knd d hd) ⟨xs,hm,?_⟩));show wpAny _ _ _ _ _ { s with toks:=s.toks+1 };refine q8 (qF (qf (q8 (wpAny_letGo ?_))));have n1:¬(('h':Nat):Int)<0:=by omega
 have n2:¬(('h':Nat):Int) ≥ 2 ^ 63:=by omega
 show wpAny _ _ (if (('h':Nat):Int)<0 then _ else _) _ _ _;rw[qg n1];show wpAny _ _ (if (('h':Nat):Int) ≥ 2 ^ 63 then _ else _) _ _ _;rw[qg n2];exact q8 (wpAny_mkInt (qf ⟨_,rfl,h⟩))
end
section
variable {X:Cx}
def A4:CallR X (.builtin "len") (λxs H Q=>∃a kvs,xs=[V.ref a]/\H a=some (.dT kvs)/\Q (.int kvs.length) H):=λxt s σ H xs us Q I r ⟨a,kvs,e,ha,q⟩=>by
 subst e;obtain⟨u,rfl,ru⟩:=Qc r
 cases ru
 obtain⟨z,hd,vs,rel,dd⟩:=mL I.hok ha;have el:vs.length=kvs.length:=rel.length.symm;refine oK hd dd (by rw[qH]at z;omega) ⟨.int _,H,I.tok _,⟨_,by rw[el]⟩,q⟩
end
end L2
namespace L2
open PySem PySem.Spec PyProof.Rows
structure ClsM (K:xh) (C:xS) (m:Str) (f:xS):Prop where
 sg:PySem.W.specialIn K (.ref C) "__getattribute__" = some (some (.builtin "type.__getattribute__"))
 rd:PySem.W.readsIn K C (.type "type")=true
 fc:PySem.W.findCls K (.ref C) (.type "type") m=some (.val (.ref f))
 kp:PySem.W.keepIn K (.ref f)=true
structure CFn (K:xh) (mg:xf) (x:Str) (C:xS) (m qual:Str) (st:Stmt) (ps:xp):Prop where
 nm:mg x=some (.ref C)
 ex:∃f fd,Fun K m qual st f fd/\ClsM K C m f/\Binds K fd ps []
structure DefC (P:xT) (w:xU) (K:xh) (mg:xf) (base:Heap) (x:Str) (C:xS) (m:Str) (k:Nat) (ps:xp) (sp:Sp):Prop where
 nm:mg x=some (.ref C)
 ex:∃f fd,ClsM K C m f/\FnOk P w K mg base (CXD P w) k f fd ps sp/\Binds K fd ps []
theorem CFn.ok3{P:xT}{w:xU}{K:xh}{mg:xf}{base:Heap}{x:Str}{C:xS}{m qual:Str}{st:Stmt}{N ps:xp}{k:Nat}{sp:Sp}(F:CFn K mg x C m qual st ps)(S:FnScope N ps (defScope st))(len:∀vs H Q E,sp vs H Q E->vs.length=ps.length)
 (xB:∀(f:xS) (xu:xQ) (A:xV) (outer:List Env) (s:xR) (H:Hp) (vs:List V) (Q:VK) (E:XK),Room k (A.deeper (envOfC qual (defScope st) 'g' f xu))->sp vs H Q E ->
  ∃t,PSs (cxI P w K mg base N qual (defScope st) f xu A outer s H E) (defBody st) t/\t { nx:=λ_ H'=>Q .non H',rt:=Q } (JD N vs) H):DefC P w K mg base x C m (k+1) ps sp:=by
 obtain⟨f,fd,FF,M,b⟩:=F.ex;exact⟨F.nm,f,fd,M,FF.ok3 S len (xB f),b⟩
section
variable {X:Cx}{C:xS}{k j:Nat}{ps:xp}{sp:Sp}{E:XK}{m x:Str}{apos pos p:Pos}{e:Expr}{es:List Expr}{t:TA}
def A5{pl:Sem Bool}(D:DefC X.prog X.w X.K X.mg X.base x C m j ps sp)(hr:Room k X.A)(hg:Gl X x)(hx:QC (CXD X.prog X.w) X E)(ha:PA X (e::es) t)(hjk:j<=k:=by decide)(hdb:(x==("__debug__" : Str))=false:=by decide)
 (hst:starEach (e::es) X.env=(false,eval e X.env)::starEach es X.env:=by rfl) (hpl:(backTo pos (starEach es X.env)).any (·.1)=false:=by rfl)
 (ht:eval (.Call (.Attribute (.Name x p) m apos) (e::es) [] pos) X.env=(do
  let ov <- eval (.Name x p) X.env
  standAt apos.atName
  let (f,first) <- holding [ov] (getMethod ov m pl)
  callWith pos f first (backTo pos (starEach (e::es) X.env)) (backToKw pos (keywordEach [] X.env))):=by rfl):PE X (.Call (.Attribute (.Name x p) m apos) (e::es) [] pos) (Zn sp [] E t):=by
 obtain⟨f,fd,M,F,b⟩:=D.ex;intro xt s σ H Q I h;refine PySem.W.methodCall_KW (pl:=pl) (Xu I hg D.nm ?_ hdb) ht;refine PySem.W.method_cls I.kIn M.sg (PySem.W.cls_value I.kIn M.rd M.fc rfl ?_);have I':=I.tok (s.toks+1);refine PySem.W.callWith_K (first:=[]) (h₀:=X.base) I.ok.mod.kin M.kp (thn (ha pos xt _ σ H _ I' h) λus s2 pc=>?_) hst hpl;obtain⟨vs,H2,I2,r,q2⟩:=pc;refine ⟨I2.kIn,?_⟩;exact eM F (hr.mono hjk) b .nil hx I2 r q2
end
end L2
namespace L2
open PySem PySem.W PySem.Spec PyProof.Rows
section
variable {X:Cx}{xt:xg}{σ:St}{H:Hp}{s:xR}{a:xS}{kvs:List (List Key×V)}
theorem Inv.freezeT(I:Inv X xt σ H s)(e:H a=some (.dT kvs)):∃o,'i' a=some o/\Inv X xt σ (upd H a (.frz o (.dT kvs))) s:=by
 have ok:=(show ObjOk X.prog X.w H s.heap a (.dT kvs) from I.hok a _ e);obtain⟨z1,hd,xs,kt,o,es,ep,ho,r⟩:=id ok;refine⟨o,ho,?_⟩;refine I.write (x:=a) (e:=a) (o := .frz o (.dT kvs)) (h':=s.heap) (t':=s.toks) (by rw[e];exact True.intro) (.inl rfl) (λb u _ q=>q) ⟨o,ho⟩ ⟨ho,?_⟩;exact ok.stay (λ_ _ _ q=>q) (λb q=>by rw[xZ (λz=>by rw[z,e]at q;cases q)];exact q) λb ys q=>by rw[xZ (λz=>by rw[z,e]at q;cases q)];exact q
def Inv.thawT(I:Inv X xt σ H s)(e:H a=some (.frz o (.dT kvs)))(n0:∀o u,X.H₀ a≠some (.frz o u)):Inv X xt σ (upd H a (.dT kvs)) s:=by
 have ne:∀b,H b=none->b≠a:=λb hb z=>by rw[z,e]at hb;cases hb
 have st:∀{b:xS}{u:HO},ObjOk X.prog X.w H s.heap b u->ObjOk X.prog X.w (upd H a (.dT kvs)) s.heap b u:=λok=>ok.stay (λ_ _ _ q=>q) (λc r=>by rw[xZ (λz=>by rw[z,e]at r;cases r)];exact r) λc xs r=>by rw[xZ (λz=>by rw[z,e]at r;cases r)];exact r
 refine⟨I.ok,I.os,I.bare,⟨I.base.keep,I.base.slot,λb ob q n hx=>?_,I.base.there,λb xs q=>?_,λb ob u q=>?_,λb ps q=>?_⟩,I.loc,I.cell,?_,λx c ec=>?_,λp hp=>?_,λb u q=>?_,I.len⟩
 . have:=I.base.free b ob q n hx;rw[xZ (ne b this)];exact this
 . have:=I.base.tups b xs q;rw[xZ (λz=>by rw[z,e]at this;cases this)];exact this
 . have:=I.base.frzs b ob u q;rw[xZ (λz:b=a=>n0 ob u (by rw[<- z];exact q))];exact this
 . obtain⟨m,h1⟩:=I.base.tbls b ps q;exact⟨m,by rw[xZ (λz=>by rw[z,e]at h1;cases h1)];exact h1⟩
 . rw[xZ (ne _ I.free)];exact I.free
 . rw[xZ (ne _ (I.freeC x c ec))];exact I.freeC x c ec
 . obtain⟨h1,h2,h3⟩:=I.pin p hp;exact⟨h1,by rw[xZ (ne _ h2)];exact h2,h3⟩
 . by_cases hb:b=a
   . subst hb;rw[J1]at q
     cases q
     exact st (I.hok b _ e).2
   . rw[xZ hb]at q;exact st (I.hok b u q)
def Inv.turnNew1{h':Heap}{t':Nat}{it c:xS}{o:HO}(I:Inv X xt σ H s)(f:FpOk X xt H it)(k:∀b u,b≠it->'i' b=some u->h'.get? b=some u)(hp:'g'<=c)
 (new:ObjOk X.prog X.w (upd H c o) h' c o):Inv X xt σ (upd H c o) { s with heap:=h',toks:=t' }:=I.turnNew (e:=it) (it:=it) (λb hb=>(show b=it by simpa using hb) ▸ f) (λb u h1 _ q=>k b u h1 q) hp new
end
def Iti(a:xS)(o:Obj)(kvs:List (List Key×V)):It :=
 ⟨λi H=>H a=some (.frz o (.dT kvs))/\i<kvs.length,λi H x H'=>∃p t kv,H p=none/\x=.ref p/\kvs[i]?=some kv/\H t=some (.tup (kv.1.map kV))/\H'=upd H p (.tup [.ref t,kv.2]),λi H=>H a=some (.frz o (.dT kvs))/\kvs.length<=i⟩
def oM(x:ObjOk P w H h a (.frz o (.dT kvs)))(hd:o.data=.dict es ep) :
 h.get? a=some o/\es.size=kvs.length/\∀(i:Nat) (hi:i<es.size) (kv:List Key×V),kvs[i]?=some kv->∃t,es[i].key=.ref t/\H t=some (.tup (kv.1.map kV))/\RelV kv.2 es[i].val:=by
 obtain⟨ho,z1,_,xs,rel,o2,es2,ep2,h1,h2,h3,he,nd⟩:=x;rw[ho]at h1;cases h1;rw[hd]at h3;cases h3;have hl:es.size=kvs.length:=by rw[rel.length,size_of_entries he]
 refine⟨ho,hl,λi hi kv e=>?_⟩;obtain⟨q,hq,e1,e2,e3⟩:=X3 rel e;have en:es[i]?=some (entryOfKey (tupleKind (Jl P w)) q):=by rw[entry_at he,hq];rfl
 rw[jl hi]at en;rw[Option.some.inj en];exact⟨q.2.1,rfl,e2,e3⟩
theorem A6{P:xT}{w:xU}{K:xh}{elts:List Expr}{x1}{pos:Pos}{a it:xS}{o:Obj}{kvs:List (List Key×V)}{es:Array DictEntry}{ep:Nat}(xA:o.data=.dict es ep) :
 Turn P w K (.Tuple elts x1 pos) (Iti a o kvs) [it] it (λi h=>(∃u v,IsItemIter h it a i es.size ep u v)/\i<=es.size) where
 mem:=by simp
 obj:=λi h st b hb=>by
  have e:b=it:=by simpa using hb
  subst e;obtain⟨⟨u,v,e⟩,_⟩:=st;exact⟨_,e,λv z=>by cases z⟩
 keep:=λi h h' st k=>by
  obtain⟨⟨u,v,e⟩,le⟩:=st;exact⟨⟨u,v,k it 'f' _ e⟩,le⟩
 item:=by
  intro X hP hw hK hc i xt s σ H E I hf st hg;subst hP hw hK;obtain⟨⟨u,v,st⟩,le⟩:=st;obtain⟨e,hi⟩:=hg;obtain⟨ho,hl,hrel⟩:=oM (I.hok a _ e) xA;have hi':i<es.size:=by omega
  have f0:=hf it 'f';have ek:kvs[i]?=some kvs[i]:=jB hi;obtain⟨t,k1,k2,k3⟩:=hrel i hi' _ ek;refine nq ⟨_,_,_,_,st,.inl ⟨rfl,rfl⟩⟩ ⟨o,ho,xA⟩ hi' λg _ tup sz kp out=>⟨_,rfl,wpAny_letOwnedTupleGo_items (out _ _ st) λh2 he2 hs2=>?_⟩;have hs2:Heap.SameBut it g h2:=hs2;have low:it<'g':=jI st;have tup2:=hs2.extBut _ _ (jo low) tup;have xP:∀b ob,b≠it->'i' b=some ob->h2.get? b=some ob:=λb ob hb q=>hs2.extBut b ob hb (kp b ob hb q);have fr:H 'g'=none:=I.hok.fresh (jE _)
  have I2:Inv X xt σ (upd H 'g' (.tup [.ref t,kvs[i].2])) { s with heap:=h2,toks:=s.toks }:=by
   refine I.turnNew1 f0 xP (jE _) ?_;refine⟨by show 2<=sizeLine;decide,[es[i].key,es[i].val],.cons (by rw[k1];rfl) (.cons k3 .nil),?_⟩;exact⟨_,tup2,rfl,_,rfl⟩
  refine⟨.ref 'g',_,I2,rfl,⟨_,t,_,fr,rfl,ek,k2,rfl⟩,⟨⟨_,_,he2⟩,hi'⟩,λb hb=>?_⟩;have eb:b=it:=by simpa using hb
  rw[eb,xZ (jQ low)];exact f0.1
 done:=by
  intro X hP hw hK hc i xt s σ H E I hf st hg;subst hP hw hK;obtain⟨⟨u,v,st⟩,le⟩:=st;obtain⟨e,hi⟩:=hg;obtain⟨ho,hl,hrel⟩:=oM (I.hok a _ e) xA;obtain⟨f0,f1,f2,f3,f4,f5⟩:=hf it 'f';obtain rfl:i=es.size:=by omega
  exact nw (I.ok.hd hc) ⟨_,_,_,_,st,.inl ⟨rfl,rfl⟩⟩ ⟨o,ho,xA⟩ λh' eb=>⟨rfl,I.turned (t':=s.toks) (λb o hb e=>eb b o hb e) f0 f1 f3 f4 f5⟩
 self:=λ_ _ _ _ _ st h=>by
  obtain⟨⟨u,v,e⟩,_⟩:=st;exact kcp_self e h
section
variable {X:Cx}
def A7(te:TE):TI:=λσ H R=>te σ H λx H1=>∃a kvs,x=.ref a/\H1 a=some (.dT kvs)/\∀o,R (Iti a o kvs) (upd H1 a (.frz o (.dT kvs)))
def oN{elts:List Expr}{x1}{tp:Pos}{td:TE}{ap cp:Pos}(ho:PE X o td)
 (xK:attributeBase o "items" X.env (eval o X.env)=eval o X.env:=by rfl) (xL:(ap.endLine==cp.line)=true:=by rfl):PI X (.Tuple elts x1 tp) (.Call (.Attribute o "items" ap) [] [] cp) (A7 td):=by
 intro xt s σ H R I h;refine x8 xK xL (thn (ho xt s σ H _ I h) λv s1 pc=>?_);obtain⟨x,H1,I1,r1,a,kvs,ex,e1,q1⟩:=pc;subst ex;obtain rfl:v=Value.ref a:=r1;obtain⟨t1,t2,t3⟩:=aC I1 (.inr ⟨_,.inl e1⟩);obtain⟨_,_,xs,kt,o1,es,ep,ho1,hd1,xA,_⟩:=(show ObjOk X.prog X.w H1 s1.heap a (.dT kvs) from I1.hok a _ e1);refine⟨"dict", "dict.items",PySem.F.plainAttrs_dict,PySem.F.slot_dict_items,PySem.F.type_dict_items,t1,t2,Calls.callWith_builtin rfl (PySem.evalArgs_none (aL ho1 hd1 t3 ?_))⟩;obtain⟨o2,ho2,I2⟩:=I1.freezeT e1;rw[ho1]at ho2;cases ho2;obtain⟨g,eg⟩:∃g,g=s1.heap.push { cls := .type "dict_items",data := .fields #[.ref a] }:=⟨_,rfl⟩;rw[<- eg];have kp:∀b u,s1.heap.get? b=some u->g.get? b=some u:=λb u q=>by rw[eg];exact jC _ q
 have I3:=I2.kept (h':=g) (t':=s1.toks) kp;refine ny (s:={ s1 with heap:=g }) (es:=es) (ep:=ep) ⟨_,by rw[eg];exact jH _ rfl,rfl,rfl⟩ ⟨o1,kp _ _ ho1,xA⟩ ?_;refine⟨g.objs.size,[g.objs.size],_,_,upd H1 a (.frz o1 (.dT kvs)),rfl,I3.kept (t':=s1.toks) λb o e=>jC _ e,A6 xA,⟨⟨_,_,jH _ rfl⟩,jT _⟩,λb hb=>?_,q1 o1⟩;have e:b=g.objs.size:=by simpa using hb
 subst e;exact I3.fpOk (jE _) (I3.hok.fresh (jE _))
def A8(t:TS):TS:=λD σ H=>∃a kvs,H a=some (.dT kvs)/\t { D with nx:=λσ' H'=>∃o,H' a=some (.frz o (.dT kvs))/\D.nx σ' (upd H' a (.dT kvs)) } σ H
def oO{st:Stmt}{t:TS}(h:PS X st t):PS X st (A8 t):=by
 intro xt s σ H D I q;obtain⟨a,kvs,e,q⟩:=q
 have n0:∀o u,X.H₀ a≠some (.frz o u):=λo u z=>by
  have:=I.base.frzs a o u z;rw[e]at this;cases this
 refine qq (h xt s σ H _ I q) (λf s' z=>?_) λ_ _ z=>z
 cases f with
 |next =>
  obtain⟨σ',H',I',o,e',q'⟩:=z;exact⟨σ',_,I'.thawT e' n0,q'⟩
 |_=>exact z
end
def oP{o:Obj}{kvs:List (List Key×V)}{g:TG}{tb:TS}{D:Ends}(Pv:Nat->St->Hp->Prop)(h0:Pv 0 σ H)(hl:∀i σ H,i<=kvs.length->Pv i σ H->H a=some (.frz o (.dT kvs)))
 (hs:∀i kv p t σ H,kvs[i]?=some kv->Pv i σ H->H p=none->H t=some (.tup (kv.1.map kV))->g (.ref p) σ (upd H p (.tup [.ref t,kv.2])) λxM H2=>tb { D with nx:=Pv (i+1),ct:=Pv (i+1),bk:=D.nx } xM H2) (hd:∀σ H,Pv kvs.length σ H->D.nx σ H) :
 ∃W:Nat->Nat->St->Hp->Prop,(∃m,W 0 m σ H)/\∀i m σ H,W i m σ H ->
  ((Iti a o kvs).stop i H/\D.nx σ H)\/((Iti a o kvs).go i H/\∃N:St->Hp->Prop,(∀σ' H',N σ' H'->∃m',m'<m/\W (i+1) m' σ' H')/\∀x H',(Iti a o kvs).yld i H x H'->g x σ H' λxM H2=>tb { D with nx:=N,ct:=N,bk:=D.nx } xM H2):=by
 refine⟨λi m σ H=>m=kvs.length - i/\i<=kvs.length/\Pv i σ H,⟨kvs.length,by simp,jT _,h0⟩,?_⟩;rintro i m σ H ⟨rfl,hi,p⟩;have q:=hl i σ H hi p
 by_cases hlt:i<kvs.length
 . refine .inr ⟨⟨q,hlt⟩,Pv (i+1),λσ' H' p'=>⟨kvs.length - (i+1),by omega,rfl,hlt,p'⟩,λx H' y=>?_⟩;obtain⟨pp,t,kv,np,ex,ek,et,eH⟩:=y;subst ex eH;exact hs i kv pp t σ _ ek p np et
 . have e:i=kvs.length:=by omega
   subst e;exact .inl ⟨⟨q,jE _⟩,hd σ H p⟩
end L2
namespace L2
open PySem PySem.Spec PyProof.Rows
section
variable {X:Cx}
def oQ{xs:List V}{lo hi:Option Int}(h:HT.sIx 'h' 0 lo=0/\HT.sIx 'h' 'h' hi='h'):JB xs lo hi=xs:=by
 unfold JB;rw[h.1,h.2,List.drop_zero,Nat.sub_zero,jr]
def A9:V->Option Int->Option Int->Hp->VK->Prop:=λx lo hi H Q=>∃a xs,x=.ref a/\TupZ H a xs/\∀p H',Same H H'->TupZ H' p (JB xs lo hi)->Q (.ref p) H'
def oR:SlR X A9:=by
 intro xt s σ H x v vl vu lo hi sl Q I rx hs pl pu h;obtain⟨a,xs,rfl,hx,q⟩:=h
 cases rx
 obtain⟨its,r,ht,hz⟩:=I.tuple (hx.sq (K:=X.K));have xx:its.toArray.size='h':=by rw[jK];exact r.length.symm
 refine⟨"tuple",_,PyProof.Rows.slot_tuple_getitem.lookup,ht.typeIs,?_⟩
 by_cases hw:HT.sIx 'h' 0 lo=0/\HT.sIx 'h' 'h' hi='h'
 . exact HT.getItem_tuple_whole ht hs pl pu (by rw[xx];exact hw) ⟨.ref a,H,I,rfl,q a H (Same.refl _) (by rw[oQ hw];exact hx)⟩
 . refine HT.getItem_tuple_cut ht hs pl pu (by rw[xx];exact hw) ?_ (by rw[xx];exact hz);rw[xx];have fr:=I.hok.fresh (jE 'g');refine⟨.ref 'g',_,I.laid (t':=s.toks) (o := .frz { cls := .type "tuple",data := .seq ((its.toArray.toList.drop (HT.sIx 'h' 0 lo)).take (HT.sIx 'h' 'h' hi - HT.sIx 'h' 0 lo)).toArray } (.tup (JB xs lo hi))) (λb ob q=>jC _ q) (jE _) ?_,rfl,q _ _ (J6 fr _) ⟨_,J1,rfl⟩⟩;exact⟨jH _ rfl,jg (Yd xs lo hi) hz,_,(r.drop (HT.sIx 'h' 0 lo)).take (HT.sIx 'h' 'h' hi - HT.sIx 'h' 0 lo),IsTup.new _ _⟩
def Aa(t1 t2:TE):TE:=λσ H Q=>t1 σ H Q\/t2 σ H Q
def fX(h1:PE X e t1)(h2:PE X e t2):PE X e (Aa t1 t2):=λxt s σ H Q I h=>h.elim (h1 xt s σ H Q I) (h2 xt s σ H Q I)
end
end L2
namespace L2
open PySem PySem.W PySem.Spec PyProof.Rows PySem.Calls
section
variable {prog:xT}{w:xU}{A:xV}{E:xc}{s:xR}
def Ab(hh:A.handled=none)(view:s.heap.IsItemsView r d)(D:VDc s.heap d es ep)(few:es.size<=sizeLine)
 (k:∀g xH acc c as,(∀b o,'i' b=some o->g.get? b=some o)->g.get? 'g'=some { cls := .type "list",dict:=none,data := .seq acc c,slots:=#[] }->as.length=es.size->VPs es 'g' g as->acc.toList=as.map Value.ref->Q (.ref 'g') { s with heap:=g,toks:=xH }) :
 wpAny (model prog w) A (call (.type "list") [.ref r]) Q E s:=by
 have low:r<'g':=by obtain⟨_,e,_⟩:=view;exact jI e
 have lod:d<'g':=by obtain⟨_,e,_⟩:=D;exact jI e
 obtain⟨g0,eg0⟩:∃g0,g0=s.heap.push { cls := .type "list",data := .seq #[] }:=⟨_,rfl⟩;have xD:g0.get? 'g'=some { cls := .type "list",data := .seq #[] }:=by rw[eg0];exact jH _ rfl
 have kp0:∀b o,'i' b=some o->g0.get? b=some o:=λb o e=>by rw[eg0];exact jC _ e
 have z0:g0.objs.size='g'+1:=by rw[eg0,j8]
 refine callType_codes (Q₁:=λobj s1=>obj=.ref 'g'/\s1={ s with heap:=g0 }) PySem.F.called_list (PySem.F.typeCall_list_1 _) PySem.F.entry_list_init (code_list_new _ ⟨rfl,by rw[eg0]⟩) λobj s1 h1=>?_;obtain⟨e1,e2⟩:=h1;subst e1 e2;refine⟨⟨_,xD,rfl⟩,PySem.F.args_list_init_2 _ _,?_⟩;unfold Builtin.«list.__init__»;refine q8 ?_;unfold Builtin.List.listItems;refine q8 (qK xD rfl (qf (q8 (qU xD rfl (q8 (wpAny_letGo ?_))))));have at1:=jn (Obj.mapSeq λ_=>(#[]:xk)) xD rfl;have kp1:∀b o,b≠'g'->g0.get? b=some o->(g0.update 'g' (Obj.mapSeq λ_=>(#[]:xk))).get? b=some o:=λb o hb e=>(jc _ _ (Ne.symm hb)).trans e;have z1:(g0.update 'g' (Obj.mapSeq λ_=>(#[]:xk))).objs.size='g'+1:=by rw[(Heap.SameBut.update g0 'g' _).1,z0]
 obtain⟨g1,eg1⟩:∃g1,g1=g0.update 'g' (Obj.mapSeq λ_=>(#[]:xk)):=⟨_,rfl⟩;rw[<- eg1]at at1 kp1 z1;dsimp only;rw[<- eg1];have n1:r≠'g':=jQ low;have n2:d≠'g':=jQ lod;refine nB (prog:=prog) (w:=w) (A:=A.in1) (s:={ s with heap:=g1 }) hh (by obtain⟨o,e,x⟩:=view;exact⟨o,kp1 _ _ n1 (kp0 _ _ e),x⟩) (by obtain⟨o,e,x⟩:=D;exact⟨o,kp1 _ _ n2 (kp0 _ _ e),x⟩) 'g' n1.symm n2 .none _ at1 few λg xH acc c as q1 q2 q3 q4 q5=>?_;refine⟨rfl,k g xH acc c as (λb o e=>q1 b o (jQ (jI e)) (kp1 _ _ (jQ (jI e)) (kp0 _ _ e))) q2 q3 ⟨q4.nd,λa ha=>(by have h:g1.objs.size<a:=q4.above a ha;rw[z1]at h;exact Nat.lt_of_succ_lt h),q4.pairs⟩ q5⟩
end
section
variable {X:Cx}{xt:xg}{σ:St}{H:Hp}{s:xR}
def Ac(hc:X.calm=true)(I:Inv X xt σ H s)(e:H a=some (.dT (kz ks)))(view:s.heap.IsItemsView r a)
 (q:∀(H':Hp) (l:xS) (xs:List V),Same H H'->H l=none->H' l=some (.lst xs)->'h'=ks.length->(∀(i:Nat) (x:V) (kv:xr×V),xs[i]?=some x->ks[i]?=some kv->QM H' x kv)->Q (.ref l) H') :
 wpAny (model X.prog X.w) X.A (call (.type "list") [.ref r]) (EP X xt σ Q) X.xe s:=by
 obtain⟨z,_,xs,kt,o,es,ep,ho,hd,xA,hes,nd⟩:=(show ObjOk X.prog X.w H s.heap a (.dT (kz ks)) from I.hok a _ e);have xl:'h'=ks.length:=by rw[<- kt.length,jA]
 have el:es.size=ks.length:=by rw[size_of_entries hes,xl]
 have big:es.size<=sizeLine:=by rw[el];rw[jA]at z;exact z
 refine Ab (show X.A.handled=none from I.ok.hd hc) view ⟨o,ho,xA⟩ big λg tk acc c as kp hl la ps ha=>?_;obtain⟨l,el2⟩:∃l,l='g':=⟨_,rfl⟩;rw[<- el2]at hl ps ⊢;obtain⟨B,eB⟩:∃B:Nat->xS,B=λi=>(xs.getD i ([],0,.none)).2.1:=⟨_,rfl⟩
 have pB:∀i (hi:i<ks.length),∃(u:xQ),H (B i)=some (.tup (ks[i].1.map V.int))/\RelV ks[i].2 u/\as[i]?=some (as.getD i 0)/\g.get? (as.getD i 0)=some { cls := .type "tuple",data := .seq #[.ref (B i),u] }:=λi hi=>by
  have e1:(kz ks)[i]?=some (ks[i].1.map Sum.inl,ks[i].2):=by rw[jD,jB hi];rfl
  obtain⟨⟨k1,b1,u1⟩,e2,e3,e4,e5⟩:=X3 kt e1;have e6:as[i]?=some (as.getD i 0):=by rw[jL,jB 'c'];rfl
  obtain⟨en,f1,f2⟩:=ps.pairs i _ e6;rw[entry_at hes,e2]at f1
  cases f1
  have e7:B i=b1:=by
   rw[eB];show(xs.getD i ([],0,.none)).2.1=b1;rw[jL,e2];rfl
  exact⟨u1,by rw[e7,<- Xy];exact e4,e5,e6,by rw[e7];exact f2⟩
 let L:List (xS×HO):=(List.range ks.length).map (λi=>(as.getD i 0,HO.tup [.ref (B i),(ks.getD i ([],.non)).2]))++[(l,.lst (as.map V.ref))]
 have asl:(List.range ks.length).map (λi=>as.getD i 0)=as:=by
  refine kX (by rw[jA,kP];omega) λi h1 h2=>?_;rw[j9,List.getElem_range,jL,jB h2];rfl
 have Lk:L.map (·.1)=as++[l]:=by
  show(_++_:List (xS×HO)).map (·.1)=as++[l];rw[jh,jb];show(List.range ks.length).map (λi=>as.getD i 0)++[l]=as++[l];rw[asl]
 have Ln:(L.map (·.1)).Nodup:=by
  rw[Lk,kD];refine⟨ps.nd,by simp,λb hb c hc e=>?_⟩;have:=ps.above b hb;rw[jP.mp hc]at e;exact jo this e
 have Lf:∀x∈L,'g'<=x.1:=λx hx=>by
  have:x.1∈as++[l]:=by rw[<- Lk];exact jG.mpr ⟨x,hx,rfl⟩
  rcases je.mp this with h|h
  . rw[<- el2];exact kG (ps.above _ h)
  . rw[jP.mp h,el2];exact jE _
 have fr:∀x∈L,H x.1=none:=λx hx=>I.hok.fresh (Lf x hx);have inP:∀i (hi:i<ks.length),(as.getD i 0,HO.tup [.ref (B i),ks[i].2])∈L:=λi hi=>jw _ (jG.mpr ⟨i,kh.mpr hi,by simp[List.getD,hi]⟩);have inL:(l,HO.lst (as.map V.ref))∈L:=jY _ (jP.mpr rfl);refine⟨.ref l,more H L,I.many (t':=tk) kp (λb u q=>ZA fr q) (λb u q=>?_),rfl,q (more H L) l (as.map V.ref) (λb u q=>ZA fr q) (fr _ inL) (aN Ln inL) (by rw[jA];omega) λj x kv e1 e2=>?_⟩
 . rcases nE q with q | q
   . exact .inl q
   . refine .inr ⟨Lf _ q,?_⟩;rcases je.mp q with q | q
     . obtain⟨i,hi,ei⟩:=jG.mp q;have hi:=kh.mp hi;obtain⟨u',h2,h3,h4,h5⟩:=pB i hi
       cases ei
       exact⟨by show 2<=sizeLine;decide,[.ref (B i),u'],.cons rfl (.cons (by simp[List.getD,hi];exact h3) .nil),_,h5,rfl,_,rfl⟩
     . cases jP.mp q
       refine⟨by rw[jA];omega,acc.toList,c,?_,by simpa using hl⟩;rw[ha];generalize as=al
       induction al with
       |nil=>exact .nil
       |cons i al ih=>exact .cons rfl ih
 . have hj:j < ks.length:=(jF.mp e2).1;obtain⟨u',h2,h3,h4,h5⟩:=pB j hj;rw[jD,h4]at e1;rw[jB hj]at e2
   cases e1;cases e2
   exact⟨_,B j,rfl,aN Ln (inP j hj),ZA fr h2⟩
def Ad(td:TE):TE:=λσ H Q=>td σ H λx H1=>∃a ks,x=.ref a/\H1 a=some (.dT (kz ks)) /\
 ∀(H':Hp) (l:xS) (xs:List V),Same H1 H'->H1 l=none->H' l=some (.lst xs)->'h'=ks.length->(∀(i:Nat) (x:V) (kv:xr×V),xs[i]?=some x->ks[i]?=some kv->QM H' x kv)->Q (.ref l) H'
def Ae{td:TE}{p ap cp pos:Pos}(hc:X.calm=true)(hg:Gl X "list")(hm:X.mg "list" = none)(hv:bootBuiltins "list" = some (.type "list"))(ho:PE X o td)
 (xK:attributeBase o "items" X.env (eval o X.env)=eval o X.env:=by rfl) (xL:(ap.endLine==cp.line)=true:=by rfl):PE X (.Call (.Name "list" p) [.Call (.Attribute o "items" ap) [] [] cp] [] pos) (Ad td):=by
 intro xt s σ H Q I h;refine qI (QR I hg hm hv ?_ 'd' 'd');refine PyProof.Rows.callWith_type1 ?_ rfl rfl;show wpAny _ _ (spliced [(false,eval (.Call (.Attribute o "items" ap) [] [] cp) X.env)]) _ _ s;refine Calls.spliced_cons (x8 xK xL (thn (ho xt s σ H _ I h) λv s1 pc=>?_));obtain⟨x,H1,I1,r1,a,ks,ex,e1,q1⟩:=pc;subst ex;obtain rfl:v=Value.ref a:=r1;obtain⟨t1,t2,t3⟩:=aC I1 (.inr ⟨_,.inl e1⟩);obtain⟨_,_,xs,kt,o1,es,ep,ho1,hd1,_⟩:=(show ObjOk X.prog X.w H1 s1.heap a (.dT (kz ks)) from I1.hok a _ e1);refine⟨"dict", "dict.items",PySem.F.plainAttrs_dict,PySem.F.slot_dict_items,PySem.F.type_dict_items,t1,t2,Calls.callWith_builtin rfl (PySem.evalArgs_none (aL ho1 hd1 t3 ?_))⟩;refine Calls.spliced_nil ?_;have I2:=I1.kept (h':=s1.heap.push { cls := .type "dict_items",data := .fields #[.ref a] }) (t':=s1.toks) λb u q=>jC _ q;exact Ac hc I2 e1 ⟨_,jH _ rfl,rfl,rfl⟩ q1
end
end L2
namespace L2
open PySem PySem.W PySem.Spec PyProof.Rows
section
variable {prog:xT}{w:xU}{A:xV}{E:xc}{s:xR}
def Af(ho:'i' it=some o)(hc:o.cls=.type "tuple")(hd:o.data=.seq items n)(few:items.size<=sizeLine)
 (k:∀g:Heap,(∀b o,'i' b=some o->g.get? b=some o)->'g'<=g.objs.size->R items.toList { s with heap:=g }):wpAny (model prog w) A (collect (.ref it)) R E s:=by
 unfold collect;refine q8 (wpAny_runValue (qL entry_proto_collect' ?_));rw[Around.under_plainId PySem.F.plain_proto_collect _];show wpAny _ A.in1 (newList [] >>= λl=>again (.builtin "list.__iadd__" ⟨[l,.ref it],[]⟩)) _ _ s;refine q8 (qu (qf ⟨qN PySem.F.plain_list_iadd _,qL entry_list_iadd' ?_⟩));rw[Around.under_plainId PySem.F.plain_list_iadd _];obtain⟨g0,eg0⟩:∃g0,g0=s.heap.push { cls := .type "list",data := .seq ([]:xm).toArray }:=⟨_,rfl⟩;have xD:g0.get? 'g'=some { cls := .type "list",data := .seq #[] 0 }:=by rw[eg0];exact jH _ rfl
 have kp0:∀b o,'i' b=some o->g0.get? b=some o:=λb o e=>by rw[eg0];exact jC _ e
 have z0:g0.objs.size='g'+1:=by rw[eg0,j8]
 show wpAny _ A.in1 (Builtin.List.listExtendWith (.ref 'g') (.ref it) (.ref 'g')) _ _ _;rw[<- eg0];obtain⟨g1,eg1⟩:∃g1,g1=g0.update 'g' (Obj.mapSeq (·++items)):=⟨_,rfl⟩;have at1:=jn (Obj.mapSeq (·++items)) xD rfl;rw[<- eg1]at at1;have z1:g1.objs.size='g'+1:=by rw[eg1,(Heap.SameBut.update g0 'g' _).1,z0]
 have fin:∀s',s'={ s with heap:=g1 }->wpAny (model prog w) A (load 'g' >>= λo=>match o.data with
  |Data.seq xs _=>pure xs.toList
  |_=>unsupported "internal:collect") R E s':=by
  intro s' e;subst e;refine q8 (wpAny_load at1 (qf ?_));have e:((#[]:xk)++items).toList=items.toList:=by simp
  show R ((#[]:xk)++items).toList _;rw[e];exact k g1 (λb o hb=>by rw[eg1];exact(jc _ _ (jo (jI hb))).trans (kp0 b o hb)) 'c'
 refine qq (wpAny_extend_seq (hsz:=few) (A:=A) (R:=λr s'=>r=.ok (.ret (.ref 'g'))/\s'={ s with heap:=g1 }) (s:={ s with heap:=g0 }) _ it _ 0 (.inr rfl) xD (kp0 _ _ ho) hc hd ⟨rfl,by rw[eg1]⟩) (λf s' h=>?_) (λe s' h=>?_)
 . cases f with
   |done f =>
    obtain⟨e,e2⟩:=h
    cases e
    exact fin s' e2
   |again c'=>exact⟨h.1,codeAny_mono h.2 λr s'' hr=>by obtain⟨e1,e2⟩:=hr;subst e1;exact fin s'' e2⟩
 . exact absurd h.1 'f'
end
section
variable {X:Cx}{xt:xg}{σ:St}{H:Hp}{s:xR}
def Ag(I:Inv X xt σ H s)(e:SqT X.K H a (ns.map V.str))(nd:ns.Nodup)(few:ns.length<64)
 (q:∀(l:xS) (ss:xp),H l=none->ss.Perm ns->ss.Pairwise ltS->Q (.ref l) (upd H l (.lst (ss.map V.str)))) :
 wpAny (model X.prog X.w) X.A (call (.builtin "sorted") [.ref a]) (EP X xt σ Q) X.xe s:=by
 obtain⟨its,rv,⟨o,ho,hcl,m,hd⟩,hz⟩:=I.tuple e;exact yF I nd few (λE' R hR=>Af ho hcl hd (by rw[jK,<- rv.length];exact hz) λg kp up=>hR g s.toks s.drawn _ ns kp up (.refl _) (by simpa using fq rv)) q
end
section
variable {X:Cx}
def Ah(K:xh)(hK:X.K=K):CallR X (.builtin "sorted") (λvs H Q=>∃(a:xS) (ns:xp),vs=[.ref a]/\SqT K H a (ns.map V.str)/\ns.Nodup/\ns.length<64 /\
 ∀(l:xS) (ss:xp),H l=none->ss.Perm ns->ss.Pairwise ltS->Q (.ref l) (upd H l (.lst (ss.map V.str)))):=by
 subst hK;intro xt s σ H xs us Q I r h;obtain⟨a,ns,rfl,h1,h2,h3,q⟩:=h;obtain⟨u,rfl,rx⟩:=Qc r
 cases rx
 exact Ag I h1 h2 h3 q
end
end L2
namespace L2
open PySem PySem.Spec PyProof.Rows
abbrev KI:=Key ⊕ List Key
abbrev K2:=List KI
def Q3:Key->PyData
 |.inl i => .int i
 |.inr x => .str x
def JL:KI->PyData
 |.inl k=>Q3 k
 |.inr ks => .tuple (ks.map Q3)
def kiH(w:xU):KI->Int×Nat
 |.inl k=>(dQ w k,1)
 |.inr ks=>(reduceHash (Builtin.Tuple.tupleHashOf (ks.map (dQ w))),ks.length+1)
def k2H(w:xU)(k:K2):Int:=reduceHash (Builtin.Tuple.tupleHashOf ((k.map (kiH w)).map (·.1)))
def k2D(w:xU)(k:K2):Nat:=((k.map (kiH w)).map (·.2)).sum+1
def ZC:Key->Bool
 |.inl _=>true
 |.inr x=>PySem.PyData.strOk x
def Yr:KI->Bool
 |.inl k=>ZC k
 |.inr ks=>ks.all ZC
def kiIs(prog:xT)(w:xU)(h:Heap):KI->xQ->Prop
 |.inl k,v=>QA k v=true
 |.inr ks,v=>∃b,v=.ref b/\IsTupleKey (Jl prog w) h ks b
def k2Is(prog:xT)(w:xU)(h:Heap)(k:K2)(a:xS):Prop:=∃o items n,h.get? a=some o/\o.cls=.type "tuple" /\ o.data=.seq items n/\Paired (kiIs prog w h) k items.toList/\k.all Yr=true
section
variable {prog:xT}{w:xU}{h h':Heap}
def oS(e:QA k v=true):Reads h v (Q3 k) []:=by
 rcases Qp e with ⟨i,t,rfl,rfl⟩|⟨x,t,rfl,rfl⟩
 . exact .int _ _
 . exact .str _ _
theorem oU:∀{ks:List Key}{vs:xm},ItemsAre (Jl prog w) ks vs->∃as,ReadsAll h vs (ks.map Q3) as
 |_,_,.nil=>⟨[],.nil⟩
 |_,_,.cons h1 t=>by
  obtain⟨as,r⟩:=oU t;exact⟨_,.cons (oS h1) r⟩
theorem oV:∀{k:K2}{vs:xm},Paired (kiIs prog w h) k vs->∃as,ReadsAll h vs (k.map JL) as
 |_,_,.nil=>⟨[],.nil⟩
 |i::_,_,.cons h1 t=>by
  obtain⟨as,r⟩:=oV t
  cases i with
  |inl k=>exact⟨_,.cons (oS h1) r⟩
  |inr ks =>
   obtain⟨b,rfl,o,its,n,e1,e2,e3,e4⟩:=h1;obtain⟨bs,r2⟩:=oU (h:=h) e4;exact⟨_,.cons (.tuple e1 e2 e3 r2) r⟩
def aW(x:k2Is prog w h k a):∃as,Reads h (.ref a) (.tuple (k.map JL)) as:=by
 obtain⟨o,its,n,h1,h2,h3,r,_⟩:=x;obtain⟨as,r⟩:=oV r;exact⟨_,.tuple h1 h2 h3 r⟩
def oW(h:ZC k=true):(Q3 k).canLay0=true:=by
 cases k with
 |inl i=>rfl
 |inr x=>exact h
theorem oX:∀{ks:List Key},ks.all ZC=true->PyData.canLayAll0 (ks.map Q3)=true
 | [],_=>rfl
 |k::ks,h=>by
  rw[List.all_cons,kH]at h;rw[jM,PyData.canLayAll0,oW h.1,oX h.2];rfl
def Ai(h:Yr k=true):(JL k).canLay0=true:=by
 cases k with
 |inl k=>exact oW h
 |inr ks=>exact oX h
theorem aX:∀{k:K2},k.all Yr=true->PyData.canLayAll0 (k.map JL)=true
 | [],_=>rfl
 |k::ks,h=>by
  rw[List.all_cons,kH]at h;rw[jM,PyData.canLayAll0,Ai h.1,aX h.2];rfl
theorem k2Is.ok(x:k2Is prog w h k a):k.all Yr=true:=by obtain⟨o,its,n,h1,h2,h3,r,ok⟩:=x;exact ok
def oY(k l:Key):PyData.eqv (Q3 k) (Q3 l)=decide (k=l):=by
 cases k<;>cases l<;>simp[Q3,PyData.eqv,ku]
theorem oZ:∀a b:List Key,PyData.eqvAll (a.map Q3) (b.map Q3)=decide (a=b)
 | [],[]=>rfl
 | [],_::_=>by simp[PyData.eqvAll]
 |_::_,[]=>by simp[PyData.eqvAll]
 |x::a,y::b=>by
  rw[jM,jM,PyData.eqvAll,oZ a b,oY]
  by_cases h1:x=y<;>by_cases h2:a=b<;>simp[h1,h2]
def Aj(k l:KI):PyData.eqv (JL k) (JL l)=decide (k=l):=by
 cases k with
 |inl k =>
  cases l with
  |inl l =>
   show PyData.eqv (Q3 k) (Q3 l)=_;rw[oY];simp
  |inr l=>cases k<;>simp[JL,Q3,PyData.eqv]
 |inr k =>
  cases l with
  |inl l=>cases l<;>simp[JL,Q3,PyData.eqv]
  |inr l =>
   show PyData.eqv (.tuple (k.map Q3)) (.tuple (l.map Q3))=_;rw[PyData.eqv,oZ];simp
theorem aY:∀a b:K2,PyData.eqvAll (a.map JL) (b.map JL)=decide (a=b)
 | [],[]=>rfl
 | [],_::_=>by simp[PyData.eqvAll]
 |_::_,[]=>by simp[PyData.eqvAll]
 |x::a,y::b=>by
  rw[jM,jM,PyData.eqvAll,aY a b,Aj]
  by_cases h1:x=y<;>by_cases h2:a=b<;>simp[h1,h2]
def Ak(x:k2Is prog w h k a)(y:k2Is prog w h l a):k=l:=by
 obtain⟨as,r⟩:=aW x;obtain⟨bs,r'⟩:=aW y;have e:PyData.tuple (k.map JL)=.tuple (l.map JL):=SeqAt.Reads.unique _ _ _ _ _ (by exact aX x.ok) r r'
 have e2:PyData.eqvAll (k.map JL) (k.map JL)=PyData.eqvAll (k.map JL) (l.map JL):=by
  rw[PyData.tuple.inj e]
 rw[aY,aY]at e2;exact qm (e2.symm.trans (qi rfl))
theorem pi:∀ks:List Key,PyData.depthAll (ks.map Q3)=0
 | []=>rfl
 |k::ks=>by
  have:=pi ks
  cases k<;>simp[PyData.depthAll,PyData.depth,Q3,this]
theorem pj:∀k:K2,PyData.depthAll (k.map JL)<=1
 | []=>by simp[PyData.depthAll]
 |k::ks=>by
  have:=pj ks
  cases k with
  |inl k=>cases k<;>simp[PyData.depthAll,PyData.depth,JL,Q3,this]
  |inr l=>simp[PyData.depthAll,PyData.depth,JL,pi,this]
theorem kiIs.keeps(ho:h.get? d=some o)(hd:o.data=.dict es ep)(hs:Heap.SameBut d h h'):∀{k:K2}{vs:xm},Paired (kiIs prog w h) k vs->Paired (kiIs prog w h') k vs
 |_,_,.nil => .nil
 |.inl _::_,_,.cons h1 t => .cons h1 (kiIs.keeps ho hd hs t)
 |.inr _::_,_,.cons ⟨b,e,r⟩ t => .cons ⟨b,e,r.keeps ho hd hs⟩ (kiIs.keeps ho hd hs t)
def Am(x:k2Is prog w h k a)(ho:h.get? d=some o)(hd:o.data=.dict es ep)(hs:Heap.SameBut d h h'):k2Is prog w h' k a:=by
 obtain⟨o',its,n,h1,h2,h3,r,ok⟩:=x
 have ne:a≠d:=λz=>by
  subst z;rw[ho]at h1;cases h1;rw[hd]at h3;exact nomatch h3
 exact⟨o',its,n,(hs.2 a ne).trans h1,h2,h3,kiIs.keeps ho hd hs r,ok⟩
end
section
variable {prog:xT}{w:xU}{A:xV}{E:xc}{s:xR}
theorem fY(hu:A.units<cLine):∀{k:K2}{vs:xm},Paired (kiIs prog w h) k vs->Paired (fU prog w A h) vs (k.map (kiH w))
 |_,_,.nil => .nil
 |.inl _::_,_,.cons h1 t => .cons (λE' s' Q' hs' q'=>(Jl prog w).pyHash h1 q') (fY hu t)
 |.inr ks::_,_,.cons h1 t => .cons (λE' s' Q' hs' q'=>by
  obtain⟨b,rfl,r⟩:=h1;exact wpAny_pyHash_tuple (knd:=Jl prog w) (ks:=ks) hu (by rw[hs'];exact r) q') (fY hu t)
def An(hu:A.units+8<cLine)(x:k2Is prog w s.heap k a)(h:Q (k2H w k) { s with toks:=s.toks+k2D w k }):wpAny (model prog w) A (pyHash (.ref a)) Q E s:=by
 obtain⟨o,its,n,h1,h2,h3,r,_⟩:=x;exact zM (hs:=k.map (kiH w)) 'c' h1 h2 h3 (fY (by rw[Yk];omega) r) h
def Ao(hu:A.units+8<cLine)(x:k2Is prog w s.heap k a)(y:k2Is prog w s.heap l b)(h:Q (decide (k=l)) s):wpAny (model prog w) A (eqBool (.ref a) (.ref b)) Q E s:=by
 obtain⟨as,r⟩:=aW x;obtain⟨bs,r'⟩:=aW y
 have dp:(PyData.tuple (k.map JL)).depth<=2:=by
  have:=pj k;show PyData.depthAll (k.map JL)+1<=2;omega
 have e:PyData.eqv (.tuple (k.map JL)) (.tuple (l.map JL))=decide (k=l):=by rw[PyData.eqv,aY]
 rw[<- e]at h;exact SeqAt.eqAt_reads _ _ A s _ _ _ _ r r' (by exact aX x.ok) (by exact aX y.ok) (by have:=Nat.min_le_left (PyData.tuple (k.map JL)).depth (PyData.tuple (l.map JL)).depth;omega) prog w E Q h
theorem pA:∀{k:K2}{vs:xm},Paired (kiIs prog w s.heap) k vs->∀v∈vs,∀Q:Bool->xR->Prop,Q true s->wpAny (model prog w) A (eqIsQuiet 7 v) Q E s
 |_,_,.nil=>λv hv=>nomatch hv
 |i::_,_,.cons h1 t=>λv hv Q q=>by
  rcases jJ.mp hv with rfl|hv
  . cases i with
    |inl k=>rw[eqIsQuiet_byValue _ ((Jl prog w).byValue k _ h1)];exact qf q
    |inr ks =>
     obtain⟨b,rfl,o,its,n,e1,e2,e3,e4⟩:=h1;refine oB (m:=6) e1 e2 e3 (λu hu Q2 q2=>?_) q;rw[eqIsQuiet_byValue _ (e4.byValue u hu)];exact qf q2
  . exact pA t v hv Q q
def Ap(x:k2Is prog w s.heap k a)(h:Q true s):wpAny (model prog w) A (eqIsQuiet 8 (.ref a)) Q E s:=by
 obtain⟨o,its,n,h1,h2,h3,r,_⟩:=x;exact oB (m:=7) h1 h2 h3 (pA r) h
end
def ZD(prog:xT)(w:xU):HeapKind prog w K2 where
 is:=k2Is prog w
 hash:=k2H w
 draws:=k2D w
 room:=λA=>A.units+8<cLine
 inj:=λx y=>Ak x y
 keeps:=λx ho hd hs=>Am x ho hd hs
 pyHash:=λhu hk h=>An hu hk h
 eqBool:=λhu hx hy h=>Ao hu hx hy h
 quiet:=λhk h=>Ap hk h
abbrev KE:=K2×xS×V
def aZ(w:xU)(h:Heap)(d:xS)(xs:List (K2×xS×xQ)):Prop:=(d==sysModules)=false/\∃o es ep,h.get? d=some o/\o.ExactDict/\o.data=.dict es ep/\es.toList=xs.map (λx=>(⟨k2H w x.1,.ref x.2.1,x.2.2⟩:DictEntry))
def QN(p:KE)(x:K2×xS×xQ):Prop:=p.1=x.1/\p.2.1=x.2.1/\RelV p.2.2 x.2.2
def k2HO(w:xU)(d:xS)(ks:List KE):HO := .ext λh=>∃xs,Paired QN ks xs/\aZ w h d xs
def kiAt(H:Hp):KI->V->Prop
 |.inl k,x=>x=kV k
 |.inr ks,x=>∃b,x=.ref b/\H b=some (.tup (ks.map kV))
def K2At(H:Hp)(k:K2)(a:xS):Prop:=∃xs,TupZ H a xs/\Paired (kiAt H) k xs/\k.all Yr=true
def frzO:Option Obj->HO->HO
 |none,u=>u
 |some o,u => .frz o u
structure D2 (w:xU) (H:Hp) (d:xS) (fz:Option Obj) (ks:List KE):Prop where
 at_:H d=some (frzO fz (k2HO w d ks))
 nd:(ks.map (·.1)).Nodup
 len:ks.length<=sizeLine
 key:∀p∈ks,K2At H p.1 p.2.1
theorem kiAt.same(e:∀b xs,H b=some (.tup xs)->H' b=some (.tup xs)):∀{k:K2}{xs:List V},Paired (kiAt H) k xs->Paired (kiAt H') k xs
 |_,_,.nil => .nil
 |.inl _::_,_,.cons h1 t => .cons h1 (kiAt.same e t)
 |.inr _::_,_,.cons ⟨b,h1,h2⟩ t => .cons ⟨b,h1,e _ _ h2⟩ (kiAt.same e t)
theorem K2At.same(e:∀b xs,H b=some (.tup xs)->H' b=some (.tup xs))(e2:∀b xs,TupZ H b xs->TupZ H' b xs)(h:K2At H k a):K2At H' k a:=by
 obtain⟨xs,h1,h2,ok⟩:=h;exact⟨xs,e2 _ _ h1,kiAt.same e h2,ok⟩
theorem D2.same(h:D2 w H d fz ks)(e:Same H H'):D2 w H' d fz ks:=⟨e _ _ h.at_,h.nd,h.len,λp hp=>(h.key p hp).same (λb xs q=>e _ _ q) λb xs q=>q.same e⟩
def Jw(ks:List KE)(k:K2):Option V:=(ks.find? λp=>decide (p.1=k)).map (·.2.2)
def Qn(ks:List KE)(k:K2)(a:xS)(v:V):List KE:=if (Jw ks k).isSome then ks.map (λp=>if p.1=k then(p.1,p.2.1,v) else p) else ks++[(k,a,v)]
section
variable {X:Cx}{xt:xg}{σ:St}{H:Hp}{s:xR}{d a:xS}{k:K2}{ks:List KE}{fz:Option Obj}{A:xV}{E:xc}
theorem pC(I:Inv X xt σ H s):∀{k:K2}{xs:List V}{vs:xm},Paired (kiAt H) k xs->Vals xs vs->Paired (kiIs X.prog X.w s.heap) k vs
 |_,_,_,.nil,r=>by cases r;exact .nil
 |i::_,_,_,.cons h1 t,r=>by
  cases r with
  |cons r1 r2 =>
   refine .cons ?_ (pC I t r2)
   cases i with
   |inl k =>
    obtain rfl:=h1
    cases k with
    |inl i=>obtain⟨t,rfl⟩:=r1;exact dR _ _
    |inr x=>obtain⟨t,rfl⟩:=r1;exact dS _ _
   |inr ks =>
    obtain⟨b,rfl,h2⟩:=h1
    cases r1
    obtain⟨_,jts,q,o2,k1,k2,m,k3⟩:=(show ObjOk X.prog X.w H s.heap b (.tup (ks.map kV)) from I.hok b _ h2);refine⟨b,rfl,o2,jts.toArray,m,k1,k2,k3,?_⟩
    have all:∀{ks:List Key}{vs:xm},Vals (ks.map kV) vs->ItemsAre (Jl X.prog X.w) ks vs:=by
     intro ks
     induction ks with
     |nil=>intro vs q;cases q;exact .nil
     |cons x xs ih =>
      intro vs q
      cases q with
      |cons h1 h2 =>
       refine .cons ?_ (ih h2)
       cases x with
       |inl i=>obtain⟨t,rfl⟩:=h1;exact dR i t
       |inr z=>obtain⟨t,rfl⟩:=h1;exact dS z t
    simpa using all q
def Ys(I:Inv X xt σ H s)(e:K2At H k a):k2Is X.prog X.w s.heap k a:=by
 obtain⟨xs,h,p,ok⟩:=e;obtain⟨its,r,⟨o,h1,h2,n,h3⟩,_⟩:=I.tuple (X:=X) h.sq;exact⟨o,its.toArray,n,h1,h2,h3,by simpa using pC I p r,ok⟩
def Aq(I:Inv X xt σ H s)(e:H d=some (frzO fz (k2HO X.w d ks))):∃xs,Paired QN ks xs/\aZ X.w s.heap d xs:=by
 have:=I.hok d _ e
 cases fz with
 |none=>exact this.1
 |some o=>exact this.2.1
theorem ZE:∀{ks:List KE}{xs:List (K2×xS×xQ)},Paired QN ks xs->xs.map (λx=>(x.1,x.2.1))=ks.map (λx=>(x.1,x.2.1))
 |_,_,.nil=>rfl
 |_,_,.cons h t=>by rw[jM,jM,ZE t,h.1,h.2.1]
def XA(I:Inv X xt σ H s)(e:D2 X.w H d fz ks):(d==sysModules)=false/\∃xs,Paired QN ks xs/\s.heap.DictOfH (ZD X.prog X.w) d xs:=by
 obtain⟨xs,pr,hd,o,es,ep,k1,k2,k3,k4⟩:=Aq I e.at_;have ee:=ZE pr;refine⟨hd,xs,pr,o,es,ep,k1,k2,k3,k4,λx hx=>?_,?_⟩
 . have:(x.1,x.2.1)∈ks.map (λx=>(x.1,x.2.1)):=by rw[<- ee];exact jG.mpr ⟨x,hx,rfl⟩
   obtain⟨p,hp,e2⟩:=jG.mp this;have:=e.key p hp;rw[(Prod.mk.inj e2).1,(Prod.mk.inj e2).2]at this;exact Ys I this
 . have:xs.map (·.1)=ks.map (·.1):=by
    have:=qG (List.map Prod.fst) ee;rw[jb,jb]at this;exact this
   rw[this];exact e.nd
theorem b5:∀{ks:List KE}{xs:List (K2×xS×xQ)},Paired QN ks xs->∀k:K2,(Jw ks k=none/\atKey xs k=none)\/∃v b u,Jw ks k=some v/\atKey xs k=some (b,u)/\RelV v u
 |_,_,.nil,k => .inl ⟨rfl,rfl⟩
 |p::_,x::_,.cons h t,k=>by
  unfold Jw atKey;rw[jv,jv,<- h.1]
  by_cases e:p.1=k
  . rw[qi e];exact .inr ⟨_,_,_,rfl,rfl,h.2.2⟩
  . rw[qj e];exact b5 t k
def b6(x:∃xs,Paired QN ks xs/\aZ w h1 d xs)(st:∀o,h1.get? d=some o->h2.get? d=some o):∃xs,Paired QN ks xs/\aZ w h2 d xs:=by
 obtain⟨xs,p1,p3,o,es,ep,p4,p5⟩:=x;exact⟨xs,p1,p3,o,es,ep,st _ p4,p5⟩
def Ar(hu:A.units+9<cLine)(I:Inv X xt σ H s)(e:D2 X.w H d fz ks)(ek:K2At H k a)(hi:Jw ks k=some v)(h:∀u s',RelV v u->Inv X xt σ H s'->Q u s'):wpAny (model X.prog X.w) A (getItem (.ref d) (.ref a)) Q E s:=by
 obtain⟨hd,xs,pr,dd⟩:=XA I e;rcases b5 pr k with ⟨z,_⟩|⟨v',b,u,z,z2,r⟩
 . rw[z]at hi;cases hi
 . rw[z]at hi;cases hi;exact wpAny_getItem_heap (knd:=ZD X.prog X.w) (by show A.units+1+8<cLine;omega) (Ys I ek) dd z2 (h u _ r (I.tok _))
theorem pD(r:RelV v u):∀{ks:List KE}{xs:List (K2×xS×xQ)},Paired QN ks xs->∀k:K2,Paired QN (ks.map λp=>if p.1=k then(p.1,p.2.1,v) else p) (xs.map (putAt k u))
 |_,_,.nil,k => .nil
 |p::_,x::_,.cons h t,k=>by
  rw[jM,jM];refine .cons ?_ (pD r t k);unfold putAt;rw[<- h.1]
  by_cases e:p.1=k
  . rw[qh e,qh e];exact⟨rfl,h.2.1,r⟩
  . rw[qg e,qg e];exact h
theorem b8(h:QN p x):∀{ks:List KE}{xs:List (K2×xS×xQ)},Paired QN ks xs->Paired QN (ks++[p]) (xs++[x])
 |_,_,.nil => .cons h .nil
 |_,_,.cons h1 t => .cons h1 (b8 h t)
def As(hu:A.units+9<cLine)(I:Inv X xt σ H s)(e:D2 X.w H d none ks)(ek:K2At H k a)(hl:ks.length<sizeLine)(rv:RelV v r)
 (h:∀s',Inv X xt σ (upd H d (k2HO X.w d (Qn ks k a v))) s'->Q () s'):wpAny (model X.prog X.w) A (setItem (.ref d) (.ref a) r) Q E s:=by
 obtain⟨hd,xs,pr,dd⟩:=XA I e;have lx:'h'=ks.length:=by have:=qG List.length (ZE pr);simpa using this
 refine wpAny_setItem_heap (knd:=ZD X.prog X.w) (hsz:=by omega) (by show A.units+1+8<cLine;omega) (Ys I ek) dd λh' dd' hs=>h _ ?_;obtain⟨q,es,ep,hq,h2,h3,h4,_,h5⟩:=dd';refine ay I (by rw[e.at_];exact True.intro) hs ⟨q,hq⟩ ?_;refine⟨⟨storedH xs k a r,?_,hd,q,es,ep,hq,h2,h3,h4⟩,⟨q,hq⟩,λh1 h2 x st=>b6 x st⟩;unfold Qn;rcases b5 pr k with ⟨z,z2⟩|⟨v',b,u,z,z2,_⟩
 . rw[storedH_new z2,z,qg 'f'];exact b8 ⟨rfl,rfl,rv⟩ pr
 . rw[storedH_old z2,z];exact pD rv pr k
end
def At(ks:List KE)(k:K2)(a:xS)(v:V):(Qn ks k a v).map (λp=>(p.1,p.2.1))=if (Jw ks k).isSome then ks.map (λp=>(p.1,p.2.1)) else ks.map (λp=>(p.1,p.2.1))++[(k,a)]:=by
 unfold Qn
 cases h:(Jw ks k).isSome with
 |true =>
  rw[qh rfl,qh rfl,jb];refine ji λp _=>?_
  by_cases e:p.1=k<;>simp[e]
 |false=>simp
def Au(h:(Jw ks k).isSome=false):k∉ks.map (·.1):=by
 intro hm;obtain⟨p,hp,rfl⟩:=jG.mp hm;have e:Jw ks p.1=none:=by simpa using h
 unfold Jw at e;rw[Option.map_eq_none_iff,List.find?_eq_none]at e;exact e p hp (qi rfl)
def D2.put(e:D2 w H d none ks)(ek:K2At H k a)(hl:ks.length<sizeLine):D2 w (upd H d (k2HO w d (Qn ks k a v))) d none (Qn ks k a v):=by
 have st:∀b xs,H b=some (.tup xs)->upd H d (k2HO w d (Qn ks k a v)) b=some (.tup xs):=λb xs q=>by
  rw[xZ (Qs q e.at_ (λz=>nomatch z))];exact q
 have st2:∀b xs,TupZ H b xs->TupZ (upd H d (k2HO w d (Qn ks k a v))) b xs:=λb xs ⟨o,q,z⟩=>⟨o,by rw[xZ (Qs q e.at_ (λz=>nomatch z))];exact q,z⟩;have ee:=At ks k a v
 have e1:(Qn ks k a v).map (·.1)=if (Jw ks k).isSome then ks.map (·.1) else ks.map (·.1)++[k]:=by
  have:=qG (List.map Prod.fst) ee;rw[jb]at this;refine(show _ from this).trans ?_
  cases (Jw ks k).isSome<;>simp[jb]<;>rfl
 refine⟨J1,?_,?_,λp hp=>?_⟩
 . rw[e1]
   cases h:(Jw ks k).isSome with
   |true=>exact e.nd
   |false =>
    rw[qg 'f',kD];refine⟨e.nd,by simp,λx hx y hy z=>?_⟩;have hy':y=k:=by simpa using hy
    exact Au h (by rw[<- hy',<- z];exact hx)
 . have:=qG List.length ee;rw[jA]at this;rw[this]
   cases (Jw ks k).isSome with
   |true=>simpa using e.len
   |false=>simp;omega
 . have hp2:(p.1,p.2.1)∈(Qn ks k a v).map (λp=>(p.1,p.2.1)):=jG.mpr ⟨p,hp,rfl⟩
   have old:(p.1,p.2.1)∈ks.map (λp=>(p.1,p.2.1))->K2At (upd H d (k2HO w d (Qn ks k a v))) p.1 p.2.1:=λhm=>by
    obtain⟨q,hq,e2⟩:=jG.mp hm;have:=(e.key q hq).same st st2
    rwa [(Prod.mk.inj e2).1,(Prod.mk.inj e2).2]at this
   rw[ee]at hp2
   cases h:(Jw ks k).isSome with
   |true=>rw[h,qh rfl]at hp2;exact old hp2
   |false =>
    rw[h,qg 'f']at hp2;rcases je.mp hp2 with hp2|hp2
    . exact old hp2
    . have z:(p.1,p.2.1)=(k,a):=by simpa using hp2
      rw[(Prod.mk.inj z).1,(Prod.mk.inj z).2];exact ek.same st st2
section
variable {X:Cx}{o i value:Expr}{pos xO:Pos}{td ty tv:TE}
def Qx(hr:Room k A):A.units+9<cLine:=by have:=hr.units;omega
def Av(w:xU):TE:=λ_ H Q=>∀p,H p=none->Q (.ref p) (upd H p (k2HO w p []))
def fZ(w:xU)(hw:X.w=w):PE X (.Dict [] [] pos) (Av w):=by
 subst hw
 exact λxt s σ H Q I h=>wpAny_Dict_empty ⟨.ref 'g',_,I.laid (a:='g') (o:=k2HO X.w 'g' []) (t':=s.toks) (λ_ _ q=>jC _ q) (jE _)
  ⟨⟨[],.nil,beq_eq_false_iff_ne.mpr (Ne.symm (jQ I.big)),_,#[],0,jH _ rfl,⟨rfl,rfl,rfl⟩,rfl,rfl⟩,⟨_,jH _ rfl⟩,λh1 h2 x st=>b6 x st⟩,
  rfl,h _ (I.hok.fresh (jE _))⟩
def D2.new:D2 w (upd H p (k2HO w p [])) p none []:=⟨J1,jp,jT _,λ_ h=>nomatch h⟩
def Aw(w:xU)(td ty:TE):TE:=λσ H Q=>td σ H λx H1=>ty σ H1 λy H2=>∃d a fz ks k v,x=.ref d/\y=.ref a/\D2 w H2 d fz ks/\K2At H2 k a/\Jw ks k=some v/\Q v H2
def QY(w:xU)(hw:X.w=w)(hu:X.A.units+9<cLine)(ho:PE X o td)(hi:PE X i ty)(hs:eV i):PE X (.Subscript o i pos) (Aw w td ty):=by
 subst hw;intro xt s σ H Q I h;refine mM PySem.F.slot_dict_getitem.lookup hs (thn (ho xt s σ H _ I h) λu s1 pc=>?_);obtain⟨x,H1,I1,rx,q1⟩:=pc;refine thn (hi xt s1 σ H1 _ I1 q1) λiv s2 pc=>?_;obtain⟨y,H2,I2,ry,d,a,fz,ks,k,v,ex,ey,e,ek,hj,q2⟩:=pc;subst ex ey
 cases ry
 cases rx
 obtain⟨_,xs,_,dd⟩:=XA I2 e;exact⟨dd.typeIs,Ar hu I2 e ek hj λu s3 r I3=>⟨v,H2,I3,r,q2⟩⟩
def Ax(w:xU)(td ty tv:TE):TS:=λD σ H=>tv σ H λv H1=>td σ H1 λx H2=>ty σ H2 λy H3=>∃d a ks k,x=.ref d/\y=.ref a/\D2 w H3 d none ks/\K2At H3 k a/\ks.length<sizeLine/\D.nx σ (upd H3 d (k2HO w d (Qn ks k a v)))
def Ay(w:xU)(hw:X.w=w)(hu:X.A.units+9<cLine)(ho:PE X o td)(hi:PE X i ty)(hv:PE X value tv)(hs:swapsWith value (some (.Subscript o i xO)) pos.line X.env=pure false) :
 PS X (.Assign [.Subscript o i xO] value pos) (Ax w td ty tv):=by
 subst hw;intro xt s σ H D I h;refine wpAny_Assign_Subscript (thn (hv xt s σ H _ I h) λr s1 pc=>?_) hs;obtain⟨v,H1,I1,rv,q1⟩:=pc;refine thn (ho xt s1 σ H1 _ I1 q1) λu s2 pc=>?_;obtain⟨x,H2,I2,rx,q2⟩:=pc;refine thn (hi xt s2 σ H2 _ I2 q2) λiv s3 pc=>?_;obtain⟨y,H3,I3,ry,d,a,ks,k,ex,ey,e,ek,hl,q3⟩:=pc;subst ex ey
 cases rx;cases ry
 exact As hu I3 e ek hl rv λs4 I4=>⟨σ,_,I4,q3⟩
end
end L2
namespace L2
open PySem PySem.W PySem.Spec PyProof.Rows
section
variable {X:Cx}{xt:xg}{σ:St}{H:Hp}{s:xR}{d a:xS}{k:K2}{ks:List KE}{fz:Option Obj}
def Az(I:Inv X xt σ H s)(e:D2 X.w H d fz ks):s.TypeIs (.ref d) "dict" /\ (∀b,Value.ref d=.ref b->∃ob,'i' b=some ob/\ob.dict=none)/\(d==sysModules)=false:=by
 obtain⟨hd,xs,_,dd⟩:=XA I e;refine⟨dd.typeIs,λb q=>?_,hd⟩
 cases q
 obtain⟨ob,_,_,h1,h2,_⟩:=dd;exact⟨ob,h1,h2.2.1⟩
end
section
variable {X:Cx}{o e f:Expr}{apos cpos:Pos}{td ty tx:TE}
def AA(w:xU)(td ty tx:TE):TE:=λσ H Q=>td σ H λx H1=>∃d,x=.ref d/\(∃fz ks,D2 w H1 d fz ks)/\ty σ H1 λy H2=>tx σ H2 λz H3=>∃a fz ks k,y=.ref a/\D2 w H3 d fz ks/\K2At H3 k a/\Q ((Jw ks k).getD z) H3
def AB(w:xU)(hw:X.w=w)(hu:X.A.units+9<cLine)(ho:PE X o td)(he:PE X e ty)(hf:PE X f tx)(m:M2 X o "get" apos e f cpos):PE X (.Call (.Attribute o "get" apos) [e,f] [] cpos) (AA w td ty tx):=by
 subst hw;intro xt s σ H Q I h;refine wpAny_Call_method m.base m.few m.line PySem.F.plainAttrs_dict PySem.F.slot_dict_get PySem.F.type_dict_get (thn (ho xt s σ H _ I h) λu s1 pc=>?_);obtain⟨x,H1,I1,rx,d,ex,⟨fz,ks,dd⟩,q1⟩:=pc;subst ex;obtain rfl:u=Value.ref d:=rx;obtain⟨t1,t2,_⟩:=Az I1 dd;refine⟨t1,t2,?_⟩;rw[m.trees]
 refine Calls.callWith_builtin rfl (Calls.evalArgs_plain (Calls.spliced_cons (thn (he xt s1 σ H1 _ I1 q1) λiv s2 ⟨y,H2,I2,ry,q2⟩ =>
  Calls.spliced_cons (thn (hf xt s2 σ H2 _ I2 q2) λfv s3 ⟨z,H3,I3,rz,a,fz,ks,k,ey,dd,ek,q3⟩=>Calls.spliced_nil ?_))))
 subst ey
 cases ry
 obtain⟨hd,xs,pr,dh⟩:=XA I3 dd;refine call_meetsIn PySem.F.slot_dict_get dh.typeIs PySem.F.entry_dict_get (PySem.F.args_dict_get_3 _ _ _) (meetsH_dict_get_default (ZD X.prog X.w) d a hd fv) ⟨by show X.A.units+1+8<cLine;omega,k,xs,Ys I3 ek,dh,⟨_,H3,I3.tok _,?_,q3⟩⟩;rcases b5 pr k with ⟨z1,z2⟩|⟨v',b,u,z1,z2,r⟩
 . rw[z1,z2];exact rz
 . rw[z1,z2];exact r
def AC(w:xU)(hw:X.w=w):CallR X (.builtin "len") (λxs H Q=>∃d fz ks,xs=[V.ref d]/\D2 w H d fz ks/\Q (.int ks.length) H):=by
 subst hw;intro xt s σ H xs us Q I r ⟨d,fz,ks,e,dd,q⟩;subst e;obtain⟨u,rfl,ru⟩:=Qc r
 cases ru
 obtain⟨hd,ys,pr,dh⟩:=XA I dd;have el:ys.length=ks.length:=by have:=qG List.length (ZE pr);simpa using this
 refine oK hd dh (by have:=dd.len;rw[qH]at this;omega) ⟨.int _,H,I.tok _,⟨_,by rw[el]⟩,q⟩
end
section
variable {X:Cx}{xt:xg}{σ:St}{H:Hp}{s:xR}{a:xS}{u:HO}
theorem Inv.freeze2(I:Inv X xt σ H s)(e:H a=some (k2HO X.w a ks)):∃o,'i' a=some o/\Inv X xt σ (upd H a (.frz o (k2HO X.w a ks))) s:=by
 have ok:=(show ObjOk X.prog X.w H s.heap a (k2HO X.w a ks) from I.hok a _ e);obtain⟨⟨xs,pr,hd,o,es,ep,ho,r⟩,_,_⟩:=id ok;refine⟨o,ho,?_⟩;refine I.write (x:=a) (e:=a) (o := .frz o (k2HO X.w a ks)) (h':=s.heap) (t':=s.toks) (by rw[e];exact True.intro) (.inl rfl) (λb u _ q=>q) ⟨o,ho⟩ ⟨ho,?_⟩;exact ok
def Inv.thaw2(I:Inv X xt σ H s)(e:H a=some (.frz o (k2HO X.w a ks)))(n0:∀o u,X.H₀ a≠some (.frz o u)):Inv X xt σ (upd H a (k2HO X.w a ks)) s:=by
 have ne:∀b,H b=none->b≠a:=λb hb z=>by rw[z,e]at hb;cases hb
 have st:∀{b:xS}{u:HO},ObjOk X.prog X.w H s.heap b u->ObjOk X.prog X.w (upd H a (k2HO X.w a ks)) s.heap b u:=λok=>ok.stay (λ_ _ _ q=>q) (λc r=>by rw[xZ (λz=>by rw[z,e]at r;cases r)];exact r) λc xs r=>by rw[xZ (λz=>by rw[z,e]at r;cases r)];exact r
 refine⟨I.ok,I.os,I.bare,⟨I.base.keep,I.base.slot,λb ob q n hx=>?_,I.base.there,λb xs q=>?_,λb ob u q=>?_,λb ps q=>?_⟩,I.loc,I.cell,?_,λx c ec=>?_,λp hp=>?_,λb u q=>?_,I.len⟩
 . have:=I.base.free b ob q n hx;rw[xZ (ne b this)];exact this
 . have:=I.base.tups b xs q;rw[xZ (λz=>by rw[z,e]at this;cases this)];exact this
 . have:=I.base.frzs b ob u q;rw[xZ (λz:b=a=>n0 ob u (by rw[<- z];exact q))];exact this
 . obtain⟨m,h1⟩:=I.base.tbls b ps q;exact⟨m,by rw[xZ (λz=>by rw[z,e]at h1;cases h1)];exact h1⟩
 . rw[xZ (ne _ I.free)];exact I.free
 . rw[xZ (ne _ (I.freeC x c ec))];exact I.freeC x c ec
 . obtain⟨h1,h2,h3⟩:=I.pin p hp;exact⟨h1,by rw[xZ (ne _ h2)];exact h2,h3⟩
 . by_cases hb:b=a
   . subst hb;rw[J1]at q
     cases q
     exact st (I.hok b _ e).2
   . rw[xZ hb]at q;exact st (I.hok b u q)
end
def It2(w:xU)(a:xS)(o:Obj)(ks:List KE):It :=
 ⟨λi H=>H a=some (.frz o (k2HO w a ks))/\i<ks.length,λi H x H'=>H'=H/\∃p,ks[i]?=some p/\x=.ref p.2.1,λi H=>H a=some (.frz o (k2HO w a ks))/\ks.length<=i⟩
def pE(x:ObjOk P w H h a (.frz o (k2HO w a ks)))(hd:o.data=.dict es ep) :
 h.get? a=some o/\es.size=ks.length/\∀(i:Nat) (hi:i<es.size) (p:KE),ks[i]?=some p->es[i].key=.ref p.2.1:=by
 obtain⟨ho,⟨xs,pr,_,o2,es2,ep2,h1,h2,h3,he⟩,_⟩:=x;rw[ho]at h1;cases h1;rw[hd]at h3;cases h3;have ee:=ZE pr;have lx:'h'=ks.length:=by have:=qG List.length ee;simpa using this
 have hl:es.size=ks.length:=by rw[<- lx,<- js,he,jA]
 refine⟨ho,hl,λi hi p e=>?_⟩;have hx:i<'h':=by omega
 have e1:es.toList[i]?=some (⟨k2H w xs[i].1,.ref xs[i].2.1,xs[i].2.2⟩:DictEntry):=by rw[he,jD,jB hx];rfl
 rw[Array.getElem?_toList,jl hi]at e1;rw[Option.some.inj e1];have e2:=qG (λl=>l[i]?) ee;simp only[jD,jB hx,e]at e2;show Value.ref xs[i].2.1=_;rw[(Prod.mk.inj (Option.some.inj e2)).2]
theorem AD{P:xT}{w:xU}{K:xh}{tg:Expr}{a it:xS}{o:Obj}{ks:List KE}{es:Array DictEntry}{ep:Nat}(xA:o.data=.dict es ep)(ne:a≠it) :
 Turn P w K tg (It2 w a o ks) [it] it (λi h=>h.IsKeyIter it a i es.size ep/\i<=es.size) where
 mem:=by simp
 obj:=λi h st b hb=>by
  have e:b=it:=by simpa using hb
  subst e;obtain⟨⟨o,e,c,d⟩,_⟩:=st;exact⟨o,e,λv z=>by rw[d]at z;cases z⟩
 keep:=λi h h' st k=>⟨st.1.at λo e=>k it 'f' o e,st.2⟩
 item:=by
  intro X hP hw hK hc i xt s σ H E I hf st hg;subst hP hw hK;obtain⟨st,le⟩:=st;obtain⟨e,hi⟩:=hg;obtain⟨ho,hl,hrel⟩:=pE (I.hok a _ e) xA;have hi':i<es.size:=by omega
  obtain⟨f0,f1,f2,f3,f4,f5⟩:=hf it 'f';refine yi st ⟨o,ho,xA⟩ hi' λh' st' sb=>?_;have I1:Inv X xt σ H { s with heap:=h' }:=I.turned (t':=s.toks) (λb o hb e=>(sb.2 b hb).trans e) f0 f1 f3 f4 f5;obtain⟨o1,e1,c1,d1⟩:=id st';have ek:ks[i]?=some ks[i]:=jB hi;exact⟨_,rfl,ae (s:={ s with heap:=h' }) e1 c1 d1 'd' ⟨.ref ks[i].2.1,H,I1,hrel i hi' _ ek,⟨rfl,_,ek,rfl⟩,⟨st',hi'⟩,λb hb=>(hf b hb).1⟩⟩
 done:=by
  intro X hP hw hK hc i xt s σ H E I hf st hg;subst hP hw hK;obtain⟨e,hi⟩:=hg;obtain⟨ho,hl,hrel⟩:=pE (I.hok a _ e) xA;obtain⟨f0,f1,f2,f3,f4,f5⟩:=hf it 'f';obtain⟨st,le⟩:=st;obtain rfl:i=es.size:=by omega
  exact yj (I.ok.hd hc) st ⟨o,ho,xA⟩ λh' eb=>⟨rfl,I.turned (t':=s.toks) (λb o hb e=>eb b o hb e) f0 f1 f3 f4 f5⟩
 self:=λ_ _ _ _ _ st h=>wpAny_pyIter_keyiter st.1 h
section
variable {X:Cx}{tg:Expr}
def AE(w:xU)(te:TE):TI:=λσ H R=>te σ H λx H1=>∃a ks,x=.ref a/\H1 a=some (k2HO w a ks)/\∀o,R (It2 w a o ks) (upd H1 a (.frz o (k2HO w a ks)))
def Yt(w:xU)(hw:X.w=w)(he:PE X e te):PI X tg e (AE w te):=by
 subst hw;intro xt s σ H R I h;refine thn (he xt s σ H _ I h) λv s1 pc=>?_;obtain⟨x,H1,I1,r1,q1⟩:=pc;obtain⟨a,ks,rfl,ea,q⟩:=q1
 cases r1
 obtain⟨⟨xs,pr,lo,o0,es,ep,ho,h2,xA,_⟩,_,_⟩:=(show ObjOk X.prog X.w H1 s1.heap a (k2HO X.w a ks) from I1.hok a _ ea);obtain⟨o,ho',I2⟩:=I1.freeze2 ea;rw[ho]at ho';cases ho';refine yh lo ⟨_,ho,h2.1⟩ ⟨_,ho,xA⟩ ?_;refine⟨s1.heap.objs.size,[s1.heap.objs.size],_,_,upd H1 a (.frz o0 (k2HO X.w a ks)),rfl,I2.kept (t':=s1.toks) λb o e=>jC _ e,AD xA (jQ (jI ho)),⟨⟨_,jH _ rfl,rfl,rfl⟩,jT _⟩,λb hb=>?_,q o0⟩;have e:b=s1.heap.objs.size:=by simpa using hb
 subst e;exact I2.fpOk (jE _) (I2.hok.fresh (jE _))
def AF(w:xU)(t:TS):TS:=λD σ H=>∃a ks,H a=some (k2HO w a ks)/\t { D with nx:=λσ' H'=>∃o,H' a=some (.frz o (k2HO w a ks))/\D.nx σ' (upd H' a (k2HO w a ks)) } σ H
def Yu{st:Stmt}{t:TS}(w:xU)(hw:X.w=w)(h:PS X st t):PS X st (AF w t):=by
 subst hw;intro xt s σ H D I q;obtain⟨a,ks,e,q⟩:=q
 have n0:∀o u,X.H₀ a≠some (.frz o u):=λo u z=>by
  have:=I.base.frzs a o u z;rw[e]at this;cases this
 refine qq (h xt s σ H _ I q) (λf s' z=>?_) λ_ _ z=>z
 cases f with
 |next =>
  obtain⟨σ',H',I',o,e',q'⟩:=z;exact⟨σ',_,I'.thaw2 e' n0,q'⟩
 |_=>exact z
end
def b9{o:Obj}{ks:List KE}{g:TG}{tb:TS}{D:Ends}(Pv:Nat->St->Hp->Prop)(h0:Pv 0 σ H)(hl:∀i σ H,i<=ks.length->Pv i σ H->H a=some (.frz o (k2HO w a ks)))
 (hs:∀i p σ H,ks[i]?=some p->Pv i σ H->g (.ref p.2.1) σ H λxM H2=>tb { D with nx:=Pv (i+1),ct:=Pv (i+1),bk:=D.nx } xM H2) (hd:∀σ H,Pv ks.length σ H->D.nx σ H) :
 ∃W:Nat->Nat->St->Hp->Prop,(∃m,W 0 m σ H)/\∀i m σ H,W i m σ H ->
  ((It2 w a o ks).stop i H/\D.nx σ H)\/((It2 w a o ks).go i H/\∃N:St->Hp->Prop,(∀σ' H',N σ' H'->∃m',m'<m/\W (i+1) m' σ' H')/\∀x H',(It2 w a o ks).yld i H x H'->g x σ H' λxM H2=>tb { D with nx:=N,ct:=N,bk:=D.nx } xM H2):=by
 refine⟨λi m σ H=>m=ks.length - i/\i<=ks.length/\Pv i σ H,⟨ks.length,by simp,jT _,h0⟩,?_⟩;rintro i m σ H ⟨rfl,hi,p⟩;have q:=hl i σ H hi p
 by_cases hlt:i<ks.length
 . refine .inr ⟨⟨q,hlt⟩,Pv (i+1),λσ' H' p'=>⟨ks.length - (i+1),by omega,rfl,hlt,p'⟩,λx H' y=>?_⟩;obtain⟨eH,kv,ek,ex⟩:=y;subst ex eH;exact hs i kv σ _ ek p
 . have e:i=ks.length:=by omega
   subst e;exact .inl ⟨⟨q,jE _⟩,hd σ H p⟩
section
variable {X:Cx}{ke ve:Expr}{tk tv:TE}{pos:Pos}
def AG(w:xU)(tk tv:TE):TE:=λσ H Q=>∀p,H p=none->eX [(tk,tv)] σ (upd H p (k2HO w p [])) λps H2=>H2 p=some (k2HO w p [])/\∃(a:xS) (k:K2) (v:V),ps=[(.ref a,v)]/\K2At H2 k a/\Q (.ref p) (upd H2 p (k2HO w p [(k,a,v)]))
def AH(w:xU)(hw:X.w=w)(hu:X.A.units+9<cLine)(hk:PE X ke tk)(hv:PE X ve tv):PE X (.Dict [some ke] [ve] pos) (AG w tk tv):=by
 subst hw;intro xt s σ H Q I q;have hn:=I.hok.fresh (jE 'g')
 have I1:Inv X xt σ (upd H 'g' (k2HO X.w 'g' [])) { s with heap:=s.heap.push { cls := .type "dict",data := .dict #[] },toks:=s.toks }:=I.laid (a:='g') (o:=k2HO X.w 'g' []) (t':=s.toks) (λ_ _ q=>jC _ q) (jE _)
  ⟨⟨[],.nil,beq_eq_false_iff_ne.mpr (Ne.symm (jQ I.big)),_,#[],0,jH _ rfl,⟨rfl,rfl,rfl⟩,rfl,rfl⟩,⟨_,jH _ rfl⟩,λh1 h2 x st=>b6 x st⟩
 have hp:=(wG hk hv wF:PPs X pos [some ke] [ve] [(tk,tv)]);rw[arm_eval_Dict,zip_pairTrees [some ke] [ve] X.env pos rfl rfl,dictDisplay_pairs _ (by rw[pairTrees];exact List.cons_ne_nil _ _) (by rw[pairTrees_length [some ke] [ve] X.env pos rfl rfl];show 1<17;decide)];refine q8 (wpAny_standAt (q8 ?_));unfold subDict;refine q8 (wpAny_alloc ?_);refine q8 (qF ?_);rw[qh (by rw[pairTrees_length [some ke] [ve] X.env pos rfl rfl];show 1<=15;decide)];refine q8 (thn (hp xt _ σ _ _ I1 (q _ hn)) λws s2 pc=>?_);obtain⟨ps,H2,I2,rel,e,a,k,v,ep,ek,q2⟩:=pc;subst ep
 cases rel with
 | @cons _ y _ ys r1 r2 =>
  cases r2
  obtain⟨kv,vv⟩:=y;obtain⟨r3,r4⟩:=r1;obtain rfl:kv=Value.ref a:=r3;refine qF ?_;rw[qA];have dd:D2 X.w H2 'g' none []:=⟨e,jp,jT _,λ_ h=>nomatch h⟩;obtain⟨hd,xs,pr,dh⟩:=XA I2 dd
  cases pr
  dsimp only;refine q8 (q8 (q8 (wpAny_dictSet_heap (knd:=ZD X.prog X.w) (hsz:=jT _) (by show X.A.units+8<cLine;omega) (Ys I2 ek) dh λh' dd' hs=>qf ?_)));dsimp only;rw[List.forIn_nil];refine qf (qf (qf (qf ⟨.ref 'g',_,?_,rfl,q2⟩)));obtain⟨o',es,ep,hq,h2,h3,h4,_,h5⟩:=dd';refine ay I2 (by rw[e];exact True.intro) hs ⟨o',hq⟩ ?_;exact⟨⟨storedH [] k a vv,.cons ⟨rfl,rfl,r4⟩ .nil,hd,o',es,ep,hq,h2,h3,h4⟩,⟨o',hq⟩,λh1 h2 x st=>b6 x st⟩
end
section
variable {X:Cx}{xt:xg}{σ:St}{H:Hp}{s:xR}{A:xV}{E:xc}
theorem AI(hu:A.units+64<cLine)(I:Inv X xt σ H s)(ea:D2 X.w H a none ks)(eb:H b=some (.dK []))(h:Q (.bool (decide (ks=[]))) s) :
 wpAny (model X.prog X.w) A (richCompare .Eq (.ref a) (.ref b)) Q E s:=by
 obtain⟨sa,xs,pr,d1⟩:=XA I ea;obtain⟨z2,sb,vs2,r2,d2⟩:=ax I.hok eb;refine wpAny_richCompare_same_room d1.typeIs d2.typeIs F.slot_dict_eq (qE F.slot_dict_eq d1.typeIs F.entry_dict_eq ?_ (F.args_dict_eq_2 _ _)) 'c';obtain⟨o1,es1,ep1,ho1,hx1,hd1,he1,_⟩:=id d1;obtain⟨o2,es2,ep2,ho2,hx2,hd2,hk2,hp2,hn2⟩:=id d2
 have l1:es1.size=ks.length:=by
  have e:=size_of_entries (knd:=ZD X.prog X.w) he1;have:=qG List.length (ZE pr);rw[jA,jA]at this;omega
 have l2:es2.size=0:=by
  have:=hp2.length;have m2:=Paired.length r2;rw[js]at this;simp at m2;omega
 refine q8 ?_;unfold Builtin.Dict.dictSlotArgs;refine q8 (qV d1.typeIs ?_);refine q8 (qf ?_);refine qf ?_;refine q8 (x5 d2.typeIs F.sub_dict_dict ?_);rw[qg 'd'];refine q8 (qf ?_);refine q8 (qf ?_);refine q8 ?_;unfold Builtin.Dict.samePairs;unfold Builtin.Dict.showsAll;rw[qg (by rw[sa];exact jR)];refine q8 (qf ?_);rw[qg (by rw[sb];exact jR)];refine q8 (qf ?_);refine q8 (qM ho1 hd1 ?_);refine q8 (qM ho2 hd2 ?_)
 by_cases c:ks=[]
 . have hz:es1.size=0:=by rw[l1,c];rfl
   rw[qg (by simp[hz,l2])];refine q8 (qX ho1 hd1 ?_);refine q8 ?_;rw[hz,Std.Legacy.Range.forIn_eq_forIn_range'];simp only[Std.Legacy.Range.size,Nat.sub_zero,Nat.add_sub_cancel,Nat.div_one];refine qf ?_;refine qf (qf ⟨_,rfl,(λz=>nomatch z),?_⟩);rw[qi c]at h;exact h
 . have hz:es1.size≠0:=λz=>c (kO.mp 'c');rw[qh (by simp[l2];exact λz=>hz (by rw[z];rfl))];rw[qj c]at h;exact q8 (qZ (qf (qf ⟨_,rfl,(λz=>nomatch z),h⟩)))
def ba(w:xU)(hw:X.w=w)(hu:X.A.units+64<cLine):OpR X (compareOp .Eq) (λx y H Q=>∃(a b:xS) (ks:List KE),x=.ref a/\y=.ref b/\D2 w H a none ks/\H b=some (.dK [])/\Q (.bl (decide (ks=[]))) H):=by
 subst hw;intro xt s σ H x y v u Q I rx ry h;obtain⟨a,b,ks,rfl,rfl,ea,eb,q⟩:=h
 cases rx
 cases ry
 exact AI hu I ea eb ⟨.bl _,H,I,rfl,q⟩
end
def AJ:typeLookup (.type "tuple") "keys" = pure none:=am_miss_of_fast (by kernel_rfl)
def AK
 (hx:'i' a=some o) (hc:o.cls=.type "tuple") (xA:o.data=.seq xs k) (hd:o.dict=none) (hA:A.handled=none)
 (h:∀h' tk,(∀b o,'i' b=some o->h'.get? b=some o)->Q none { s with heap:=h',toks:=tk }) :
 wpAny (model prog w) A (getAttr? (.ref a) "keys") Q E s:=by
 obtain⟨c,dct,dat,sl⟩:=o;simp only at hc xA hd;subst hc xA hd;obtain⟨hp,g,d,tk,os⟩:=s;have hT:∀xH,(⟨hp,g,d,xH,os⟩:xR).TypeIs (.ref a) "tuple" := λ_=>⟨_,hx,rfl⟩;have f1:=sub_AttributeError;have f3:=F.slot_tuple_getattribute.lookup;have f4:=F.slot_tuple_getattribute.bind (.ref a);have f5:=am_tuple_getattr_none;unfold getAttr? getAttrBy? getAttrBy
 repeat (any_goals (first|assumption|exact hT _|((with_reducible show wpAny _ _ (call (Value.builtin "tuple.__getattribute__") _ _) _ _ _);refine call_meets F.slot_tuple_getattribute (hT _) am_entry_tuple_getattribute (F.args_tuple_getattribute_2 _ _) (meets_getattribute_miss_tuple a xs k sl "keys" _ AJ 'd' (by rw[qH];decide)) ⟨hx,hA,λh' xH e hx'=>?_⟩)|wp_step))
 obtain⟨t',u',he⟩:=hx'.there;show wpAny _ _ (getattributeRaised _ _ _ _ _ _ _) _ _ _;unfold getattributeRaised
 repeat (any_goals (first|assumption|wp_step))
 exact h _ _ hx'.keeps
section
variable {X:Cx}{xt:xg}{σ:St}{H:Hp}{s:xR}
def AL{more:List (Key×V)}{ys:List V}{E:xc}{Q:xc}(hh:X.A.handled=none)(I:Inv X xt σ H s)(el:TupZ H l ys)(hp:Paired (Qw H) ys more)(z:more.length<=sizeLine)
 (h:∀a s',H a=none->Inv X xt σ (upd H a (.dK (JJ [] more))) s'->Q (.ref a) s'):wpAny (model X.prog X.w) X.A (call (.type "dict") [.ref l]) Q E s:=by
 obtain⟨ob,el0,dn⟩:=el;obtain⟨eo,_,its,r,o2,ho2,hcl,n,hdt⟩:=(show ObjOk X.prog X.w H s.heap l (.frz ob (.tup ys)) from I.hok l _ el0);rw[eo]at ho2;cases ho2;exact nQ (T := "tuple") hh I eo hcl 'd' r ⟨_,el0⟩ hp z (λA E s1 Q' hA e k=>AK e hcl hdt dn hA k) (λs1 e=>⟨_,_,(λA E Q hq=>wpAny_pyIter_tuple ⟨_,e,hcl,_,hdt⟩ hq),(λA hA=>Walks.tuple hA _ l (jQ (jI e)) its.toArray),⟨⟨_,jH _ rfl,rfl,rfl⟩,⟨_,jC _ e,hcl,_,hdt⟩⟩⟩) h
def g8(hc:X.calm=true):CallR X (.type "dict") (λvs H Q=>∃(l:xS) (ys:List V) (more:List (Key×V)),vs=[.ref l]/\TupZ H l ys/\Paired (Qw H) ys more/\more.length<=sizeLine/\∀p,H p=none->Q (.ref p) (upd H p (.dK (JJ [] more)))):=by
 intro xt s σ H xs us Q I r h;obtain⟨l,ys,more,rfl,el,hp,z,q⟩:=h;obtain⟨u,rfl,ru⟩:=Qc r
 cases ru
 exact AL (I.ok.hd hc) I el hp z λp s' hp I'=>⟨.ref p,_,I',rfl,q p hp⟩
end
def kLt:Key->Key->Bool
 |.inl i,.inl j=>decide (i<j)
 |.inr x,.inr y=>decide (ltS x y)
 |_,_=>false
def kTy:Key->String
 |.inl _ => "int"
 |.inr _ => "str"
theorem AM:∀{a b c:Key},kLt a b=true->kLt b c=true->kLt a c=true
 |.inl i,.inl j,.inl k,h1,h2=>by
  have h1:=qm h1;have h2:=qm h2;exact qi 'c'
 |.inr _,.inr _,.inr _,h1,h2=>qi (Yn (qm h1) (qm h2))
def AN(t:kTy a=kTy b)(n:a≠b)(h:kLt a b=false):kLt b a=true:=by
 cases a with
 |inl i =>
  cases b with
  |inl j =>
   have h:=of_decide_eq_false h;refine qi ?_;have:i≠j:=λz=>n (by rw[z]);omega
  |inr y=>exact absurd t (by decide:("int" : String) ≠ "str")
 |inr x =>
  cases b with
  |inl j=>exact absurd t (by decide:("str" : String) ≠ "int")
  |inr y=>exact qi (aP (λz=>n (by rw[z])) (of_decide_eq_false h))
def AO(k:Key):(Value.type (kTy k) != Value.type "tuple")=true:=by
 cases k with
 |inl i=>show(Value.type "int" != Value.type "tuple")=true;decide
 |inr i=>show(Value.type "str" != Value.type "tuple")=true;decide
def AQ(e:QA k v=true):Looks M h (typeOf v) (.type (kTy k)):=by
 rcases Qp e with ⟨i,t,rfl,rfl⟩|⟨x,t,rfl,rfl⟩<;>exact .now
def AR(t:kTy a=kTy b)(ha:QA a u=true)(hb:QA b v=true)(h:Q (kLt a b) s):wpAny (model prog w) A (oneLt' true u v) Q E s:=by
 rcases Qp ha with ⟨i,t1,rfl,rfl⟩|⟨x,t1,rfl,rfl⟩
 . rcases Qp hb with ⟨j,t2,rfl,rfl⟩ | ⟨y,t2,rfl,rfl⟩
   . exact oneLt_int h
   . exact absurd t (by decide:("int" : String) ≠ "str")
 . rcases Qp hb with ⟨j,t2,rfl,rfl⟩ | ⟨y,t2,rfl,rfl⟩
   . exact absurd t (by decide:("str" : String) ≠ "int")
   . exact oneLt_str h
section
variable {X:Cx}{xt:xg}{σ:St}{H:Hp}{s:xR}
def AS(hc:X.calm=true)(hu:X.A.in1.in1.units<cLine)(I:Inv X xt σ H s)(e:H a=some (.dK ks))(hom:∀kv∈ks,kTy kv.1=T)(few:ks.length<64)(view:s.heap.IsItemsView r a)
 (q:∀(H':Hp) (l:xS) (qs:List (Key×V)) (xs:List V),qs.Perm ks->qs.Pairwise (λp q=>kLt p.1 q.1=true)->Same H H'->H l=none->H' l=some (.lst xs)->'h'=qs.length->(∀(i:Nat) (x:V) (kv:Key×V),xs[i]?=some x->qs[i]?=some kv->Qw H' x kv)->Q (.ref l) H') :
 wpAny (model X.prog X.w) X.A (call (.builtin "sorted") [.ref r]) (EP X xt σ Q) X.xe s:=by
 obtain⟨_,lo,vs,rel,o,es,ep,ho,hd,xA,ko,hp,nd⟩:=ax I.hok e;have vl:vs.length=ks.length:=rel.length.symm;have el:es.size=ks.length:=by have:=hp.length;rw[js]at this;omega
 obtain⟨yy,eyy⟩:∃yy:Nat->xQ,yy=λi=>(es[i]?.map (·.key)).getD .none:=⟨_,rfl⟩;obtain⟨uu,euu⟩:∃uu:Nat->xQ,uu=λi=>(es[i]?.map (·.val)).getD .none:=⟨_,rfl⟩;obtain⟨kk,ekk⟩:∃kk:Nat->Key×V,kk=λi=>ks.getD i (.inl 0,.non):=⟨_,rfl⟩
 have at_:∀i,i<ks.length->ks[i]?=some (kk i)/\QA (kk i).1 (yy i)=true/\RelV (kk i).2 (uu i)/\vs[i]?=some ((kk i).1,uu i):=λi hi=>by
  have hi2:i<es.size:=by omega
  have e1:ks[i]?=some (kk i):=by rw[jB hi,ekk];simp[List.getD,hi]
  obtain⟨v,e2,e3,e4⟩:=X3 rel e1;obtain⟨g1,g2⟩:=hp.get? (e:=es[i]) (k:=v.1) (v:=v.2) (by simp[hi2]) e2;have y1:yy i=es[i].key:=by rw[eyy];simp[hi2]
  have y2:uu i=es[i].val:=by rw[euu];simp[hi2]
  refine⟨e1,?_,?_,?_⟩
  . rw[y1,e3];exact g1
  . rw[y2,g2];exact e4
  . rw[y2,g2,e3];exact e2
 have ent:∀i,i<ks.length->∃hs:Int,es[i]?=some ⟨hs,yy i,uu i⟩:=λi hi=>by
  have hi2:i<es.size:=by omega
  refine⟨es[i].hash,?_⟩;rw[jl hi2,eyy,euu];simp[hi2]
 have dist:∀i j,i<ks.length->j<ks.length->i≠j->(kk i).1≠(kk j).1:=λi j hi hj xF z=>by
  have e1:(vs.map (·.1))[i]?=some (kk i).1:=by rw[jD,(at_ i hi).2.2.2];rfl
  have e2:(vs.map (·.1))[j]?=some (kk i).1:=by rw[jD,(at_ j hj).2.2.2,z];rfl
  obtain⟨a1,c1⟩:=jF.mp e1;obtain⟨a2,c2⟩:=jF.mp e2;exact xF ((List.getElem_inj nd).mp (c1.trans c2.symm))
 have tyT:∀i,i<ks.length->kTy (kk i).1=T:=λi hi=>hom _ (jZ (at_ i hi).1);have ord:SOrd ks.length λi j=>kLt (kk i).1 (kk j).1:=⟨λi j k _ _ _ h1 h2=>AM h1 h2,λi j hi hj xF h=>AN ((tyT i hi).trans (tyT j hj).symm) (dist i j hi hj xF) h⟩;refine nF (T:=T) kk (λi=>kV (kk i).1) yy uu kLt hc I ho xA el few view ent (λi hi=>yI (P:=X.prog) (w:=X.w) (at_ i hi).2.1) (λi hi=>(at_ i hi).2.2.1) ord (λi hi g kp=>?_) (λi j hi hj xF s2 Z kp hZ=>?_) λH' l qs xs' pm pw sm fl el2 xl2 pr=>q H' l qs xs' ?_ pw sm fl el2 xl2 λj x kv e1 e2=>?_
 . rw[<- tyT i hi];exact AQ (at_ i hi).2.1
 . refine(Jl X.prog X.w).eqBool (E:=λ_ _=>False) (at_ i hi).2.1 (at_ j hj).2.1 ⟨qj (dist i j hi hj xF),?_⟩;rw[<- tyT i hi,AO];exact AR ((tyT i hi).trans (tyT j hj).symm) (at_ i hi).2.1 (at_ j hj).2.1 hZ
 . have e1:(List.range ks.length).map kk=ks:=by
    refine kX (by rw[jA,kP]) λi h1 h2=>?_;rw[j9,List.getElem_range,ekk];simp[List.getD,h2]
   rwa [e1]at pm
 . obtain⟨i,hi,rfl,p,rfl,h1,h2⟩:=pr j x kv e1 e2;exact⟨p,rfl,h1⟩
def AT(td:TE):TE:=λσ H Q=>td σ H λx H1=>∃a ks T,x=.ref a/\H1 a=some (.dK ks)/\ks.length<64/\(∀kv∈ks,kTy kv.1=T) /\
 ∀(H':Hp) (l:xS) (qs:List (Key×V)) (xs:List V),qs.Perm ks->qs.Pairwise (λp q=>kLt p.1 q.1=true)->Same H1 H'->H1 l=none->H' l=some (.lst xs)->'h'=qs.length->(∀(i:Nat) (x:V) (kv:Key×V),xs[i]?=some x->qs[i]?=some kv->Qw H' x kv)->Q (.ref l) H'
def AU{td:TE}{p ap cp pos:Pos}(hc:X.calm=true)(hu:X.A.in1.in1.units<cLine)(hg:Gl X "sorted")(hm:X.mg "sorted" = none)(hv:bootBuiltins "sorted" = some (.builtin "sorted"))(ho:PE X o td)
 (xK:attributeBase o "items" X.env (eval o X.env)=eval o X.env:=by rfl) (xL:(ap.endLine==cp.line)=true:=by rfl):PE X (.Call (.Name "sorted" p) [.Call (.Attribute o "items" ap) [] [] cp] [] pos) (AT td):=by
 intro xt s σ H Q I h;refine qI (QR I hg hm hv ?_ 'd' 'd');refine PyProof.Rows.callWith_builtin1 ?_ rfl rfl;show wpAny _ _ (spliced [(false,eval (.Call (.Attribute o "items" ap) [] [] cp) X.env)]) _ _ s;refine Calls.spliced_cons (x8 xK xL (thn (ho xt s σ H _ I h) λv s1 pc=>?_));obtain⟨x,H1,I1,r1,a,ks,T,ex,e1,few,hom,q1⟩:=pc;subst ex;obtain rfl:v=Value.ref a:=r1;obtain⟨t1,t2,t3⟩:=aC I1 (.inl ⟨_,.inl e1⟩);obtain⟨_,_,vs,rel,o1,es,ep,ho1,hd1,_⟩:=ax I1.hok e1;refine⟨"dict", "dict.items",PySem.F.plainAttrs_dict,PySem.F.slot_dict_items,PySem.F.type_dict_items,t1,t2,Calls.callWith_builtin rfl (PySem.evalArgs_none (aL ho1 hd1 t3 ?_))⟩;refine Calls.spliced_nil ?_;have I2:=I1.kept (h':=s1.heap.push { cls := .type "dict_items",data := .fields #[.ref a] }) (t':=s1.toks) λb u q=>jC _ q;exact AS hc hu I2 e1 hom few ⟨_,jH _ rfl,rfl,rfl⟩ q1
end
end L2
set_option Elab.async false
set_option linter.all false
set_option maxRecDepth 100000
set_option maxHeartbeats 4000000
namespace Fd
open PySem L2
def top(i:Nat):Stmt:=PySem.Challenge.pw_fairdraw_k51_rows_walked.main.body.getD i (.Pass ⟨0,0,0,0⟩)
abbrev bc:Stmt:=top 6
abbrev bf:Stmt:=top 7
abbrev bg:Stmt:=top 8
abbrev bj:Stmt:=top 9
abbrev bn:Stmt:=top 10
abbrev bo:Stmt:=top 11
abbrev bq:Stmt:=top 12
abbrev br:Stmt:=top 16
abbrev bt:Stmt:=top 17
abbrev Yv:Stmt:=top 18
abbrev Yw:Stmt:=top 19
abbrev bv:Stmt:=top 21
abbrev bw:Stmt:=top 22
abbrev bx:Stmt:=top 23
abbrev bz:Stmt:=top 24
abbrev bA:Stmt:=top 26
abbrev XB:Stmt:=top 29
abbrev XC:Stmt:=top 30
abbrev bB:Stmt:=top 32
abbrev bC:Stmt:=top 33
abbrev bD:Stmt:=top 34
abbrev bE:Stmt:=top 35
abbrev bF:Stmt:=top 36
abbrev bG:Stmt:=top 37
abbrev bH:Stmt:=top 38
abbrev bJ:Stmt:=top 39
abbrev Yx:Stmt:=top 40
abbrev bK:Stmt:=top 41
abbrev bL:Stmt:=top 42
abbrev bM:Stmt:=top 43
abbrev bN:Stmt:=top 44
abbrev bO:Stmt:=top 45
abbrev bP:Stmt:=top 46
abbrev bQ:Stmt:=top 47
abbrev X4:Stmt:=top 48
structure Bl (mg:xf):Prop where
 abs:mg "abs" = none
 bool:mg "bool" = none
 dict:mg "dict" = none
 int:mg "int" = none
 isinstance:mg "isinstance" = none
 len:mg "len" = none
 list:mg "list" = none
 range:mg "range" = none
 reversed:mg "reversed" = none
 sorted:mg "sorted" = none
 str:mg "str" = none
 sum:mg "sum" = none
 tuple:mg "tuple" = none
 zip:mg "zip" = none
def Qo(s:Stmt):List Stmt:=match s with | .ClassDef _ _ _ b _ _ _ _ _ _ _=>b|_=>[]
abbrev bR:Stmt:=(Qo (top 14)).getD 0 (.Pass ⟨0,0,0,0⟩)
abbrev bS:Stmt:=(Qo (top 27)).getD 0 (.Pass ⟨0,0,0,0⟩)
abbrev bT:Stmt:=(Qo (top 27)).getD 1 (.Pass ⟨0,0,0,0⟩)
abbrev bU:Stmt:=(Qo (top 27)).getD 2 (.Pass ⟨0,0,0,0⟩)
abbrev pF:Stmt:=(Qo (top 27)).getD 3 (.Pass ⟨0,0,0,0⟩)
abbrev bV:Stmt:=(Qo (top 28)).getD 0 (.Pass ⟨0,0,0,0⟩)
abbrev bW:Stmt:=(Qo (top 28)).getD 1 (.Pass ⟨0,0,0,0⟩)
abbrev bX:Stmt:=(Qo (top 28)).getD 2 (.Pass ⟨0,0,0,0⟩)
abbrev bY:Stmt:=(Qo (top 28)).getD 3 (.Pass ⟨0,0,0,0⟩)
abbrev bZ:Stmt:=(Qo (top 28)).getD 4 (.Pass ⟨0,0,0,0⟩)
abbrev c9:Stmt:=(Qo (top 28)).getD 5 (.Pass ⟨0,0,0,0⟩)
abbrev cb:Stmt:=(Qo (top 28)).getD 6 (.Pass ⟨0,0,0,0⟩)
abbrev pG:Stmt:=(Qo (top 28)).getD 7 (.Pass ⟨0,0,0,0⟩)
abbrev cf:Stmt:=(Qo (top 28)).getD 8 (.Pass ⟨0,0,0,0⟩)
abbrev cg:Stmt:=(Qo (top 28)).getD 9 (.Pass ⟨0,0,0,0⟩)
abbrev ci:Stmt:=(Qo (top 14)).getD 1 (.Pass ⟨0,0,0,0⟩)
def ZF:FnScope ["one", "other", "rest"] ["one", "other"] (defScope bc):='b'
def AV:FnScope ["thing"] ["thing"] (defScope bf):='b'
def g9:FnScope ["top", "bottom", "common"] ["top", "bottom"] (defScope bg):='b'
def Yy:FnScope ["one", "other", "common", "own", "others", "rest"] ["one", "other"] (defScope bj):='b'
def gb:FnScope ["one", "other", "left", "right"] ["one", "other"] (defScope bn):='b'
def AW:FnScope ["one", "other"] ["one", "other"] (defScope bo):='b'
def ck:FnScope ["some", "so_far", "one"] ["some"] (defScope bq):='b'
def AX:FnScope ["sign", "numbers"] ["sign", "numbers"] (defScope br):='b'
def AY:FnScope ["sign", "numbers"] ["sign", "numbers"] (defScope bt):='b'
def pH:FnScope ["e", "book"] ["e", "book"] (defScope Yv):='b'
def Yz:FnScope ["e", "found", "part", "name"] ["e"] (defScope Yw):='b'
def AZ:FnScope ["values", "places"] ["values", "places"] (defScope bv):='b'
def B0:FnScope ["names", "some"] ["names", "some"] (defScope bw):='b'
def YA:FnScope ["rows", "places", "shares", "values", "share", "rest"] ["rows", "places"] (defScope bx):='b'
def gf:FnScope ["table", "names", "rows", "together"] ["table", "names"] (defScope bz):='b'
def B1:FnScope ["some", "place", "one"] ["some", "place", "one"] (defScope bA):='b'
def cm:FnScope ["program", "most", "ahead", "behind", "names"] ["program", "most"] (defScope XB):='b'
def B2:FnScope ["program", "most"] ["program", "most"] (defScope XC):='b'
def B3:FnScope ["_law_script", "_law_k"] ["_law_script", "_law_k"] (defScope bB):='b'
def pI:FnScope ["_law_cell", "_law_k", "_law_some"] ["_law_cell", "_law_k"] (defScope bC):='b'
def pJ:FnScope ["_law_one", "_law_other"] ["_law_one", "_law_other"] (defScope bD):='b'
def pK:FnScope ["_law_top", "_law_bottom", "_law_by"] ["_law_top", "_law_bottom"] (defScope bE):='b'
def XD:FnScope ["_law_cell", "_law_k", "_law_letters", "_law_stride", "_law_pair", "_law_way", "_law_more", "_law_j"] ["_law_cell", "_law_k"] (defScope bF):='b'
def B4:FnScope ["_law_cell", "_law_names"] ["_law_cell", "_law_names"] (defScope bG):='b'
def YB:FnScope ["_law_cell", "_law_names", "_law_one", "_law_other", "_law_third", "_law_sign"] ["_law_cell", "_law_names"] (defScope bH):='b'
def B5:FnScope ["_law_sign", "_law_here", "_law_there"] ["_law_sign", "_law_here", "_law_there"] (defScope bJ):='b'
def gh:FnScope ["_law_e", "_law_book", "_law_some"] ["_law_e", "_law_book"] (defScope Yx):='b'
def Z3:FnScope ["_law_cell", "_law_many", "_law_far", "_law_start", "_law_weights", "_law_whole", "_law_some"] ["_law_cell", "_law_many", "_law_far"] (defScope bK):='b'
def cn:FnScope ["_law_now", "_law_book", "_law_part", "_law_key", "_law_top", "_law_bottom"] ["_law_now", "_law_book", "_law_part"] (defScope bL):='b'
def ZG:FnScope ["_law_row_here", "_law_now", "_law_then", "_law_key", "_law_book", "_law_number", "_law_part"] ["_law_row_here", "_law_now"] (defScope bM):='b'
def cq:FnScope ["_law_cell", "_law_names", "_law_pool", "_law_now", "_law_name_here", "_law_e", "_law_row_here"] ["_law_cell", "_law_names", "_law_pool", "_law_now"] (defScope bN):='b'
def XE:FnScope ["_law_now", "_law_asked", "_law_sums", "_law_key", "_law_whole", "_law_due", "_law_values"] ["_law_now", "_law_asked"] (defScope bO):='b'
def YC:FnScope ["_law_program", "_law_word", "_law_e"] ["_law_program"] (defScope bP):='b'
def B6:FnScope ["_law_program"] ["_law_program"] (defScope bQ):='b'
def Qy:FnScope ["_law_script", "_law_pool", "_law_rows", "_law_names", "_law_now", "_law_cell", "_law_turn", "_law_asked", "_law_program", "_law_handed", "_law_found", "_law_due", "_law_row_here"] ["_law_script"] (defScope X4):='b'
def B7:FnScope ["self", "most"] ["self", "most"] (defScope bR):='b'
def B8:FnScope ["self", "names", "most"] ["self", "names", "most"] (defScope bS):='b'
def B9:FnScope ["self", "name"] ["self", "name"] (defScope bT):='b'
def XF:FnScope ["self", "es", "wanted", "e", "places", "found", "numbers", "share", "book"] ["self", "es"] (defScope bU):='b'
def Ba:FnScope ["self", "parts", "most"] ["self", "parts", "most"] (defScope bV):='b'
def Z4:FnScope ["self", "row", "ahead", "place", "behind", "numbers", "share", "number", "part_share"] ["self", "row", "ahead"] (defScope bW):='b'
def ZH:FnScope ["self", "row", "ahead", "place", "behind", "numbers", "share", "found"] ["self", "row", "ahead"] (defScope bX):='b'
def YD:FnScope ["self", "row", "ahead", "behind", "numbers", "share", "found"] ["self", "row", "ahead"] (defScope bY):='b'
def Bb:FnScope ["self", "row", "ahead", "first", "second", "behind", "numbers", "share", "found", "branch"] ["self", "row", "ahead"] (defScope bZ):='b'
def Bc:FnScope ["self", "row", "ahead", "behind", "time"] ["self", "row", "ahead"] (defScope c9):='b'
def Be:FnScope ["self", "row", "ahead", "place", "behind", "numbers", "share", "arguments", "result", "part_share"] ["self", "row", "ahead"] (defScope cb):='b'
def Bf:FnScope ["self", "row", "ahead"] ["self", "row", "ahead"] (defScope cf):='b'
def cr:FnScope ["self", "rows", "ahead", "behind", "row"] ["self", "rows", "ahead"] (defScope cg):='b'
def pL:FnScope ["self", "numbers", "share"] ["self", "numbers", "share"] (defScope ci):='b'
def G(a b:Int):Int:=((Int.gcd a b:Nat):Int)
def ab(i:Int):Int:=if i<0 then -i else i
def pM(i:Int):0<=ab i:=by unfold ab;split<;>omega
def pN(i:Int):(ab i).natAbs=i.natAbs:=by unfold ab;split<;>omega
def pO(a b:Int):0<=G a b:=Int.natCast_nonneg _
def Bg(a b:Int):G (ab a) (ab b)=G a b:=by
 show((Nat.gcd (ab a).natAbs (ab b).natAbs:Nat):Int)=((Nat.gcd a.natAbs b.natAbs:Nat):Int);rw[pN,pN]
def cu(a b:Int):G a b=G b a:=by unfold G;rw[Int.gcd_comm]
def pP(h:0<=a)(hb:b=0):G a b=a:=by
 subst hb;unfold G;rw[Int.gcd_zero_right];omega
def pQ(ha:0<=a)(hb:0<b):G b (a % b)=G a b:=by
 show((Nat.gcd b.natAbs (a % b).natAbs:Nat):Int)=((Nat.gcd a.natAbs b.natAbs:Nat):Int);rw[Int.natAbs_emod_of_nonneg ha,Nat.gcd_comm b.natAbs,<- Nat.gcd_rec,Nat.gcd_comm]
def cv(a b:Int):G a b ∣ a:=Int.gcd_dvd_left a b
def YE(a b:Int):G a b ∣ b:=Int.gcd_dvd_right a b
def Bh(h1:k ∣ a)(h2:k ∣ b):k ∣ G a b:=Int.dvd_coe_gcd h1 h2
def Bi:G a b=0↔a=0/\b=0:=by
 constructor
 . intro h;have h1:=cv a b;have h2:=YE a b;rw[h]at h1 h2;exact⟨Int.zero_dvd.mp h1,Int.zero_dvd.mp h2⟩
 . rintro⟨rfl,rfl⟩;rfl
def Z5(hb:b≠0):0<G a b:=by
 have h1:=pO a b;have h2:G a b≠0:=λh=>hb (Bi.mp h).2;omega
def gj(hb:b≠0):G a b<=b.natAbs:=by
 have h:=YE a b;have:=Int.le_of_dvd (show 0<(b.natAbs:Int) by omega) (Int.dvd_natAbs.mpr h);exact this
def pR(hb:b≠0):G (t / G t b) (b / G t b)=1:=by
 have h0:0<G t b:=Z5 hb
 have hg:0<Int.gcd t b:=by
  have:(0:Int)<(Int.gcd t b:Nat):=h0;omega
 have:=Int.gcd_ediv_gcd_ediv_gcd (i:=t) (j:=b) hg;unfold G;rw[this];rfl
def pS(h1:G p q=1)(h:q ∣ p*b):q ∣ b:=by
 have h':Int.gcd q p=1:=by
  have:((Int.gcd p q:Nat):Int)=1:=h1;rw[Int.gcd_comm];omega
 have q1:q ∣ ((Int.gcd q (p*b):Nat):Int):=Int.dvd_coe_gcd (Int.dvd_refl q) h;rw[Int.gcd_mul_right_right_of_gcd_eq_one h']at q1;exact Int.dvd_trans q1 (Int.gcd_dvd_right q b)
def gk(hq:0<q)(hb:0<b)(h1:G p q=1)(h2:G a b=1)(h:p*b=a*q):p=a/\q=b:=by
 have d1:q ∣ b:=pS h1 ⟨a,by rw[h,Int.mul_comm]⟩;have d2:b ∣ q:=pS h2 ⟨p,by rw[<- h,Int.mul_comm]⟩
 have e:q=b:=by
  have l1:=Int.le_of_dvd hb d1;have l2:=Int.le_of_dvd hq d2;omega
 subst e;refine⟨Int.eq_of_mul_eq_mul_right 'c' h,rfl⟩
def X5(r:Rat):G r.num (r.den:Int)=1:=by
 have:=r.reduced;unfold G;rw[show Int.gcd r.num (r.den:Int)=Nat.gcd r.num.natAbs r.den from rfl,this];rfl
def Q9(r:Rat):0<(r.den:Int):=by have:=r.den_pos;omega
def ZI(hb:b≠0):(Rat.divInt t b).num*b=t*((Rat.divInt t b).den:Int):=by
 have e:=j7 (Rat.divInt t b);have d:=Q9 (Rat.divInt t b);exact(Rat.divInt_eq_divInt_iff 'c' hb).mp e
def sg(t b:Int):Int:=if b<0 then -(G t b) else G t b
def Bj(a b:Int):G (-a) (-b)=G a b:=by
 unfold G;rw[Int.gcd_neg,Int.neg_gcd]
def gm(hb:b≠0):sg t b≠0:=by
 have:=Z5 (a:=t) hb;unfold sg;split<;>omega
def gn(hb:b≠0):∃x y,t=sg t b*x/\b=sg t b*y/\0<y/\G x y=1:=by
 have g0:=Z5 (a:=t) hb;obtain⟨x,hx⟩:=cv t b;obtain⟨y,hy⟩:=YE t b;have ex:t / G t b=x:=kZ 'c' hx;have ey:b / G t b=y:=kZ 'c' hy;have e1:=pR (t:=t) hb;rw[ex,ey]at e1;have hyn:y≠0:=λz=>hb (by rw[hy,z,Int.mul_zero]);unfold sg
 by_cases h:b<0
 . rw[qh h];refine⟨-x,-y,by rw[Int.neg_mul_neg];exact hx,by rw[Int.neg_mul_neg];exact hy,?_,by rw[Bj];exact e1⟩
   have:¬0<=y:=λz=>by
    have:=Int.mul_nonneg (Int.le_of_lt g0) z;omega
   omega
 . rw[qg h];refine⟨x,y,hx,hy,?_,e1⟩
   have:¬y<=0:=λz=>by
    have:=Int.mul_nonpos_of_nonneg_of_nonpos (Int.le_of_lt g0) z;omega
   omega
def cw(hb:b≠0):t.fdiv (sg t b)=(Rat.divInt t b).num/\b.fdiv (sg t b)=((Rat.divInt t b).den:Int):=by
 obtain⟨x,y,hx,hy,y0,e1⟩:=gn (t:=t) hb;have s0:=gm (t:=t) hb;have c:=ZI (t:=t) hb
 have c':(Rat.divInt t b).num*y=x*((Rat.divInt t b).den:Int):=by
  generalize sg t b=s at *;generalize(Rat.divInt t b).num=n at *;generalize((Rat.divInt t b).den:Int)=d at *;subst hx hy
  have:s*(n*y)=s*(x*d):=by
   have e1:s*(n*y)=n*(s*y):=by rw[<- Int.mul_assoc,Int.mul_comm s n,Int.mul_assoc]
   rw[e1,c,Int.mul_assoc]
  exact Int.eq_of_mul_eq_mul_left s0 this
 have u:=gk (Q9 _) y0 (X5 _) e1 c';constructor
 . conv=>lhs;arg 1;rw[hx]
   rw[kJ _ s0];exact u.1.symm
 . conv=>lhs;arg 1;rw[hy]
   rw[kJ _ s0];exact u.2.symm
def Bk(r s:Rat):Rat.divInt (r.num*(s.den:Int)+s.num*(r.den:Int)) ((r.den:Int)*(s.den:Int))=r+s:=by
 have h1:=Q9 r;have h2:=Q9 s;rw[<- Rat.divInt_add_divInt _ _ 'c' 'c',j7,j7]
def Bm(r s:Rat):Rat.divInt (r.num*s.num) ((r.den:Int)*(s.den:Int))=r*s:=by
 rw[<- Rat.divInt_mul_divInt,j7,j7]
def cx(hb:b≠0):(Rat.divInt t b).num.natAbs<=t.natAbs/\(Rat.divInt t b).den<=b.natAbs:=by
 obtain⟨x,y,hx,hy,y0,e1⟩:=gn (t:=t) hb;have s0:=gm (t:=t) hb;have f:=cw (t:=t) hb
 have fx : t.fdiv (sg t b) = x := by conv => lhs; arg 1; rw [hx]
                                     rw[kJ _ s0]
 have fy : b.fdiv (sg t b) = y := by conv => lhs; arg 1; rw [hy]
                                     rw[kJ _ s0]
 rw[fx,fy]at f;have s1:1<=(sg t b).natAbs:=by omega
 constructor
 . rw[<- f.1]
   have : t.natAbs = (sg t b).natAbs * x.natAbs := by conv => lhs; rw [hx]
                                                      rw[Int.natAbs_mul]
   rw[this];exact Nat.le_mul_of_pos_left _ s1
 . have e:(Rat.divInt t b).den=y.natAbs:=by omega
   rw[e]
   have : b.natAbs = (sg t b).natAbs * y.natAbs := by conv => lhs; rw [hy]
                                                      rw[Int.natAbs_mul]
   rw[this];exact Nat.le_mul_of_pos_left _ s1
def JR(rs:List Rat):Rat:=rs.foldl (· + ·) 0
def pT(rs:List Rat):∀a,rs.foldl (· + ·) a=a+JR rs:=by
 induction rs with
 |nil=>intro a;show a=a+0;grind
 |cons r rs ih=>intro a;show rs.foldl (· + ·) (a+r)=a+rs.foldl (· + ·) (0+r);rw[ih,ih];grind
def Bn(a b:List Rat):JR (a++b)=JR a+JR b:=by
 unfold JR;rw[kQ,pT b];rfl
def XG(r:Rat)(rs:List Rat):JR (r::rs)=r+JR rs:=by
 show rs.foldl (· + ·) (0+r)=_;rw[pT];grind
def Bo(rs:List Rat)(r:Rat):JR (rs++[r])=JR rs+r:=by unfold JR;rw[kQ];rfl
def cy(h1:G x y=1)(h2:G x z=1):G x (y*z)=1:=by
 have h1':Int.gcd x y=1:=by have:((Int.gcd x y:Nat):Int)=1:=h1;omega
 have h2':Int.gcd x z=1:=by have:((Int.gcd x z:Nat):Int)=1:=h2;omega
 unfold G;rw[Int.gcd_mul_right_right_of_gcd_eq_one h1',h2'];rfl
def cz(h1:G x z=1)(h2:G y z=1):G (x*y) z=1:=by
 rw[cu];exact cy (by rw[cu];exact h1) (by rw[cu];exact h2)
def ZJ(h:G a b=1)(hx:x ∣ a)(hy:y ∣ b):G x y=1:=by
 have d:G x y ∣ G a b:=Bh (Int.dvd_trans (cv x y) hx) (Int.dvd_trans (YE x y) hy);rw[h]at d;have n:=pO x y;have l:=Int.le_of_dvd 'd' d;have z:G x y≠0:=λe=>by rw[e]at d;exact absurd (Int.zero_dvd.mp d) 'd'
 omega
def gp(hb:b≠0):(Rat.divInt t b).num ∣ t/\((Rat.divInt t b).den:Int) ∣ b:=by
 obtain⟨x,y,hx,hy,y0,e1⟩:=gn (t:=t) hb;have s0:=gm (t:=t) hb;have f:=cw (t:=t) hb
 have fx : t.fdiv (sg t b) = x := by conv => lhs; arg 1; rw [hx]
                                     rw[kJ _ s0]
 have fy : b.fdiv (sg t b) = y := by conv => lhs; arg 1; rw [hy]
                                     rw[kJ _ s0]
 rw[fx,fy]at f;rw[<- f.1,<- f.2];exact⟨⟨sg t b,by rw[Int.mul_comm];exact hx⟩,⟨sg t b,by rw[Int.mul_comm];exact hy⟩⟩
def Bp(r s:Rat):(Rat.divInt r.num (s.den:Int)).num*(Rat.divInt s.num (r.den:Int)).num=(r*s).num /\
 ((Rat.divInt r.num (s.den:Int)).den:Int)*((Rat.divInt s.num (r.den:Int)).den:Int)=((r*s).den:Int):=by
 have dr:=Q9 r;have ds:=Q9 s;obtain⟨a1,a2⟩:=gp (t:=r.num) (b:=(s.den:Int)) 'c';obtain⟨b1,b2⟩:=gp (t:=s.num) (b:=(r.den:Int)) 'c';have c1:=ZI (t:=r.num) (b:=(s.den:Int)) 'c';have c2:=ZI (t:=s.num) (b:=(r.den:Int)) 'c';have c3:=ZI (t:=r.num*s.num) (b:=(r.den:Int)*(s.den:Int)) (by have:=qB dr ds;omega);rw[Bm]at c3;have g1:=X5 (Rat.divInt r.num (s.den:Int));have g2:=X5 (Rat.divInt s.num (r.den:Int));have p1:=Q9 (Rat.divInt r.num (s.den:Int));have p2:=Q9 (Rat.divInt s.num (r.den:Int));have gr:=X5 r;have gs:=X5 s;have g3:=X5 (r*s);have p3:=Q9 (r*s);generalize(Rat.divInt r.num (s.den:Int)).num=ln at *;generalize((Rat.divInt r.num (s.den:Int)).den:Int)=ld at *;generalize(Rat.divInt s.num (r.den:Int)).num=mn at *;generalize((Rat.divInt s.num (r.den:Int)).den:Int)=md at *;generalize(r*s).num=pn at *;generalize((r*s).den:Int)=pd at *;generalize r.num=rn at *;generalize s.num=sn at *;generalize(r.den:Int)=rd at *;generalize(s.den:Int)=sd at *
 have hg:G (ln*mn) (ld*md)=1:=by
  refine cy (cz g1 (ZJ gs b1 a2)) (cz (ZJ gr a1 b2) g2)
 refine gk (qB p1 p2) p3 hg g3 ?_;have z:(rd*sd)≠0:=by have:=qB dr ds;omega
 refine Int.eq_of_mul_eq_mul_right z ?_
 grind
def Bq(r s:Rat):(Rat.divInt (r.num*((s.den:Int) / G (r.den:Int) (s.den:Int))+s.num*((r.den:Int) / G (r.den:Int) (s.den:Int))) (G (r.den:Int) (s.den:Int))).num=(r+s).num /\
 ((Rat.divInt (r.num*((s.den:Int) / G (r.den:Int) (s.den:Int))+s.num*((r.den:Int) / G (r.den:Int) (s.den:Int))) (G (r.den:Int) (s.den:Int))).den:Int)*((r.den:Int) / G (r.den:Int) (s.den:Int))*((s.den:Int) / G (r.den:Int) (s.den:Int))=((r+s).den:Int):=by
 have dr:=Q9 r;have ds:=Q9 s;have gc:=Z5 (a:=(r.den:Int)) (b:=(s.den:Int)) 'c';have gd:=pR (t:=(r.den:Int)) (b:=(s.den:Int)) 'c';obtain⟨o,ho⟩:=cv (r.den:Int) (s.den:Int);obtain⟨u,hu⟩:=YE (r.den:Int) (s.den:Int);have eo:(r.den:Int) / G (r.den:Int) (s.den:Int)=o:=kZ 'c' ho;have eu:(s.den:Int) / G (r.den:Int) (s.den:Int)=u:=kZ 'c' hu;rw[eo,eu]at gd ⊢;have gr:=X5 r;have gs:=X5 s;have g3:=X5 (r+s);have p3:=Q9 (r+s);have c3:=ZI (t:=r.num*(s.den:Int)+s.num*(r.den:Int)) (b:=(r.den:Int)*(s.den:Int)) (by have:=qB dr ds;omega);rw[Bk]at c3;generalize(r+s).num=pn at *;generalize((r+s).den:Int)=pd at *;generalize r.num=rn at *;generalize s.num=sn at *;generalize G (r.den:Int) (s.den:Int)=c at *;generalize(r.den:Int)=rd at *;generalize(s.den:Int)=sd at *;subst ho hu;obtain⟨a1,a2⟩:=gp (t:=rn*u+sn*o) (b:=c) 'c';have c1:=ZI (t:=rn*u+sn*o) (b:=c) 'c';have g1:=X5 (Rat.divInt (rn*u+sn*o) c);have p1:=Q9 (Rat.divInt (rn*u+sn*o) c);generalize(Rat.divInt (rn*u+sn*o) c).num=qn at *;generalize((Rat.divInt (rn*u+sn*o) c).den:Int)=qd at *
 have o0:0<o:=by
  rcases Int.lt_trichotomy o 0 with h|h|h
  . have:=Int.mul_neg_of_pos_of_neg gc h;omega
  . rw[h,Int.mul_zero]at dr;omega
  . exact h
 have u0:0<u:=by
  rcases Int.lt_trichotomy u 0 with h|h|h
  . have:=Int.mul_neg_of_pos_of_neg gc h;omega
  . rw[h,Int.mul_zero]at ds;omega
  . exact h
 have gu:G u o=1:=by rw[cu];exact gd
 have ro:G rn o=1:=ZJ gr (Int.dvd_refl _) ⟨c,Int.mul_comm _ _⟩;have so:G sn u=1:=ZJ gs (Int.dvd_refl _) ⟨c,Int.mul_comm _ _⟩
 have no:G (rn*u+sn*o) o=1:=by
  unfold G;rw[Int.gcd_add_mul_right_left];exact cz ro gu
 have nu:G (rn*u+sn*o) u=1:=by
  unfold G;rw[Int.gcd_mul_right_add_left];exact cz so gd
 have hg:G qn (qd*o*u)=1:=cy (cy g1 (ZJ no a1 (Int.dvd_refl _))) (ZJ nu a1 (Int.dvd_refl _));refine gk (qB (qB p1 o0) u0) p3 hg g3 ?_;have z:(c*o*(c*u))≠0:=by have:=qB dr ds;omega
 refine Int.eq_of_mul_eq_mul_right z ?_;have e1:pn*(qd*o*u)*(c*o*(c*u))=pn*(c*o*(c*u))*(qd*o*u):=by grind
 rw[e1,c3];have e2:(rn*(c*u)+sn*(c*o))*pd*(qd*o*u)=((rn*u+sn*o)*qd)*(c*o*u*pd):=by grind
 rw[e2,<- c1]
 grind
def sz(r:Rat):Prop:=r.num.natAbs<2 ^ 2000/\r.den<2 ^ 2000
def dF(r:Rat):D := .tup [.int r.num,.int (r.den:Int)]
def JS(h:IsD K H (.tup [.int a,.int b]) x):∃p,x=.ref p/\SqT K H p [.int a,.int b]:=by
 obtain⟨p,xs,rfl,q,y,r,e1,e2,z,r',e3,e4,e5⟩:=h;have e2':y=.int a:=e2;have e4':z=.int b:=e4;have e5':r'=[]:=e5;subst e1 e2' e3 e4' e5';exact⟨p,rfl,q⟩
def YF(h:H p=some (.tup [.int a,.int b])):IsD K H (.tup [.int a,.int b]) (.ref p) :=
 ⟨p,_,rfl,.of h,_,_,rfl,rfl,_,_,rfl,rfl,rfl⟩
def XH{x:Int}{n:Nat}(h:x.natAbs<2 ^ n)(hn:n<=9000):x.natAbs.log2<9000:=by
 by_cases z:x.natAbs=0
 . rw[z];decide
 . exact jS ((Nat.log2_lt z).mpr h) hn
def Br(rs:List Rat):D.noLs (rs.map dF)=true:=Zv λd hd=>by
 obtain⟨r,_,rfl⟩:=jG.mp hd;rfl
inductive Sg where
 |neg|add|sub|lt|eq|conj|disj|pick
 deriving DecidableEq
def Sg.str:Sg->Str
 |.neg => "not" |.add => "+" |.sub => "-" |.lt => "<" |.eq => "=" |.conj => "and" |.disj => "or" |.pick => "pick"
def Sg.many:Sg->Nat
 |.neg=>1 | .pick=>3|_=>2
inductive Ex where
 |num (n:Int)|nam (x:Str)|un (a:Ex)|bi (s:Sg) (a b:Ex)|pick (c a b:Ex)
def b2n(b:Bool):Int:=if b=true then 1 else 0
def rk2(s:Sg)(a b:Int):Int:=match s with
 |.add=>a+b
 |.sub=>a - b
 |.lt=>b2n (decide (a<b))
 |.eq=>b2n (decide (a=b))
 |.conj=>b2n (decide (a≠0)&&decide (b≠0))
 |_=>b2n (decide (a≠0)||decide (b≠0))
def Sg.two:Sg->Bool
 |.neg=>false | .pick=>false|_=>true
def ev(ρ:Str->Int):Ex->Int
 |.num n=>n
 |.nam x=>ρ x
 |.un a=>b2n (decide (ev ρ a=0))
 |.bi s a b=>rk2 s (ev ρ a) (ev ρ b)
 |.pick c a b=>if ev ρ c≠0 then ev ρ a else ev ρ b
def dE:Ex->D
 |.num n => .tup [.str "num",.int n]
 |.nam x => .tup [.str "name",.str x]
 |.un a => .tup [.str "not",dE a]
 |.bi s a b => .tup [.str s.str,dE a,dE b]
 |.pick c a b => .tup [.str "pick",dE c,dE a,dE b]
def Ex.high:Ex->Nat
 |.num _=>0
 |.nam _=>0
 |.un a=>a.high+1
 |.bi _ a b=>max a.high b.high+1
 |.pick c a b=>max c.high (max a.high b.high)+1
def Ex.ok:Ex->Prop
 |.num _=>True
 |.nam _=>True
 |.un a=>a.ok
 |.bi s a b=>s.two=true/\a.ok/\b.ok
 |.pick c a b=>c.ok/\a.ok/\b.ok
def Ex.over(p:Str->Prop):Ex->Prop
 |.num _=>True
 |.nam x=>p x
 |.un a=>a.over p
 |.bi _ a b=>a.over p/\b.over p
 |.pick c a b=>c.over p/\a.over p/\b.over p
def gq(s:Sg):s.str ≠ "num" := by cases s<;>decide +kernel
def gv(s:Sg):s.str ≠ "name" := by cases s<;>decide +kernel
def rkL(s:Sg)(ns:xr):Int:=match s,ns with
 |.neg,[a]=>b2n (decide (a=0))
 |.pick,[c,a,b]=>if c≠0 then a else b
 |s,[a,b]=>rk2 s a b
 |_,_=>0
theorem Ex.node(ρ:Str->Int)(p:Str->Prop):∀e:Ex,e.ok->e.over p->(∃n,e=.num n)\/(∃x,e=.nam x)\/∃(s:Sg) (cs:List Ex),dE e=.tup (.str s.str::cs.map dE)/\ev ρ e=rkL s (cs.map (ev ρ))/\cs.length=s.many/\∀c∈cs,c.ok/\c.over p/\c.high<e.high
 |.num n,_,_ => .inl ⟨n,rfl⟩
 |.nam x,_,_ => .inr (.inl ⟨x,rfl⟩)
 |.un a,h,o => .inr (.inr ⟨.neg,[a],rfl,rfl,rfl,λc hc=>by
  have:c=a:=by simpa using hc
  subst this;exact⟨h,o,by show c.high<c.high+1;omega⟩⟩)
 |.bi s a b,h,o => .inr (.inr ⟨s,[a,b],rfl,(by
  obtain⟨h1,_⟩:=h
  cases s<;>first|rfl|(cases h1)),(by
  obtain⟨h1,_⟩:=h
  cases s<;>first|rfl|(cases h1)),λc hc=>by
  obtain⟨_,h2,h3⟩:=h;have z:(Ex.bi s a b).high=max a.high b.high+1:=rfl;rcases jJ.mp hc with rfl|hc
  . exact⟨h2,o.1,by omega⟩
  . have:c=b:=by simpa using hc
    subst this;exact⟨h3,o.2,by omega⟩⟩)
 |.pick x a b,h,o => .inr (.inr ⟨.pick,[x,a,b],rfl,rfl,rfl,λc hc=>by
  obtain⟨h1,h2,h3⟩:=h;have z:(Ex.pick x a b).high=max x.high (max a.high b.high)+1:=rfl;simp only[jJ,jy,x9]at hc;rcases hc with rfl|rfl|rfl
  . exact⟨h1,o.1,by omega⟩
  . exact⟨h2,o.2.1,by omega⟩
  . exact⟨h3,o.2.2,by omega⟩⟩)
def QZ{ns:xr}(h:ns.length=2):∃a b,ns=[a,b]:=by
 match ns,h with
 | [a,b],_=>exact⟨a,b,rfl⟩
def mkE:Sg->List Ex->Ex
 |.neg,[a] => .un a
 |.pick,[c,a,b] => .pick c a b
 |s,[a,b] => .bi s a b
 |_,_ => .num 0
def Bs(hl:cs.length=s.many)(ρ:Str->Int):dE (mkE s cs)=.tup (.str s.str::cs.map dE)/\ev ρ (mkE s cs)=rkL s (cs.map (ev ρ)):=by
 cases s with
 |neg=>match cs,hl with | [a],_=>exact⟨rfl,rfl⟩
 |pick=>match cs,hl with | [x,a,b],_=>exact⟨rfl,rfl⟩
 |add=>match cs,hl with | [a,b],_=>exact⟨rfl,rfl⟩
 |sub=>match cs,hl with | [a,b],_=>exact⟨rfl,rfl⟩
 |lt=>match cs,hl with | [a,b],_=>exact⟨rfl,rfl⟩
 |eq=>match cs,hl with | [a,b],_=>exact⟨rfl,rfl⟩
 |conj=>match cs,hl with | [a,b],_=>exact⟨rfl,rfl⟩
 |disj=>match cs,hl with | [a,b],_=>exact⟨rfl,rfl⟩
structure Mk where
 so:Int->Option Sg
 si:Int->Ex
 c0:Int
 j:Sg
theorem Ex.node2(p:Str->Prop):∀e:Ex,e.ok->e.over p->(∃n,e=.num n)\/(∃x,e=.nam x)\/∃(s:Sg) (cs:List Ex),e=mkE s cs/\cs.length=s.many/\∀c∈cs,c.ok/\c.over p/\c.high<e.high
 |.num n,_,_ => .inl ⟨n,rfl⟩
 |.nam x,_,_ => .inr (.inl ⟨x,rfl⟩)
 |.un a,h,o => .inr (.inr ⟨.neg,[a],rfl,rfl,λc hc=>by
  have:c=a:=by simpa using hc
  subst this;exact⟨h,o,by show c.high<c.high+1;omega⟩⟩)
 |.bi s a b,h,o => .inr (.inr ⟨s,[a,b],(by
  obtain⟨h1,_⟩:=h
  cases s<;>first|rfl|(cases h1)),(by
  obtain⟨h1,_⟩:=h
  cases s<;>first|rfl|(cases h1)),λc hc=>by
  obtain⟨_,h2,h3⟩:=h;have z:(Ex.bi s a b).high=max a.high b.high+1:=rfl;rcases jJ.mp hc with rfl|hc
  . exact⟨h2,o.1,by omega⟩
  . have:c=b:=by simpa using hc
    subst this;exact⟨h3,o.2,by omega⟩⟩)
 |.pick x a b,h,o => .inr (.inr ⟨.pick,[x,a,b],rfl,rfl,λc hc=>by
  obtain⟨h1,h2,h3⟩:=h;have z:(Ex.pick x a b).high=max x.high (max a.high b.high)+1:=rfl;simp only[jJ,jy,x9]at hc;rcases hc with rfl|rfl|rfl
  . exact⟨h1,o.1,by omega⟩
  . exact⟨h2,o.2.1,by omega⟩
  . exact⟨h3,o.2.2,by omega⟩⟩)
def Jy(f:xp)(n:Str):xp:=if n∈f then f else f++[n]
def Ex.nms:Ex->xp
 |.num _=>[]
 |.nam x=>[x]
 |.un a=>a.nms.foldl Jy []
 |.bi _ a b=>b.nms.foldl Jy (a.nms.foldl Jy [])
 |.pick c a b=>b.nms.foldl Jy (a.nms.foldl Jy (c.nms.foldl Jy []))
def Bt(hl:cs.length=s.many):(mkE s cs).nms=cs.foldl (λf c=>c.nms.foldl Jy f) []:=by
 cases s with
 |neg=>match cs,hl with | [a],_=>rfl
 |pick=>match cs,hl with | [x,a,b],_=>rfl
 |add=>match cs,hl with | [a,b],_=>rfl
 |sub=>match cs,hl with | [a,b],_=>rfl
 |lt=>match cs,hl with | [a,b],_=>rfl
 |eq=>match cs,hl with | [a,b],_=>rfl
 |conj=>match cs,hl with | [a,b],_=>rfl
 |disj=>match cs,hl with | [a,b],_=>rfl
def Bv{p:Str->Prop}(hn:p n)(h:f.Nodup/\∀x∈f,p x):(Jy f n).Nodup/\∀x∈Jy f n,p x:=by
 unfold Jy;split
 . exact h
 . rename_i hc;refine⟨?_,λx hx=>?_⟩
   . rw[kD]
     exact⟨h.1,by simp,λa ha b hb e=>by
      have:b=n:=by simpa using hb
      subst e this;exact hc ha⟩
   . rcases je.mp hx with hx | hx
     . exact h.2 x hx
     . have:x=n:=by simpa using hx
       subst this;exact hn
theorem Xf{p:Str->Prop}:∀(l:xp) {f:xp},(∀x∈l,p x)->(f.Nodup/\∀x∈f,p x)->(l.foldl Jy f).Nodup/\∀x∈l.foldl Jy f,p x
 | [],_,_,h=>h
 |n::l,f,hl,h=>Xf l (λx hx=>hl x (jN _ hx)) (Bv (hl n 'f') h)
theorem Xg:∀e:Ex,e.over p->e.nms.Nodup/\∀x∈e.nms,p x
 |.num _,_=>⟨jp,λx hx=>nomatch hx⟩
 |.nam x,h=>⟨by simp[Ex.nms],λy hy=>by
  have:y=x:=by simpa [Ex.nms] using hy
  subst this;exact h⟩
 |.un a,h=>Xf _ (Xg a h).2 ⟨jp,λx hx=>nomatch hx⟩
 |.bi _ a b,h=>Xf _ (Xg b h.2).2 (Xf _ (Xg a h.1).2 ⟨jp,λx hx=>nomatch hx⟩)
 |.pick c a b,h=>Xf _ (Xg b h.2.2).2 (Xf _ (Xg a h.2.1).2 (Xf _ (Xg c h.1).2 ⟨jp,λx hx=>nomatch hx⟩))
theorem gw:∀{l m:xp},l.Nodup->(∀x∈l,x∈m)->l.length<=m.length
 | [],_,_,_=>jT _
 |x::l,m,hn,hs=>by
  have hx:x∈m:=hs x 'f';rw[jm]at hn;have:=gw (l:=l) (m:=m.erase x) hn.2 λy hy=>(List.mem_erase_of_ne (λe:y=x=>hn.1 (e ▸ hy))).mpr (hs y (jN _ hy));rw[List.length_erase_of_mem hx]at this;have:0<m.length:=List.length_pos_of_mem hx;rw[jV];omega
def Xh(f:xp)(cs:List Ex):xp:=cs.foldl (λf c=>c.nms.foldl Jy f) f
theorem pU:∀(cs:List Ex) {f:xp},(∀c∈cs,c.over p)->(f.Nodup/\∀x∈f,p x)->(Xh f cs).Nodup/\∀x∈Xh f cs,p x
 | [],_,_,h=>h
 |c::cs,f,hc,h=>pU cs (λx hx=>hc x (jN _ hx)) (Xf _ (Xg c (hc c 'f')).2 h)
def Bw(f:xp)(cs:List Ex)(c:Ex):Xh f (cs++[c])=c.nms.foldl Jy (Xh f cs):=by
 unfold Xh;rw[kQ];rfl
def cA(a:Str):¬ltS a a:=List.lt_irrefl _
def XI(x:Str):xp->xp
 | []=>[x]
 |y::r=>if x=y then y::r else if decide (x.cps.toList<y.cps.toList)=true then x::y::r else y::XI x r
def srt(l:xp):xp:=l.foldr XI []
theorem gA:∀{l:xp},k∈XI x l↔k=x\/k∈l
 | []=>by simp[XI]
 |y::r=>by
  unfold XI;split
  . rename_i h;subst h;simp
  . split
    . simp
    . rw[jJ,gA (l:=r),jJ];exact⟨λh=>h.elim (λh => .inr (.inl h)) λh=>h.elim .inl λh => .inr (.inr h),λh=>h.elim (λh => .inr (.inl h)) λh=>h.elim .inl λh => .inr (.inr h)⟩
theorem pV:∀{l:xp},l.Pairwise ltS->(XI x l).Pairwise ltS
 | [],_=>List.pairwise_singleton _ _
 |y::r,h=>by
  obtain⟨h1,h2⟩:=kK.mp h;unfold XI;split
  . exact h
  . rename_i ne;split
    . rename_i lt;have lt:ltS x y:=qm lt;exact kK.mpr ⟨λk hk=>(jJ.mp hk).elim (λe=>e ▸ lt) λhk=>Yn lt (h1 k hk),h⟩
    . rename_i nl;have lt:ltS y x:=aP ne λz=>nl (qi z);exact kK.mpr ⟨λk hk=>(gA.mp hk).elim (λe=>e ▸ lt) λhk=>h1 k hk,pV h2⟩
theorem JW:∀{l:xp},k∈srt l↔k∈l
 | []=>Iff.rfl
 |x::l=>by
  show k∈XI x (srt l)↔_;rw[gA,JW (l:=l),jJ]
theorem QO:∀l:xp,(srt l).Pairwise ltS
 | []=>List.Pairwise.nil
 |_::l=>pV (QO l)
theorem pW:∀{l m:xp},l.Pairwise ltS->m.Pairwise ltS->(∀k,k∈l↔k∈m)->l=m
 | [],[],_,_,_=>rfl
 | [],b::m,_,_,h=>absurd ((h b).mpr (jO ..)) (λz=>nomatch z)
 |a::l,[],_,_,h=>absurd ((h a).mp (jO ..)) (λz=>nomatch z)
 |a::l,b::m,hl,hm,h=>by
  obtain⟨l1,l2⟩:=kK.mp hl;obtain⟨m1,m2⟩:=kK.mp hm
  have e:a=b:=by
   rcases jJ.mp ((h a).mp (jO ..)) with e|ha
   . exact e
   rcases jJ.mp ((h b).mpr (jO ..)) with e|hb
   . exact e.symm
   exact absurd (Yn (m1 a ha) (l1 b hb)) (cA _)
  subst e;refine qG (a::·) (pW l2 m2 λk=>⟨λhk=>?_,λhk=>?_⟩)
  . rcases jJ.mp ((h k).mp (jN _ hk)) with e | z
    . exact absurd (l1 k hk) (e ▸ cA _)
    . exact z
  . rcases jJ.mp ((h k).mpr (jN _ hk)) with e | z
    . exact absurd (m1 k hk) (e ▸ cA _)
    . exact z
def gB(pw:ss.Pairwise ltS)(m:∀k,k∈ss↔k∈l):ss=srt l:=pW pw (QO l) λk=>(m k).trans JW.symm
def Bx(m:∀k,k∈l↔k∈l'):srt l=srt l':=gB (QO l) λk=>JW.trans (m k)
def XJ{l:xp}(h:l.Pairwise ltS):l.Nodup:=List.nodup_iff_pairwise_ne.mpr (h.imp fun {a b} h e=>by rw[e]at h;exact cA _ h)
def kM(ks:xp)(f:Str->V):List (Key×V):=ks.map λx=>((Sum.inr x:Key),f x)
def By(h:∀x∈ks,f x=g x):kM ks f=kM ks g:=ji λx hx=>by rw[h x hx]
theorem pX(f:Str->V)(x:Str):∀ks:xp,((kM ks f).any λkv=>decide (kv.1=Sum.inr x))=decide (x∈ks)
 | []=>rfl
 |a::r=>by
  show(decide ((Sum.inr a:Key)=Sum.inr x)||(kM r f).any λkv=>decide (kv.1=Sum.inr x))=_;rw[pX f x r,Bool.eq_iff_iff];simp only[Bool.or_eq_true,decide_eq_true_eq,Sum.inr.injEq,jJ];exact⟨λh=>h.imp Eq.symm id,λh=>h.imp Eq.symm id⟩
theorem pY(f:Str->V)(x:Str):∀ks:xp,Jr (kM ks f) (Sum.inr x)=if x∈ks then some (f x) else none
 | []=>rfl
 |a::r=>by
  have ih:=pY f x r;unfold Jr kM at ih ⊢;rw[jM,jv]
  by_cases e:a=x
  . subst e;simp
  . have:decide ((Sum.inr a:Key)=Sum.inr x)=false:=qj λz=>e (Sum.inr.inj z);rw[this];dsimp only;rw[ih]
    by_cases m:x∈r
    . rw[qh m,qh (jN _ m)]
    . rw[qg m,qg λz=>(jJ.mp z).elim (λz=>e z.symm) m]
def ZK(ks:xp)(x:Str):xp:=if x∈ks then ks else ks++[x]
theorem Bz:y∈ZK ks x↔y∈ks\/y=x:=by
 unfold ZK;split
 . rename_i h;exact⟨.inl,λz=>z.elim id λe=>e ▸ h⟩
 . simp
def BA(ks:xp)(f:Str->V)(x:Str)(v:V):Jf (kM ks f) (Sum.inr x) v=kM (ZK ks x) λy=>if y=x then v else f y:=by
 unfold Jf ZK;rw[pX]
 by_cases m:x∈ks
 . rw[qh (qi m),qh m];show List.map _ (List.map _ ks)=List.map _ ks;rw[jb];refine ji λy _=>?_
   by_cases e:y=x
   . subst e;simp
   . simp[e]
 . rw[qg (by simp[m]),qg m];show List.map _ ks ++ [_]=List.map _ (ks ++ [x]);rw[jh];congr 1
   . refine ji λy hy=>?_;dsimp only;rw[qg (λe:y=x=>m (by rw[<- e];exact hy))]
   . simp
def unS(ks ms:xp):xp:=ms.foldl ZK ks
theorem pZ:∀{ms ks:xp}{y:Str},y∈unS ks ms↔y∈ks\/y∈ms
 | [],ks,y=>by simp[unS]
 |m::ms,ks,y=>by
  show y∈unS (ZK ks m) ms↔_;rw[pZ,Bz,jJ,or_assoc]
def Ex.rds:Ex->xp
 |.num _=>[]
 |.nam x=>[x]
 |.un a=>a.rds
 |.bi _ a b=>a.rds++b.rds
 |.pick c a b=>c.rds++(a.rds++b.rds)
theorem BB:x∈Jy f n↔x∈f\/x=n:=by
 unfold Jy;split
 . rename_i h;exact⟨.inl,λz=>z.elim id λe=>e ▸ h⟩
 . simp
theorem Z6:∀(l:xp) {f:xp},x∈l.foldl Jy f↔x∈f\/x∈l
 | [],f=>by simp
 |n::l,f=>by rw[List.foldl_cons,Z6 l,BB,jJ,or_assoc]
theorem XM:∀e:Ex,x∈e.nms↔x∈e.rds
 |.num _=>Iff.rfl
 |.nam _=>Iff.rfl
 |.un a=>by show x∈a.nms.foldl Jy []↔x∈a.rds;rw[Z6,XM a];simp
 |.bi s a b=>by show x∈b.nms.foldl Jy (a.nms.foldl Jy [])↔x∈a.rds++b.rds;rw[Z6,Z6,XM a,XM b];simp
 |.pick c a b=>by show x∈b.nms.foldl Jy (a.nms.foldl Jy (c.nms.foldl Jy []))↔x∈c.rds++(a.rds++b.rds);rw[Z6,Z6,Z6,XM a,XM b,XM c];simp[or_assoc]
theorem X0:∀e:Ex,e.over p↔∀x∈e.rds,p x
 |.num _=>⟨λ_ x hx=>(nomatch hx),λ_=>trivial⟩
 |.nam y=>⟨λh x hx=>(by
  have:x=y:=by simpa [Ex.rds] using hx
  rw[this];exact h),λh=>h y (by simp[Ex.rds])⟩
 |.un a=>X0 a
 |.bi s a b=>by
  show a.over p/\b.over p↔∀x∈a.rds++b.rds,p x;rw[X0 a,X0 b];exact⟨λh x hx=>(je.mp hx).elim (h.1 x) (h.2 x),λh=>⟨λx hx=>h x (jw _ hx),λx hx=>h x (jY _ hx)⟩⟩
 |.pick c a b=>by
  show c.over p/\a.over p/\b.over p↔∀x∈c.rds++(a.rds++b.rds),p x;rw[X0 c,X0 a,X0 b];exact⟨λh x hx=>(je.mp hx).elim (h.1 x) λhx=>(je.mp hx).elim (h.2.1 x) (h.2.2 x),λh=>⟨λx hx=>h x (jw _ hx),λx hx=>h x (jY _ (jw _ hx)),λx hx=>h x (jY _ (jY _ hx))⟩⟩
def X6(e:Ex):Prop:=e.ok/\e.high<10/\e.rds.length<=12
def r8(h:X6 e):e.nms.length<=12:=by
 have o:e.over (λn=>n∈e.rds):=(X0 e).mpr λ_ h=>h;obtain⟨h1,h2⟩:=Xg e o;exact jg (gw h1 h2) h.2.2
local macro_rules | `(tactic| walk_at "sd") => `(tactic| (try dsimp only); first | decide | omega | assumption | (refine ⟨?_, ?_⟩ <;> first | decide | omega | assumption) | (refine ⟨?_, ?_, ?_⟩ <;> first | decide | omega | assumption))
local macro_rules | `(tactic| walk_at "rd1") => `(tactic| first
 |refine⟨_,rfl,?_⟩
 |refine⟨_,_,rfl,rfl,?_⟩
 |refine⟨_,_,rfl,?_⟩
 |refine .inl ⟨_,_,rfl,rfl,?_⟩
 |refine .inr (.inl ⟨_,_,rfl,rfl,?_⟩)
 |refine .inr (.inr (.inl ⟨_,_,rfl,rfl,?_⟩))
 |refine .inl ⟨_,rfl,?_⟩
 |refine .inr ⟨_,rfl,?_⟩
 |refine⟨rfl,?_⟩
 |(refine And.intro ?sd ?_;(case sd=>walk_at "sd"))
 |(refine' .inr (.inl ⟨_,_,_,_,rfl,rfl,?hs,?ha,?_⟩);(case hs=>assumption);(case ha=>rfl))
 |(refine'⟨_,_,_,rfl,?hs,?hk,?_⟩;(case hs=>assumption);(case hk=>decide)))
local macro_rules | `(tactic| walk_at "rd") => `(tactic| repeat (walk_at "rd1"))
local macro_rules | `(tactic| walk_at "mk") => `(tactic| repeat' (first
 |exact mk_str
 |exact mk_int
 |exact mk_varS rfl
 |exact mk_var rfl (by assumption)
 |exact mks_nil
 |refine mks_cons ?_ ?_
 |refine mk_tup ?_ ?_
 |refine mk_lst ?_ ?_
 |exact mkS_lit 'd'
 |exact mkS_var rfl (by assumption)
 |apply mk_addS
 |apply mkS_add
 |refine mk_cat ?_ ?_ ?_
 |exact few100 (Nat.le_of_ble_eq_true rfl)
 |(show _<=sizeLine;decide)))
section
variable {P:xT}{w:xU}{K:xh}{mg:xf}{base:Heap}
def gC:Sp:=λvs H Q _=>∃a b,vs=[.int a,.int b]/\Q (.int (G a b)) H
def BC(B:Bl mg)(F:Fn K mg "divisor" bc ["one", "other"]):Def P w K mg base "divisor" 1 ["one", "other"] gC:=by
 refine F.ok ZF (λvs H Q E h=>?_) (λf xu A outer s H vs Q E hr h=>?_)
 . obtain⟨a,b,rfl,_⟩:=h;rfl
 obtain⟨a,b,rfl,q⟩:=h
 refine⟨_,(@J0 _ _ _ _ _ (Ja (i:=0) ZF.nd rfl 'a' (Q1 m4 rfl B.abs PyProof.Rows.boot_abs (xW (pv 0) xY)))
  (@J0 _ _ _ _ _ (Ja (i:=1) ZF.nd rfl 'a' (Q1 m4 rfl B.abs PyProof.Rows.boot_abs (xW (pv 1) xY)))
  (@J0 _ _ _ _ _ (lK PassesOwn.never (Jd QE (pv 1) xX (J8 _)) (@J0 _ _ _ _ _ (Ja (i:=2) ZF.nd rfl 'a' (J5 Jv (pv 0) (pv 1)))
  (@J0 _ _ _ _ _ (Ja (i:=0) ZF.nd rfl 'a' (pv 1))
  (@J2 _ _ _ (Ja (i:=1) ZF.nd rfl 'a' (pv 2))))))
  (@J2 _ _ _ (J7 (pv 0)))))),?_⟩
 walk_at "rd"
 refine lP (λσ H'=>H'=H/\∃x y r,σ=[some (.int x),some (.int y),r]/\0<=x/\0<=y/\G x y=G a b)
  (λσ _=>match σ with | [_,some (.int y),_]=>y.toNat|_=>0) ?_ ?_ ?_
 . exact⟨rfl,_,_,_,rfl,pM a,pM b,Bg a b⟩
 . rintro σ H' ⟨rfl,x,y,r,rfl,hx,hy,e⟩;walk_at "rd";refine QF (λc=>?_) (λc=>?_)
   . have hy':0 < y:=by omega
     refine⟨_,rfl,_,rfl,_,_,rfl,rfl,hy',?_⟩;walk_at "rd";have h1:=kS x c;have h2:=kE x hy';refine⟨⟨rfl,_,_,_,rfl,hy,h1,(pQ hx hy').trans e⟩,?_⟩;show(x % y).toNat<y.toNat;omega
   . walk_at "rd";have:=pP hx c;rw[e]at this;show Q (.int x) H';rw[<- this];exact q
 . rintro σ H' R R' m ⟨v,e,h⟩;refine⟨v,e,?_⟩;obtain⟨i,j,e1,e2,k,e3,h⟩:=h;exact⟨i,j,e1,e2,k,e3,m _ _ h⟩
end
section
variable {P:xT}{w:xU}{K:xh}{mg:xf}{base:Heap}{CS CW xJ:xS}
def r9:Sp:=λvs H Q _=>∃i,vs=[.int i]/\Q (.bl true) H
def BD(B:Bl mg)(F:Fn K mg "is_whole" bf ["thing"]):Def P w K mg base "is_whole" 1 ["thing"] r9:=by
 refine F.ok AV (λvs H Q E h=>?_) (λf xu A outer s H vs Q E hr h=>?_)
 . obtain⟨i,rfl,_⟩:=h;rfl
 obtain⟨i,rfl,q⟩:=h;refine⟨_,(@J2 _ _ _ (J7 (eh (Q1 (mX K rfl) rfl B.isinstance PyProof.Rows.boot_isinstance (xW (pv 0) (xW (lC (v := .ty "int") rfl B.int PyProof.Rows.boot_int rfl) xY))) (Y5 (uO (Q1 (mX K rfl) rfl B.isinstance PyProof.Rows.boot_isinstance (xW (pv 0) (xW (lC (v := .ty "bool") rfl B.bool PyProof.Rows.boot_bool rfl) xY)))))))),?_⟩;refine⟨_,rfl,_,_,.type "int",true,rfl,rfl,.of (.int i),rfl,_,rfl,Xv ?_⟩;refine⟨_,rfl,_,_,.type "int",false,rfl,rfl,.of (.int i),rfl,_,rfl,?_⟩;exact q
def YG(K:xh):Sp:=λvs H Q _=>∃t b,vs=[.int t,.int b]/\b≠0/\b.natAbs<2 ^ 8000/\∀p H',Same H H'->IsD K H' (dF (Rat.divInt t b)) (.ref p)->Q (.ref p) H'
def BE(B:Bl mg)(F:Fn K mg "fraction" bg ["top", "bottom"])(cB:Def P w K mg base "is_whole" 1 ["thing"] r9)(ZL:Def P w K mg base "divisor" 1 ["one", "other"] gC) :
 Def P w K mg base "fraction" 2 ["top", "bottom"] (YG K):=by
 refine F.ok g9 (λvs H Q E h=>?_) (λf xu A outer s H vs Q E hr h=>?_)
 . obtain⟨t,b,rfl,_⟩:=h;rfl
 obtain⟨t,b,rfl,hb,hz,q⟩:=h
 refine⟨_,(@J0 _ _ _ _ _ (Je (PW.pt (dZ (lF (Y4 (J9 cB hr rfl (xW (pv 0) xY)))) (dY (lF (Y4 (J9 cB hr rfl (xW (pv 1) xY))))))) (@J2 _ _ _ lI) Jg)
  (@J0 _ _ _ _ _ (Je (Jd (Jm.or (Jj.or (Jo.or (Jn K rfl hr.units)))) (pv 1) xX (J8 _)) (@J2 _ _ _ lI) Jg)
  (@J0 _ _ _ _ _ (Ja (i:=2) g9.nd rfl 'a' (J9 ZL hr rfl (xW (pv 0) (xW (pv 1) xY))))
  (@J0 _ _ _ _ _ (Je (Jd Yc (pv 1) xX (J8 _)) (@J2 _ _ _ (Ja (i:=2) g9.nd rfl 'a' (v7 v9 (pv 2)))) Jg)
  (@J2 _ _ _ (J7 (Jq (xW (J5 aD (pv 0) (pv 2)) (xW (J5 aD (pv 1) (pv 2)) xY))))))))),?_⟩
 walk_at "rd";refine Ji (λc=>absurd c hb) (λ_=>?_);walk_at "rd";have fr:=cw (t:=t) hb;have gl:=gj (a:=t) hb;have g0:=Z5 (a:=t) hb;have gz:(G t b).natAbs<2 ^ 8000:=by omega
 have gz':(-(G t b)).natAbs<2 ^ 8000:=by omega
 unfold sg at fr;refine Ji (λc=>?_) (λc=>?_)
 . rw[qh c]at fr;walk_at "rd";refine⟨⟨by omega,XH gz' 'd'⟩,?_⟩;walk_at "rd";refine⟨⟨by omega,XH gz' 'd'⟩,(by show 2<=sizeLine;decide),λp hp=>q p _ (J6 hp _) ?_⟩;unfold dF;rw[<- fr.1,<- fr.2];exact YF J1
 . rw[qg c]at fr;walk_at "rd";refine⟨⟨by omega,XH gz 'd'⟩,?_⟩;walk_at "rd";refine⟨⟨by omega,XH gz 'd'⟩,(by show 2<=sizeLine;decide),λp hp=>q p _ (J6 hp _) ?_⟩;unfold dF;rw[<- fr.1,<- fr.2];exact YF J1
def cC(K:xh):Sp:=λvs H Q _=>∃x y r s,vs=[x,y]/\IsD K H (dF r) x/\IsD K H (dF s) y/\sz r/\sz s/\∀p H',Same H H'->IsD K H' (dF (r+s)) (.ref p)->Q (.ref p) H'
def BF(B:Bl mg)(F:Fn K mg "plus" bj ["one", "other"])(ZL:Def P w K mg base "divisor" 1 ["one", "other"] gC)(QG:Def P w K mg base "fraction" 2 ["top", "bottom"] (YG K)):Def P w K mg base "plus" 3 ["one", "other"] (cC K):=by
 refine F.ok Yy (λvs H Q E h=>?_) (λf xu A outer s H vs Q E hr h=>?_)
 . obtain⟨x,y,r,s,rfl,_⟩:=h;rfl
 obtain⟨x,y,r,s,rfl,hx,hy,zr,zs,q⟩:=h;obtain⟨a,rfl,qa⟩:=JS hx;obtain⟨b,rfl,qb⟩:=JS hy;have zd:((r.den:Int)).natAbs<2 ^ 2000:=by have:=zr.2;omega
 have ze:((s.den:Int)).natAbs<2 ^ 2000:=by have:=zs.2;omega
 have dr:=Q9 r;have ds:=Q9 s;have al:=Bq r s;have g0:=Z5 (a:=(r.den:Int)) (b:=(s.den:Int)) 'c';have gl:=gj (a:=(r.den:Int)) (b:=(s.den:Int)) 'c';have gz:(G (r.den:Int) (s.den:Int)).natAbs<2 ^ 2000:=by omega
 have oz:((r.den:Int) / G (r.den:Int) (s.den:Int)).natAbs<2 ^ 2000:=jd (Int.natAbs_ediv_le_natAbs ..) zd;have uz:((s.den:Int) / G (r.den:Int) (s.den:Int)).natAbs<2 ^ 2000:=jd (Int.natAbs_ediv_le_natAbs ..) ze
 refine⟨_,(@J0 _ _ _ _ _ (Ja (i:=2) Yy.nd rfl 'a' (J9 ZL hr rfl (xW (J4 (J3 K rfl) (pv 0) xX (λ_ _=>rfl)) (xW (J4 (J3 K rfl) (pv 1) xX (λ_ _=>rfl)) xY))))
  (@J0 _ _ _ _ _ (Ja (i:=3) Yy.nd rfl 'a' (J5 JV (J4 (J3 K rfl) (pv 0) xX (λ_ _=>rfl)) (pv 2)))
  (@J0 _ _ _ _ _ (Ja (i:=4) Yy.nd rfl 'a' (J5 JV (J4 (J3 K rfl) (pv 1) xX (λ_ _=>rfl)) (pv 2)))
  (@J0 _ _ _ _ _ (Ja (i:=5) Yy.nd rfl 'a' (J9 QG hr rfl (xW (J5 (Jz.or (JH.or (JI.or (JK K rfl)))) (J5 JP (J4 (J3 K rfl) (pv 0) xX (λ_ _=>rfl)) (pv 4)) (J5 JP (J4 (J3 K rfl) (pv 1) xX (λ_ _=>rfl)) (pv 3))) (xW (pv 2) xY))))
  (@J2 _ _ _ (J7 (Jq (xW (J4 (J3 K rfl) (pv 5) xX (λ_ _=>rfl)) (xW (J5 JP (J5 JP (J4 (J3 K rfl) (pv 5) xX (λ_ _=>rfl)) (pv 3)) (pv 4)) xY))))))))),?_⟩
 walk_at "rd";refine⟨⟨g0,XH gz 'd'⟩,?_⟩;walk_at "rd";refine⟨⟨g0,XH gz 'd'⟩,?_⟩;walk_at "rd";refine⟨JQ zr.1 uz 'd',?_⟩;walk_at "rd";refine⟨JQ zs.1 oz 'd',?_⟩;walk_at "rd";intro p H' sm d;obtain⟨_,e,qp⟩:=JS d;cases e;have pz:=(cx (t:=r.num*((s.den:Int) / G (r.den:Int) (s.den:Int))+s.num*((r.den:Int) / G (r.den:Int) (s.den:Int))) (b:=G (r.den:Int) (s.den:Int)) 'c').2;generalize Rat.divInt (r.num*((s.den:Int) / G (r.den:Int) (s.den:Int))+s.num*((r.den:Int) / G (r.den:Int) (s.den:Int))) (G (r.den:Int) (s.den:Int))=v at al pz qp d;have vz:((v.den:Int)).natAbs<2 ^ 2000:=by omega
 have vo:((v.den:Int)*((r.den:Int) / G (r.den:Int) (s.den:Int))).natAbs<2 ^ 4000:=by
  rw[Int.natAbs_mul];have:=Nat.mul_lt_mul'' vz oz
  rwa [<- Nat.pow_add]at this
 walk_at "rd";refine⟨JQ vz oz 'd',?_⟩;walk_at "rd";refine⟨JQ vo uz 'd',(by show 2<=sizeLine;decide),λp2 hp2=>q p2 _ (sm.trans (J6 hp2 _)) ?_⟩;unfold dF;rw[<- al.1,<- al.2];exact YF J1
def re(K:xh):Sp:=λvs H Q _=>∃x y r s,vs=[x,y]/\IsD K H (dF r) x/\IsD K H (dF s) y/\sz r/\sz s/\∀p H',Same H H'->H p=none->IsD K H' (dF (r*s)) (.ref p)->Q (.ref p) H'
def BG(B:Bl mg)(F:Fn K mg "times" bn ["one", "other"])(QG:Def P w K mg base "fraction" 2 ["top", "bottom"] (YG K)):Def P w K mg base "times" 3 ["one", "other"] (re K):=by
 refine F.ok gb (λvs H Q E h=>?_) (λf xu A outer s H vs Q E hr h=>?_)
 . obtain⟨x,y,r,s,rfl,_⟩:=h;rfl
 obtain⟨x,y,r,s,rfl,hx,hy,zr,zs,q⟩:=h;obtain⟨a,rfl,qa⟩:=JS hx;obtain⟨b,rfl,qb⟩:=JS hy;have zd:((r.den:Int)).natAbs<2 ^ 2000:=by have:=zr.2;omega
 have ze:((s.den:Int)).natAbs<2 ^ 2000:=by have:=zs.2;omega
 have dr:=Q9 r;have ds:=Q9 s;have al:=Bp r s;have big:(2:Nat) ^ 2000<=2 ^ 8000:=ju 'd' 'd'
 refine⟨_,(@J0 _ _ _ _ _ (Ja (i:=2) gb.nd rfl 'a' (J9 QG hr rfl (xW (J4 (J3 K rfl) (pv 0) xX (λ_ _=>rfl)) (xW (J4 (J3 K rfl) (pv 1) xX (λ_ _=>rfl)) xY))))
  (@J0 _ _ _ _ _ (Ja (i:=3) gb.nd rfl 'a' (J9 QG hr rfl (xW (J4 (J3 K rfl) (pv 1) xX (λ_ _=>rfl)) (xW (J4 (J3 K rfl) (pv 0) xX (λ_ _=>rfl)) xY))))
  (@J2 _ _ _ (J7 (Jq (xW (J5 JP (J4 (J3 K rfl) (pv 2) xX (λ_ _=>rfl)) (J4 (J3 K rfl) (pv 3) xX (λ_ _=>rfl))) (xW (J5 JP (J4 (J3 K rfl) (pv 2) xX (λ_ _=>rfl)) (J4 (J3 K rfl) (pv 3) xX (λ_ _=>rfl))) xY))))))),?_⟩
 walk_at "rd";intro p H' sm d;obtain⟨_,e,qp⟩:=JS d;cases e;have qa:=sm.tupq qa;have qb:=sm.tupq qb;walk_at "rd";intro p2 H2 sm2 d2;obtain⟨_,e,qp2⟩:=JS d2;cases e;have qp:=sm2.tupq qp;have l1:=cx (t:=r.num) (b:=(s.den:Int)) 'c';have l2:=cx (t:=s.num) (b:=(r.den:Int)) 'c';generalize Rat.divInt r.num (s.den:Int)=u at al l1 qp;generalize Rat.divInt s.num (r.den:Int)=v at al l2 qp2;have zrn:=zr.1;have zsn:=zs.1;have u1:u.num.natAbs<2 ^ 2000:=by omega
 have u2:((u.den:Int)).natAbs<2 ^ 2000:=by omega
 have v1:v.num.natAbs<2 ^ 2000:=by omega
 have v2:((v.den:Int)).natAbs<2 ^ 2000:=by omega
 walk_at "rd";refine⟨JQ u1 v1 'd',?_⟩;walk_at "rd";refine⟨JQ u2 v2 'd',(by show 2<=sizeLine;decide),λp3 hp3=>q p3 _ ((sm.trans sm2).trans (J6 hp3 _)) ((sm.trans sm2).free hp3) ?_⟩;unfold dF;rw[<- al.1,<- al.2];exact YF J1
def JM(r:xr×Rat):D := .tup [.tup (r.1.map D.int),dF r.2]
def JE(ns:xr)(ps:xr):xr:=ps.map λj=>ns.getD j.toNat 0
def gD(K:xh):Sp:=λvs H Q _=>∃(v p:xS) (ns ps:xr),vs=[.ref v,.ref p]/\SqT K H v (ns.map V.int)/\SqL K H p (ps.map V.int)/\(∀j∈ps,0<=j/\j<ns.length)/\ps.length<=100 /\
 ∀t H',H t=none->Same H H'->H' t=some (.tup ((JE ns ps).map V.int))->Q (.ref t) H'
def BH{ix:xq}{wi:TI}{te:TE}{r:List V->Hp->VK->Prop}{D:Ends}(h:wi σ H (Q5 ix te σ λx H1=>r [x] H1 D.rt)):eA (tCB r (JF (Qv ix wi Q7 te) JA)) D σ H:=h
def BI(B:Bl mg)(F:Fn K mg "chosen" bv ["values", "places"]):Def P w K mg base "chosen" 1 ["values", "places"] (gD K):=by
 refine F.ok AZ (λvs H Q E h=>?_) (λf xu A outer s H vs Q E hr h=>?_)
 . obtain⟨v,p,ns,ps,rfl,_⟩:=h;rfl
 obtain⟨v,p,ns,ps,rfl,qv,qp,hj,hl,q⟩:=h;refine⟨_,(@J2 _ _ _ (J7 (JU (Zw K rfl) rfl B.tuple PyProof.Rows.boot_tuple (xW (QL (CompOk.of (x := "place") (M:=["values"]) (ix:=[0]) rfl rfl (by decide +kernel) (by decide +kernel) rfl ⟨rfl,trivial⟩ 'e' ⟨⟨rfl,rfl,rfl,rfl⟩,trivial⟩) rfl (by decide +kernel) (Qj (pv 1)) (λ_ _ _ _ _=>Qf) (λ_ _ _ _ _=>(J4 (J3 K rfl) (pv 1) (pv 0) (λ_ _=>rfl)))) xY)))),?_⟩;refine BH ?_;refine⟨_,rfl,p,rfl,⟨_,qp⟩,?_⟩;refine mU (K:=K) (xs:=ps.map V.int) ((JE ns ps).map D.int) qp (by unfold JE;simp) (by rw[jA];exact kG (XX 'c')) (Xd _) (λi x d H' R hx hd sm hR=>?_) (λl H' sm dl=>?_)
 . unfold JE at hd;rw[jD]at hx;rw[jD,jD]at hd
   cases en:ps[i]? with
   |none=>rw[en]at hx;cases hx
   |some j =>
    rw[en]at hx hd
    cases hx;cases hd
    obtain⟨j0,j1⟩:=hj j (jZ en)
    have hat:atI (ns.map V.int) j=some (.int (ns.getD j.toNat 0)):=by
     have e:j=((j.toNat:Nat):Int):=by omega
     have hlt:j.toNat<ns.length:=by omega
     conv=>lhs;rw[e]
     refine Qe ?_;rw[jD,jB hlt];simp[List.getD,hlt]
    exact⟨_,rfl,_,rfl,.inr (.inl ⟨v,_,_,_,rfl,rfl,sm.tupq qv,hat,hR _ _ (Same.refl _) rfl⟩)⟩
 . obtain⟨l',ys,e,ql,dd⟩:=dl
   cases e
   rw[QX dd]at ql;exact⟨l,_,rfl,.inl ⟨ql,λt ht=>q t _ (sm.free ht) (sm.trans (J6 ht _)) J1⟩⟩
def Qq(acc:List (xr×Rat))(k:xr):Option Rat:=(acc.find? λp=>decide (p.1=k)).map (·.2)
def JT{β:Type}(acc:List (xr×β))(k:xr)(x:β):List (xr×β):=if (acc.any λp=>decide (p.1=k))=true then acc.map (λp=>if p.1=k then(p.1,x) else p) else acc++[(k,x)]
def Js(acc:List (xr×Rat))(k:xr)(r:Rat):List (xr×Rat):=JT acc k (match Qq acc k with|some s=>s+r|none=>r)
def Q6(ps:xr)(rs:List (xr×Rat)):List (xr×Rat):=rs.foldl (λacc r=>Js acc (JE r.1 ps) r.2) []
def rf{β:Type}(acc:List (xr×β))(k:xr)(x:β):(JT acc k x).length<=acc.length+1:=by
 unfold JT;split
 . rw[jA];omega
 . rw[jU];exact jE _
def rg(ps:xr)(rs:List (xr×Rat))(r:xr×Rat):Q6 ps (rs++[r])=Js (Q6 ps rs) (JE r.1 ps) r.2:=by unfold Q6;rw[kQ];rfl
def cD(ps:xr)(rs:List (xr×Rat)):(Q6 ps rs).length<=rs.length:=by
 have:∀(rs acc:List (xr×Rat)),(rs.foldl (λacc r=>Js acc (JE r.1 ps) r.2) acc).length<=acc.length+rs.length:=λrs=>by
  induction rs with
  |nil=>intro acc;exact jE _
  |cons r rs ih =>
   intro acc;have h1:=ih (Js acc (JE r.1 ps) r.2);have h2:(Js acc (JE r.1 ps) r.2).length<=acc.length+1:=rf _ _ _;rw[List.foldl_cons,jV];omega
 have:=this rs [];simpa [Q6] using this
def cE{a b:xr}:(a.map (Sum.inl:Int->Key)=b.map Sum.inl)↔a=b:=⟨λz=>(List.map_inj_right (λ_ _ h=>Sum.inl.inj h)).mp z,λz=>by rw[z]⟩
def BJ(ks:List (xr×V))(k:xr):((kz ks).any λkv=>decide (kv.1=k.map Sum.inl))=ks.any λkv=>decide (kv.1=k):=by
 show((ks.map λkv=>((kv.1.map Sum.inl,kv.2):List Key×V)).any _)=_;rw[List.any_map];congr 1
 funext kv
 exact decide_eq_decide.mpr cE
def ri(ks:List (xr×V))(k:xr)(v:V):Jf (kz ks) (k.map Sum.inl) v=kz (JT ks k v):=by
 unfold Jf JT;rw[BJ];split
 . show(ks.map λkv=>((kv.1.map Sum.inl,kv.2):List Key×V)).map _=(ks.map _).map _;rw[jb,jb];refine ji λkv _=>?_;show(if kv.1.map Sum.inl=k.map Sum.inl then _ else _)=((if kv.1=k then(kv.1,v) else kv).1.map Sum.inl,(if kv.1=k then(kv.1,v) else kv).2)
   by_cases z:kv.1=k
   . rw[qh (cE.mpr z),qh z]
   . rw[qg (λh=>z (cE.mp h)),qg z]
 . show kz ks++_=(ks++[(k,v)]).map _;rw[jh];rfl
abbrev Acc(K:xh)(H:Hp):List (xr×Rat)->List (xr×V)->Prop:=Paired λp q=>p.1=q.1/\IsD K H (dF p.2) q.2
theorem Acc.mono(m:∀r v,IsD K H (dF r) v->IsD K H' (dF r) v):∀{acc:List (xr×Rat)}{ks:List (xr×V)},Acc K H acc ks->Acc K H' acc ks
 |_,_,.nil => .nil
 |_,_,.cons h t => .cons ⟨h.1,m _ _ h.2⟩ (Acc.mono m t)
theorem Acc.val(k:xr):∀{acc:List (xr×Rat)}{ks:List (xr×V)},Acc K H acc ks->(Qq acc k=none/\Jr (kz ks) (k.map Sum.inl)=none)\/∃r v,Qq acc k=some r/\Jr (kz ks) (k.map Sum.inl)=some v/\IsD K H (dF r) v
 |_,_,.nil => .inl ⟨rfl,rfl⟩
 |p::acc,q::ks,.cons h t=>by
  by_cases z:p.1=k
  . refine .inr ⟨p.2,q.2,?_,?_,h.2⟩
    . unfold Qq;rw[jv,qi z];rfl
    . exact Qt (by show q.1.map Sum.inl=k.map Sum.inl;rw[<- h.1,z])
  . have e1:Qq (p :: acc) k=Qq acc k:=by unfold Qq;rw[jv,qj z]
    have e2:Jr (kz (q::ks)) (k.map Sum.inl)=Jr (kz ks) (k.map Sum.inl):=Qu (by show ¬q.1.map Sum.inl=k.map Sum.inl;rw[<- h.1];exact λy=>z (cE.mp y));rw[e1,e2];exact Acc.val k t
theorem Acc.any(k:xr):∀{acc:List (xr×Rat)}{ks:List (xr×V)},Acc K H acc ks->(acc.any λp=>decide (p.1=k))=ks.any λp=>decide (p.1=k)
 |_,_,.nil=>rfl
 |p::acc,q::ks,.cons h t=>by rw[qC,qC,Acc.any k t,h.1]
theorem Acc.map(d:IsD K H (dF x) v):∀{acc:List (xr×Rat)}{ks:List (xr×V)},Acc K H acc ks->Acc K H (acc.map λp=>if p.1=k then(p.1,x) else p) (ks.map λp=>if p.1=k then(p.1,v) else p)
 |_,_,.nil => .nil
 |p::acc,q::ks,.cons h t=>by
  rw[jM,jM];refine .cons ?_ (Acc.map d t)
  by_cases z:p.1=k
  . rw[qh z,qh (by rw[<- h.1];exact z)];exact⟨h.1,d⟩
  . rw[qg z,qg (by rw[<- h.1];exact z)];exact h
theorem gE{α β:Type}{F:α->β->Prop}{x:α}{y:β}(h:F x y):∀{l:List α}{m:List β},Paired F l m->Paired F (l++[x]) (m++[y])
 |_,_,.nil => .cons h .nil
 |_,_,.cons g t => .cons g (gE h t)
def Acc.set(a:Acc K H acc ks)(d:IsD K H (dF x) v):Acc K H (JT acc k x) (JT ks k v):=by
 unfold JT;rw[a.any k];split
 . exact a.map d
 . exact gE ⟨rfl,d⟩ a
def gF{α β:Type}{F:α->β->Prop}{m m':List β}(h:m'.Perm m):∀{l:List α},Paired F l m->∃l',l'.Perm l/\Paired F l' m':=by
 induction h with
 |nil=>intro l t;exact⟨l,.refl _,t⟩
 |cons x _ ih =>
  intro l t
  cases t with
  |cons g t =>
   obtain⟨l',h1,h2⟩:=ih t;exact⟨_::l',h1.cons _,.cons g h2⟩
 |swap x y _ =>
  intro l t
  cases t with
  |cons g t =>
   cases t with
   |cons g2 t=>exact⟨_,.swap _ _ _,.cons g2 (.cons g t)⟩
 |trans _ _ ih1 ih2 =>
  intro l t;obtain⟨l1,h1,t1⟩:=ih2 t;obtain⟨l2,h2,t2⟩:=ih1 t1;exact⟨l2,h2.trans h1,t2⟩
theorem cF{α β:Type}{G:α->β->Prop}:∀{l:List (xr×α)}{m:List (xr×β)},Paired (λp q=>p.1=q.1/\G p.2 q.2) l m->l.map (·.1)=m.map (·.1)
 |_,_,.nil=>rfl
 |_,_,.cons h t=>by rw[jM,jM,h.1,cF t]
theorem YH:∀ns:xr,IsDs K H (ns.map D.int) (ns.map V.int)
 | []=>rfl
 |_::ns=>⟨_,_,rfl,rfl,YH ns⟩
theorem cG:∀{ds:List D}{xs:List V},'h'=ds.length->(∀(i:Nat) (x:V) (d:D),xs[i]?=some x->ds[i]?=some d->IsD K H d x)->IsDs K H ds xs
 | [],[],_,_=>rfl
 |d::ds,x::xs,hl,k=>⟨x,xs,rfl,k 0 x d rfl rfl,cG (by simpa using hl) λi y e h1 h2=>k (i+1) y e (by simpa using h1) (by simpa using h2)⟩
def BK(e:H d=some (.dT ks))(h:SqT K H p xs):SqT K (upd H d o) p xs:=by
 rcases h with (h|⟨u,h⟩)|h
 . exact .inl (.inl (by rw[xZ λz=>by rw[z,e]at h;cases h];exact h))
 . exact .inl (.inr ⟨u,by rw[xZ λz=>by rw[z,e]at h;cases h];exact h⟩)
 . exact .inr h
def rm(e:H d=some (.dT ks))(r:Rat)(v:V)(h:IsD K H (dF r) v):IsD K (upd H d o) (dF r) v:=by
 obtain⟨p,rfl,q⟩:=JS h;exact⟨p,_,rfl,BK e q,_,_,rfl,rfl,_,_,rfl,rfl,rfl⟩
def gG(K:xh):Sp:=λvs H Q _=>∃(a p:xS) (xs:List V) (rs:List (xr×Rat)) (ps:xr),vs=[.ref a,.ref p]/\SqL K H a xs/\IsDs K H (rs.map JM) xs/\SqL K H p (ps.map V.int)/\(∀r∈rs,∀j∈ps,0<=j/\j<r.1.length)/\ps.length<=100/\rs.length<=60/\(∀r∈rs,sz r.2)/\(∀i,∀g∈Q6 ps (rs.take i),sz g.2) /\
 ∀l H' (qs:List (xr×Rat)),Same H H'->H l=none->qs.Perm (Q6 ps rs)->qs.Pairwise (λp q=>HT.lexLt p.1 q.1=true)->IsD K H' (.lst (qs.map JM)) (.ref l)->Q (.ref l) H'
def BL(B:Bl mg)(ZM:Def P w K mg base "chosen" 1 ["values", "places"] (gD K))(Xi:Def P w K mg base "plus" 3 ["one", "other"] (cC K))(F:Fn K mg "gathered" bx ["rows", "places"]):Def P w K mg base "gathered" 4 ["rows", "places"] (gG K):=by
 refine F.ok YA (λvs H Q E h=>?_) (λf xu A outer s H vs Q E hr h=>?_)
 . obtain⟨a,p,xs,rs,ps,rfl,_⟩:=h;rfl
 obtain⟨a,p,xs,rs,ps,rfl,qa,dxs,qp,hj,hl,h63,hz,hzg,q⟩:=h;have xl:=dxs.length;rw[jA]at xl
 refine⟨_,(@J0 _ _ _ _ _ (Ja (i:=2) YA.nd rfl 'a' mO)
  (@J0 _ _ _ _ _ (QI PassesOwn.never rfl (Qj (pv 0)) (Xb rfl (JZ (Ju (i:=3) YA.nd rfl 'a') (JZ (Ju (i:=4) YA.nd rfl 'a') Xa))) (@J0 _ _ _ _ _ (Ja (i:=5) YA.nd rfl 'a' (J9 ZM hr rfl (xW (pv 3) (xW (pv 1) xY))))
  (@J2 _ _ _ (aA (QV hr) (pv 2) (pv 5) (XW (Jd (mZ (QV hr)) (pv 5) (pv 2) 'e') (J9 Xi hr rfl (xW (Yi (QV hr) (pv 2) (pv 5) (λ_ _=>rfl)) (xW (pv 4) xY))) (pv 4)) rfl))))
  (@J2 _ _ _ (J7 (yf rfl (ZB hr) rfl B.sorted PyProof.Rows.boot_sorted (pv 2)))))),?_⟩
 intro d hd;have s0:Same H (upd H d (.dT [])):=J6 hd _;refine⟨_,rfl,a,rfl,⟨xs,s0.seq qa⟩,?_⟩;refine X1 (K:=K) (xs:=xs) (λi σ H'=>Same H H'/\∃ks c3 c4 c5,σ=[some (.ref a),some (.ref p),some (.ref d),c3,c4,c5]/\H' d=some (.dT (kz ks))/\Acc K H' (Q6 ps (rs.take i)) ks) ⟨s0,[],none,none,none,rfl,J1,.nil⟩ (λi σ H' _ h=>h.1.seq qa) ?_ ?_
 . rintro i x σ H' hx ⟨sm,ks,c3,c4,c5,rfl,ed,ac⟩;have hi:i < rs.length:=by have:=(jF.mp hx).1;omega
   obtain⟨y,ey,dy⟩:=dxs.get (i:=i) (d:=JM rs[i]) (by rw[jD,jB hi];rfl);obtain rfl:x=y:=by rw[hx]at ey;exact Option.some.inj ey
   obtain⟨t,zs,rfl,qt,v1,_,rfl,d1,v2,_,rfl,d2,rfl⟩:=dy;obtain⟨t1,ys,rfl,q1,dys⟩:=d1;rw[QX dys]at q1;have tk:rs.take (i+1)=rs.take i++[rs[i]]:=ja hi;have hzi:=hz _ (jX hi);have hza:=hzg i;have gl:=cD ps (rs.take i);rw[jW]at gl;have kl:=ac.length;rw[tk,rg];refine⟨t,_,rfl,sm.tupq qt,rfl,_,_,rfl,_,_,rfl,rfl,?_⟩;refine⟨_,rfl,_,rfl,t1,p,_,ps,rfl,sm.tupq q1,sm.seq qp,hj _ (jX hi),hl,λt2 H2 n2 s2 e2=>?_⟩;have ed2:=s2 _ _ ed;have ac2:Acc K H2 _ _:=ac.mono λr v h=>h.same s2;have d2':IsD K H2 (dF rs[i].2) v2:=d2.same (sm.trans s2);have kt:H2 t2=some (.tup (((JE rs[i].1 ps).map (Sum.inl:Int->Key)).map kV)):=by rw[Xy];exact e2
   have get:=DGet.t ed2 kt;have lz:(kz ks).length<sizeLine:=by rw[jA];exact XX 'c'
   have nx:∀(x:Rat) (v':V) (H3:Hp),Same H2 H3->IsD K H3 (dF x) v'->Same H (upd H3 d (.dT (Jf (kz ks) ((JE rs[i].1 ps).map Sum.inl) v')))/\(upd H3 d (.dT (Jf (kz ks) ((JE rs[i].1 ps).map Sum.inl) v'))) d=some (.dT (kz (JT ks (JE rs[i].1 ps) v'))) /\
    Acc K (upd H3 d (.dT (Jf (kz ks) ((JE rs[i].1 ps).map Sum.inl) v'))) (JT (Q6 ps (rs.take i)) (JE rs[i].1 ps) x) (JT ks (JE rs[i].1 ps) v'):=λx v' H3 s3 dv=>by
    refine⟨XY hd ((sm.trans s2).trans s3),by rw[J1,ri],?_⟩;exact((ac2.mono λr v h=>h.same s3).set dv).mono (rm (s3 _ _ ed2))
   unfold Js;refine⟨_,rfl,_,rfl,d,_,rfl,get,_,rfl,?_⟩;rcases ac2.val (JE rs[i].1 ps) with ⟨e3,e4⟩|⟨r,v,e3,e4,dr⟩
   . rw[e3];rw[e4]at get ⊢;refine Xc ⟨_,rfl,_,rfl,_,rfl,d,_,rfl,DPut.t ed2 kt lz,?_⟩;obtain⟨b1,b2,b3⟩:=nx rs[i].2 v2 H2 (Same.refl _) d2';exact⟨b1,_,_,_,_,rfl,b2,b3⟩
   . rw[e3];rw[e4]at get ⊢
     have zr:sz r:=by
      unfold Qq at e3
      cases ef:(Q6 ps (rs.take i)).find? λp=>decide (p.1=JE rs[i].1 ps) with
      |none=>rw[ef]at e3;cases e3
      |some g =>
       rw[ef]at e3
       cases e3
       exact hza g (List.mem_of_find?_eq_some ef)
     refine Xv ⟨_,rfl,_,rfl,d,v,rfl,get,_,rfl,v,v2,r,rs[i].2,rfl,dr,d2',zr,hzi,λp3 H3 s3 d3=>⟨_,rfl,_,rfl,d,_,rfl,DPut.t (s3 _ _ ed2) (s3 _ _ kt) lz,?_⟩⟩;obtain⟨b1,b2,b3⟩:=nx (r+rs[i].2) (.ref p3) H3 s3 d3;exact⟨b1,_,_,_,_,rfl,b2,b3⟩
 . rintro σ H' ⟨sm,ks,c3,c4,c5,rfl,ed,ac⟩;rw[xl,jr]at ac;have gl:=cD ps rs;have kl:=ac.length;refine⟨_,rfl,d,ks,rfl,ed,by omega,λH2 l qs xs' pm pw s2 nl e2 ln pr=>?_⟩;obtain⟨acc',h1,h2⟩:=gF pm ac;have hk:acc'.map (·.1)=qs.map (·.1):=cF (G:=λr v=>IsD K H' (dF r) v) h2;have al:=h2.length;refine q l H2 acc' (sm.trans s2) (sm.free nl) h1 ?_ ⟨l,xs',rfl,.of e2,cG (by rw[jA];omega) λi x d' e1 e3=>?_⟩
   . have:(qs.map (·.1)).Pairwise λa b=>HT.lexLt a b=true:=jq.mpr pw;rw[<- hk]at this;exact jq.mp this
   . rw[jD]at e3
     cases ea:acc'[i]? with
     |none=>rw[ea]at e3;cases e3
     |some kr =>
      rw[ea]at e3
      cases e3
      obtain⟨kv,e4,e5,e6⟩:=X3 h2 ea;obtain⟨pp,b,rfl,e7,e8⟩:=pr i x kv e1 e4;exact⟨pp,_,rfl,.of e7,_,_,rfl,⟨b,_,rfl,.of e8,by rw[<- e5];exact YH _⟩,_,_,rfl,e6.same s2,rfl⟩
def plc(ns ss:xp):xr:=ss.map λn=>((ns.idxOf n:Nat):Int)
def cH(K:xh):Sp:=λvs H Q _=>∃(v s:xS) (ns ss:xp),vs=[.ref v,.ref s]/\TupZ H v (ns.map V.str)/\(SqL K H s (ss.map V.str)\/SqT K H s (ss.map V.str))/\(∀n∈ss,n∈ns)/\ss.length<=100 /\
 ∀l H',Same H H'->H' l=some (.lst ((plc ns ss).map V.int))->Q (.ref l) H'
def cI(m n:Str):eqV (.str m) (.str n)=decide (m=n):=by show(m==n)=_;exact ku ..
def BM(B:Bl mg)(F:Fn K mg "places_of" bw ["names", "some"]):Def P w K mg base "places_of" 1 ["names", "some"] (cH K):=by
 refine F.ok B0 (λvs H Q E h=>?_) (λf xu A outer s H vs Q E hr h=>?_)
 . obtain⟨v,p,ns,ss,rfl,_⟩:=h;rfl
 obtain⟨v,p,ns,ss,rfl,qv,qp,hj,hl,q⟩:=h;refine⟨_,(@J2 _ _ _ (J7 (QL (CompOk.of (x := "name") (M:=["names"]) (ix:=[0]) rfl rfl (by decide +kernel) (by decide +kernel) rfl ⟨rfl,trivial⟩ 'e' ⟨⟨rfl,rfl,rfl,rfl⟩,trivial⟩) rfl (by decide +kernel) (yo (pv 1)) (λ_ _ _ _ _=>Qf) (λ_ _ _ _ _=>(nI PySem.F.slot_tuple_index PySem.F.type_tuple_index (nG K rfl) (pv 1) (xW (pv 0) xY)))))),?_⟩;refine wR ?_
 have item:∀(i:Nat) (x:V) (d:D) (H':Hp) (R:VK),(ss.map V.str)[i]?=some x->((plc ns ss).map D.int)[i]?=some d->Same H H'->(∀y H2,Same H' H2->IsD K H2 d y->R y H2)->∃n,x=.str n/\∃(hn:ns.idxOf n<ns.length),d=.int ((ns.idxOf n:Nat):Int):=λi x d H' R hx hd sm hR=>by
  unfold plc at hd;rw[jD]at hx;rw[jD,jD]at hd
  cases en:ss[i]? with
  |none=>rw[en]at hx;cases hx
  |some n =>
   rw[en]at hx hd
   cases hx;cases hd
   exact⟨n,rfl,jx.mpr (hj n (jZ en)),rfl⟩
 have eqs:∀(n:Str) (hn:ns.idxOf n<ns.length),eqV ((ns.map V.str)[ns.idxOf n]'(by rw[jA];exact hn)) (.str n)=true/\∀m (hm:m<(ns.map V.str).length),m<ns.idxOf n->eqV ((ns.map V.str)[m]) (.str n)=false:=λn hn=>by
  refine⟨?_,λm hm hmj=>?_⟩
  . rw[j9,cI,ki hn];exact qi rfl
  . rw[j9,cI];refine qj λz=>?_;have:=List.not_of_lt_findIdx (p:=(·==n)) (xs:=ns) (i:=m) (by simpa [List.idxOf] using hmj);simp[z]at this
 rcases qp with qp|qp
 . refine⟨_,rfl,p,rfl,.inl ⟨⟨_,qp⟩,?_⟩⟩;refine fm (K:=K) (xs:=ss.map V.str) ((plc ns ss).map D.int) qp (by unfold plc;simp) (by rw[jA];exact kG (XX 'c')) (Xd _) (λi x d H' R hx hd sm hR=>?_) (λl H' ys sm e dl=>?_)
   . obtain⟨n,rfl,hn,rfl⟩:=item i x d H' R hx hd sm hR;obtain⟨e1,e2⟩:=eqs n hn;exact⟨_,rfl,v,_,rfl,qv.same sm,_,rfl,v,ns.map V.str,.str n,ns.idxOf n,by rw[jA];exact hn,rfl,rfl,sm.tupq qv.sq,rfl,Zx _,e1,e2,hR _ _ (Same.refl _) rfl⟩
   . rw[QX dl]at e;exact q l _ sm e
 . refine⟨_,rfl,p,rfl,.inr ⟨⟨_,qp⟩,?_⟩⟩;refine Ym (K:=K) (xs:=ss.map V.str) ((plc ns ss).map D.int) qp (by unfold plc;simp) (by rw[jA];exact kG (XX 'c')) (Xd _) (λi x d H' R hx hd sm hR=>?_) (λl H' ys sm e dl=>?_)
   . obtain⟨n,rfl,hn,rfl⟩:=item i x d H' R hx hd sm hR;obtain⟨e1,e2⟩:=eqs n hn;exact⟨_,rfl,v,_,rfl,qv.same sm,_,rfl,v,ns.map V.str,.str n,ns.idxOf n,by rw[jA];exact hn,rfl,rfl,sm.tupq qv.sq,rfl,Zx _,e1,e2,hR _ _ (Same.refl _) rfl⟩
   . rw[QX dl]at e;exact q l _ sm e
def rp{c:TT}{t u:TS}{D:Ends}(p:Bool->Prop)(hc:∀Q:Bool->Hp->Prop,(∀b H',Same H H'->p b->Q b H')->c σ H Q)(h1:∀H',Same H H'->p true->t D σ H')(h2:∀H',Same H H'->p false->u D σ H'):ad c t u D σ H :=
 hc _ λb H' s hb=>by cases b with
  |true=>exact Xv (h1 H' s hb)
  |false=>exact Xc (h2 H' s hb)
def BN{c:TT}{t u v:TS}{D:Ends}(p:Bool->Prop)(hc:∀Q:Bool->Hp->Prop,(∀b H',Same H H'->p b->Q b H')->c σ H Q)(h1:∀H',Same H H'->p true->t { D with nx:=v D } σ H')(h2:∀H',Same H H'->p false->u { D with nx:=v D } σ H'):QS (ad c t u) v D σ H:=rp p hc h1 h2
def BO{c:Prop}[Decidable c]{t u:TS}{R:St->Hp->Prop}{rt:VK}{bk ct:St->Hp->Prop}(Pj:St->Hp->Prop)(h:∀σ' H',Pj σ' H'->R σ' H')
 (h1:c->∀R',(∀σ' H',Pj σ' H'->R' σ' H')->t ⟨R',rt,bk,ct⟩ σ H) (h2:¬c->∀R',(∀σ' H',Pj σ' H'->R' σ' H')->u ⟨R',rt,bk,ct⟩ σ H):if decide c=true then t ⟨R,rt,bk,ct⟩ σ H else u ⟨R,rt,bk,ct⟩ σ H :=
 Ji (λhc=>h1 hc R h) λhc=>h2 hc R h
def cJ(K:xh)(d:Nat):Sp:=λvs H Q _=>∃(e:Ex) (x:V) (nm:xp),vs=[x]/\e.ok/\e.over (λn=>n∈nm)/\nm.length<=100/\e.high<d/\IsD K H (dE e) x/\∀p H',H p=none->Same H H'->H' p=some (.lst (e.nms.map V.str))->Q (.ref p) H'
def BP(d:Nat)(B:Bl mg)(F:Fn K mg "names_in" Yw ["e"])(YI:Def P w K mg base "names_in" (d+2) ["e"] (cJ K d)):Def P w K mg base "names_in" (d+3) ["e"] (cJ K (d+1)):=by
 have hjk:d+2<=d+2:=jE _;refine F.ok Yz (λvs H Q E h=>?_) (λf xu A outer s H vs Q E hr h=>?_)
 . obtain⟨e,x,nm,rfl,_⟩:=h;rfl
 obtain⟨e,x,nm,rfl,ho,hv,h100,hh,dx,q⟩:=h
 refine⟨_,(@J0 _ _ _ _ _ (Je (Jd (Jm.or (Jj.or (Jo.or (Jn K rfl hr.units)))) (J4 (J3 K rfl) (pv 0) xX (λ_ _=>rfl)) Jc (J8 _)) (@J2 _ _ _ (J7 (QB xY))) Jg)
  (@J0 _ _ _ _ _ (Je (Jd (Jm.or (Jj.or (Jo.or (Jn K rfl hr.units)))) (J4 (J3 K rfl) (pv 0) xX (λ_ _=>rfl)) Jc (J8 _)) (@J2 _ _ _ (J7 (QB (xW (J4 (J3 K rfl) (pv 0) xX (λ_ _=>rfl)) xY)))) Jg)
  (@J0 _ _ _ _ _ (Ja (i:=1) Yz.nd rfl 'a' (QB xY))
  (@J0 _ _ _ _ _ (QI PassesOwn.never rfl (Y7 (QT ((Xw K rfl).or (Xx K rfl)) (pv 0) (QJ xX) X2)) (Ju (i:=2) Yz.nd rfl 'a') (@J2 _ _ _ (QI PassesOwn.never rfl (Qj (J9 YI hr rfl (xW (pv 2) xY) (hjk:=hjk))) (Ju (i:=3) Yz.nd rfl 'a') (@J2 _ _ _ (Je (Jd (lZ.or (mV K rfl)) (pv 3) (pv 1) 'e') (@J2 _ _ _ (Qi (Zq PySem.F.plainAttrs_list PySem.F.slot_list_append PySem.F.type_list_append Zr (pv 1) (xW (pv 3) xY)))) Jg)))))
  (@J2 _ _ _ (J7 (pv 1))))))),?_⟩
 have big:(1000:Nat)<sizeLine:=by decide
 rcases Ex.node2 _ e ho hv with ⟨n,rfl⟩|⟨n,rfl⟩|⟨sg,cs,rfl,hl,hc⟩
 . obtain⟨t,xs,rfl,qt,_,_,rfl,rfl,_,_,rfl,rfl,rfl⟩:=dx;walk_at "rd";exact λp hp=>q p _ hp (J6 hp _) J1
 . obtain⟨t,xs,rfl,qt,_,_,rfl,rfl,_,_,rfl,rfl,rfl⟩:=dx;walk_at "rd";exact⟨by show 1<=sizeLine;decide,λp hp=>q p _ hp (J6 hp _) J1⟩
 . have md:=(Bs hl (λ_=>0)).1;rw[md]at dx;obtain⟨t,xs,rfl,qt,y,ys,rfl,ey,dys⟩:=dx;obtain rfl:y = .str sg.str:=ey;have xD:atI (.str sg.str :: ys) 0=some (.str sg.str):=Qe (j:=0) rfl;have yl:=dys.length;rw[jA]at yl;refine⟨_,rfl,.inr (.inl ⟨t,_,_,_,rfl,rfl,qt,xD,.inr (.inl ⟨_,_,rfl,rfl,_,rfl,Ji (λc=>absurd c (gq sg)) λ_=>nxt ?_⟩)⟩)⟩;refine⟨_,rfl,.inr (.inl ⟨t,_,_,_,rfl,rfl,qt,xD,.inr (.inl ⟨_,_,rfl,rfl,_,rfl,Ji (λc=>absurd c (gv sg)) λ_=>nxt ?_⟩)⟩)⟩;refine⟨by show 0<=sizeLine;decide,λpf hpf=>?_⟩;have s0:Same H (upd H pf (.lst [])):=J6 hpf _;have t0:(upd H pf (.lst [])) pf=some (.lst []):=J1;obtain⟨H0,eH0⟩:∃H0,H0=upd H pf (.lst []):=⟨_,rfl⟩;rw[<- eH0]at s0 t0;rw[<- eH0]
   have one:¬(HT.sIx (V.str sg.str::ys).length 0 (some 1)=0/\HT.sIx (V.str sg.str::ys).length (V.str sg.str::ys).length none=(V.str sg.str::ys).length):=λh=>by
    have:=h.1;simp[HT.sIx]at this
   refine⟨_,rfl,_,rfl,.inr ⟨t,_,rfl,s0.tupq qt,one,λp1 hp1=>⟨p1,rfl,⟨_,.of J1⟩,?_⟩⟩⟩;have ecut:JB (V.str sg.str::ys) (some 1) none=ys:=aF _ 1;rw[ecut];have s1:Same H0 (upd H0 p1 (.tup ys)):=J6 hp1 _;have inN:∀i,(Xh [] (cs.take i)).Nodup/\∀x∈Xh [] (cs.take i),x∈nm:=λi=>pU (p:=λn=>n∈nm) _ (λc hc'=>(hc c (jj hc')).2.1) ⟨jp,λx hx=>nomatch hx⟩
   refine v0 (K:=K) (xs:=ys) (λi σ H'=>Same H H'/\SqT K H' p1 ys/\H' pf=some (.lst ((Xh [] (cs.take i)).map V.str))/\∃c2 c3,σ=[some (.ref t),some (.ref pf),c2,c3])
    ⟨s0.trans s1,.of J1,s1 _ _ t0,none,none,rfl⟩ (λi σ H' _ h=>h.2.1) ?_ ?_
   . rintro i x σ H' hx ⟨sm,q1,eF,c2,c3,rfl⟩;have hi:i < cs.length:=by have:=(jF.mp hx).1;omega
     obtain⟨y,ey,dy⟩:=dys.get (i:=i) (d:=dE cs[i]) (by rw[jD,jB hi];rfl);obtain rfl:x=y:=by rw[hx]at ey;exact Option.some.inj ey
     obtain⟨c1,c2',c3'⟩:=hc _ (jX hi);have tk:cs.take (i+1)=cs.take i++[cs[i]]:=ja hi;refine⟨_,rfl,cs[i],x,nm,rfl,c1,c2',h100,by omega,dy.same sm,λp2 H2 hp2 s2 e2=>⟨p2,rfl,⟨_,.of e2⟩,?_⟩⟩;obtain⟨f,ef⟩:∃f,f=Xh [] (cs.take i):=⟨_,rfl⟩;have inF:=inN i;rw[<- ef]at inF eF;have inC:=Xg _ c2'
     refine X1 (K:=K) (xs:=cs[i].nms.map V.str) (λj σ H3=>Same H H3/\SqT K H3 p1 ys/\H3 pf=some (.lst (((cs[i].nms.take j).foldl Jy f).map V.str))/\H3 p2=some (.lst (cs[i].nms.map V.str))/\∃c3,σ=[some (.ref t),some (.ref pf),some x,c3])
      ⟨sm.trans s2,s2.tupq q1,s2 _ _ eF,e2,c3,rfl⟩ (λj σ H3 _ h => .of h.2.2.2.1) ?_ ?_
     . rintro j z σ H3 hz ⟨sm3,q3,e3,f3,c3,rfl⟩;have hj:j < cs[i].nms.length:=by have:=(jF.mp hz).1;rwa [jA]at this
       rw[jD,jB hj]at hz;obtain rfl:z=.str cs[i].nms[j]:=(Option.some.inj hz).symm;obtain⟨n,en⟩:∃n,n=cs[i].nms[j]:=⟨_,rfl⟩;have tj:cs[i].nms.take (j+1)=cs[i].nms.take j++[n]:=by rw[en];exact ja hj
       rw[<- en];obtain⟨g,eg⟩:∃g,g=(cs[i].nms.take j).foldl Jy f:=⟨_,rfl⟩;have inG:g.Nodup/\∀x∈g,x∈nm:=by rw[eg];exact Xf (p:=λn=>n∈nm) _ (λx hx=>inC.2 x (jj hx)) inF
       have lg:=gw inG.1 inG.2;have eg':(cs[i].nms.take (j+1)).foldl Jy f=Jy g n:=by rw[tj,kQ,<- eg];rfl
       rw[<- eg]at e3;refine⟨_,rfl,_,rfl,.inr ⟨pf,_,rfl,.inl (.of e3),rfl,Zx _,_,rfl,?_⟩⟩;show if (!inV (.str n) (g.map V.str))=true then _ else _;rw[aI];refine QF (λc=>?_) (λc=>?_)
       . refine⟨_,rfl,.inl ⟨rfl,_,.of e3⟩,_,rfl,pf,_,_,rfl,rfl,e3,by rw[jA];omega,?_⟩;refine⟨XY hpf sm3,SqT.updL e3 q3,?_,?_,_,rfl⟩
         . rw[J1,eg'];unfold Jy;rw[qg c,jh];rfl
         . rw[xZ (λz=>by rw[z]at hp2;rw[hp2]at eF;cases eF)];exact f3
       . refine nxt ⟨sm3,q3,?_,f3,_,rfl⟩;rw[e3,eg'];unfold Jy;rw[qh c]
     . rintro σ H3 ⟨sm3,q3,e3,f3,c3,rfl⟩;refine⟨sm3,q3,?_,_,_,rfl⟩;rw[jA,jr]at e3;rw[e3,tk,Bw,<- ef]
   . rintro σ H' ⟨sm,q1,eF,c2,c3,rfl⟩;rw[yl,jr]at eF;refine⟨_,rfl,q pf H' hpf sm ?_⟩;rw[Bt hl];exact eF
theorem rA(B:Bl mg)(F:Fn K mg "names_in" Yw ["e"]):∀d,Def P w K mg base "names_in" (d+2) ["e"] (cJ K d)
 |0=>by
  refine F.ok Yz (λvs H Q E h=>?_) (λf xu A outer s H vs Q E hr h=>?_)
  . obtain⟨e,x,nm,rfl,_⟩:=h;rfl
  . obtain⟨e,x,nm,rfl,_,_,_,hh,_⟩:=h;exact absurd hh (Nat.not_lt_zero _)
 |d+1=>BP d B F (rA B F d)
def hd(s:Sg)(ns:xr):Bool:=match s,ns with
 |.neg,[a]=>decide (a=0)
 |.lt,[a,b]=>decide (a<b)
 |.eq,[a,b]=>decide (a=b)
 |.conj,[a,b]=>decide (a≠0)&&decide (b≠0)
 |_,[a,b]=>decide (a≠0)||decide (b≠0)
 |_,_=>false
def BQ:Sg->Bool
 |.add=>false | .sub=>false | .pick=>false|_=>true
def rB(a:Int):(!decide (a=0))=decide (a≠0):=by simp
def rC(K:xh):Sp:=λvs H Q _=>∃(s:Sg) (p:xS) (ns:xr),vs=[.str s.str,.ref p]/\SqL K H p (ns.map V.int)/\ns.length=s.many/\BQ s=true/\Q (.bl (hd s ns)) H
def BR(B:Bl mg)(F:Fn K mg "holds" br ["sign", "numbers"]):Def P w K mg base "holds" 1 ["sign", "numbers"] (rC K):=by
 refine F.ok AX (λvs H Q E h=>?_) (λf xu A outer s H vs Q E hr h=>?_)
 . obtain⟨s,p,ns,rfl,_⟩:=h;rfl
 obtain⟨sg,p,ns,rfl,hS,hl,hh,q⟩:=h
 refine⟨_,(@J0 _ _ _ _ _ (Je (Jd (Jm.or (Jj.or (Jo.or (Jn K rfl hr.units)))) (pv 0) Jc (J8 _)) (@J2 _ _ _ (J7 (Qb (Jm.or (Jj.or (Jo.or (Jn K rfl hr.units)))) (J4 (J3 K rfl) (pv 1) xX (λ_ _=>rfl)) xX (J8 _)))) Jg)
  (@J0 _ _ _ _ _ (Je (Jd (Jm.or (Jj.or (Jo.or (Jn K rfl hr.units)))) (pv 0) Jc (J8 _)) (@J2 _ _ _ (J7 (Qb Yc (J4 (J3 K rfl) (pv 1) xX (λ_ _=>rfl)) (J4 (J3 K rfl) (pv 1) xX (λ_ _=>rfl)) (J8 _)))) Jg)
  (@J0 _ _ _ _ _ (Je (Jd (Jm.or (Jj.or (Jo.or (Jn K rfl hr.units)))) (pv 0) Jc (J8 _)) (@J2 _ _ _ (J7 (Qb (Jm.or (Jj.or (Jo.or (Jn K rfl hr.units)))) (J4 (J3 K rfl) (pv 1) xX (λ_ _=>rfl)) (J4 (J3 K rfl) (pv 1) xX (λ_ _=>rfl)) (J8 _)))) Jg)
  (@J0 _ _ _ _ _ (Je (Jd (Jm.or (Jj.or (Jo.or (Jn K rfl hr.units)))) (pv 0) Jc (J8 _)) (@J2 _ _ _ (J7 (eh (Qb (QE.or (Qk.or (QW.or (Ql K rfl hr.units)))) (J4 (J3 K rfl) (pv 1) xX (λ_ _=>rfl)) xX (J8 _)) (Y5 (Qb (QE.or (Qk.or (QW.or (Ql K rfl hr.units)))) (J4 (J3 K rfl) (pv 1) xX (λ_ _=>rfl)) xX (J8 _)))))) Jg)
  (@J2 _ _ _ (J7 (lG (Qb (QE.or (Qk.or (QW.or (Ql K rfl hr.units)))) (J4 (J3 K rfl) (pv 1) xX (λ_ _=>rfl)) xX (J8 _)) (Y5 (Qb (QE.or (Qk.or (QW.or (Ql K rfl hr.units)))) (J4 (J3 K rfl) (pv 1) xX (λ_ _=>rfl)) xX (J8 _)))))))))),?_⟩
 have xD:∀{a:Int}{r:xr},ns=a::r->atI (ns.map V.int) 0=some (.int a):=λe=>by rw[e];exact Qe (j:=0) rfl
 have at1:∀{a b:Int}{r:xr},ns=a::b::r->atI (ns.map V.int) 1=some (.int b):=λe=>by rw[e];exact Qe (j:=1) rfl
 cases sg with
 |add=>cases hh
 |sub=>cases hh
 |pick=>cases hh
 |neg =>
  match ns,hl with
  | [a],_ =>
   walk_at "rd";exact .inl ⟨p,_,_,_,rfl,rfl,hS,xD rfl,.inl ⟨_,_,rfl,rfl,q⟩⟩
 |lt =>
  obtain⟨a,b,rfl⟩:=QZ hl;walk_at "rd";exact .inl ⟨p,_,_,_,rfl,rfl,hS,xD rfl,_,rfl,.inl ⟨p,_,_,_,rfl,rfl,hS,at1 rfl,_,_,rfl,rfl,q⟩⟩
 |eq =>
  obtain⟨a,b,rfl⟩:=QZ hl;walk_at "rd";exact .inl ⟨p,_,_,_,rfl,rfl,hS,xD rfl,_,rfl,.inl ⟨p,_,_,_,rfl,rfl,hS,at1 rfl,.inl ⟨_,_,rfl,rfl,q⟩⟩⟩
 |conj =>
  obtain⟨a,b,rfl⟩:=QZ hl;walk_at "rd";refine .inl ⟨p,_,_,_,rfl,rfl,hS,xD rfl,.inl ⟨_,_,rfl,rfl,_,rfl,QF (λc=>?_) (λc=>?_)⟩⟩
  . have e:hd .conj [a,b] = !decide (b=0):=by show(decide (a≠0) && decide (b≠0))=_;simp[c]
    rw[e]at q;exact⟨_,rfl,.inl ⟨p,_,_,_,rfl,rfl,hS,at1 rfl,.inl ⟨_,_,rfl,rfl,q⟩⟩⟩
  . have e:hd .conj [a,b]=false:=by show(decide (a≠0) && decide (b≠0))=_;simp[c]
    rw[e]at q;exact q
 |disj =>
  obtain⟨a,b,rfl⟩:=QZ hl;walk_at "rd";refine .inl ⟨p,_,_,_,rfl,rfl,hS,xD rfl,.inl ⟨_,_,rfl,rfl,_,rfl,QF (λc=>?_) (λc=>?_)⟩⟩
  . have e:hd .disj [a,b]=true:=by show(decide (a≠0) || decide (b≠0))=_;simp[c]
    rw[e]at q;exact q
  . have e:hd .disj [a,b] = !decide (b=0):=by show(decide (a≠0) || decide (b≠0))=_;simp[c]
    rw[e]at q;exact⟨_,rfl,.inl ⟨p,_,_,_,rfl,rfl,hS,at1 rfl,.inl ⟨_,_,rfl,rfl,q⟩⟩⟩
def gH(K:xh):Sp:=λvs H Q _=>∃(s:Sg) (p:xS) (ns:xr),vs=[.str s.str,.ref p]/\SqL K H p (ns.map V.int)/\ns.length=s.many/\Q (.int (rkL s ns)) H
def BS(B:Bl mg)(F:Fn K mg "reckoned" bt ["sign", "numbers"])(gI:Def P w K mg base "holds" 1 ["sign", "numbers"] (rC K)):Def P w K mg base "reckoned" 2 ["sign", "numbers"] (gH K):=by
 refine F.ok AY (λvs H Q E h=>?_) (λf xu A outer s H vs Q E hr h=>?_)
 . obtain⟨s,p,ns,rfl,_⟩:=h;rfl
 obtain⟨sg,p,ns,rfl,hS,hl,q⟩:=h
 refine⟨_,(@J0 _ _ _ _ _ (Je (Jd (Jm.or (Jj.or (Jo.or (Jn K rfl hr.units)))) (pv 0) Jc (J8 _)) (@J2 _ _ _ (J7 (J5 (Jz.or (JH.or (JI.or (JK K rfl)))) (J4 (J3 K rfl) (pv 1) xX (λ_ _=>rfl)) (J4 (J3 K rfl) (pv 1) xX (λ_ _=>rfl))))) Jg)
  (@J0 _ _ _ _ _ (Je (Jd (Jm.or (Jj.or (Jo.or (Jn K rfl hr.units)))) (pv 0) Jc (J8 _)) (@J2 _ _ _ (J7 (J5 ag (J4 (J3 K rfl) (pv 1) xX (λ_ _=>rfl)) (J4 (J3 K rfl) (pv 1) xX (λ_ _=>rfl))))) Jg)
  (@J0 _ _ _ _ _ (Je (Jd (Jm.or (Jj.or (Jo.or (Jn K rfl hr.units)))) (pv 0) Jc (J8 _)) (@J2 _ _ _ (J7 (XW (Jd (QE.or (Qk.or (QW.or (Ql K rfl hr.units)))) (J4 (J3 K rfl) (pv 1) xX (λ_ _=>rfl)) xX (J8 _)) (J4 (J3 K rfl) (pv 1) xX (λ_ _=>rfl)) (J4 (J3 K rfl) (pv 1) xX (λ_ _=>rfl))))) Jg)
  (@J2 _ _ _ (J7 (XW (Y4 (J9 gI hr rfl (xW (pv 0) (xW (pv 1) xY)))) xX xX)))))),?_⟩
 have xD:∀{a:Int}{r:xr},ns=a::r->atI (ns.map V.int) 0=some (.int a):=λe=>by rw[e];exact Qe (j:=0) rfl
 have at1:∀{a b:Int}{r:xr},ns=a::b::r->atI (ns.map V.int) 1=some (.int b):=λe=>by rw[e];exact Qe (j:=1) rfl
 have at2:∀{a b c:Int}{r:xr},ns=a::b::c::r->atI (ns.map V.int) 2=some (.int c):=λe=>by rw[e];exact Qe (j:=2) rfl
 have fin:∀(b:Bool),rkL sg ns=b2n b->if b=true then Q (.int 1) H else Q (.int 0) H:=λb e=>by
  rw[e]at q
  cases b with
  |true=>exact Xv q
  |false=>exact Xc q
 cases sg with
 |add =>
  obtain⟨a,b,rfl⟩:=QZ hl;walk_at "rd";exact .inl ⟨p,_,_,_,rfl,rfl,hS,xD rfl,_,rfl,.inl ⟨p,_,_,_,rfl,rfl,hS,at1 rfl,.inl ⟨_,_,rfl,rfl,q⟩⟩⟩
 |sub =>
  obtain⟨a,b,rfl⟩:=QZ hl;walk_at "rd";exact .inl ⟨p,_,_,_,rfl,rfl,hS,xD rfl,_,rfl,.inl ⟨p,_,_,_,rfl,rfl,hS,at1 rfl,_,_,rfl,rfl,q⟩⟩
 |pick =>
  match ns,hl with
  | [a,b,c],_ =>
   walk_at "rd";refine .inl ⟨p,_,_,_,rfl,rfl,hS,xD rfl,.inl ⟨_,_,rfl,rfl,_,rfl,QF (λz=>?_) (λz=>?_)⟩⟩
   . have e:rkL .pick [a,b,c]=b:=qh z;rw[e]at q;exact⟨_,rfl,.inl ⟨p,_,_,_,rfl,rfl,hS,at1 rfl,q⟩⟩
   . have e:rkL .pick [a,b,c]=c:=qg (λh=>h z);rw[e]at q;exact⟨_,rfl,.inl ⟨p,_,_,_,rfl,rfl,hS,at2 rfl,q⟩⟩
 |neg =>
  match ns,hl with
  | [a],_ =>
   walk_at "rd";exact⟨.neg,p,[a],rfl,hS,rfl,rfl,_,rfl,fin _ rfl⟩
 |lt =>
  obtain⟨a,b,rfl⟩:=QZ hl;walk_at "rd";exact⟨.lt,p,[a,b],rfl,hS,rfl,rfl,_,rfl,fin _ rfl⟩
 |eq =>
  obtain⟨a,b,rfl⟩:=QZ hl;walk_at "rd";exact⟨.eq,p,[a,b],rfl,hS,rfl,rfl,_,rfl,fin _ rfl⟩
 |conj =>
  obtain⟨a,b,rfl⟩:=QZ hl;walk_at "rd";exact⟨.conj,p,[a,b],rfl,hS,rfl,rfl,_,rfl,fin _ rfl⟩
 |disj =>
  obtain⟨a,b,rfl⟩:=QZ hl;walk_at "rd";exact⟨.disj,p,[a,b],rfl,hS,rfl,rfl,_,rfl,fin _ rfl⟩
def XN(K:xh)(d:Nat):Sp:=λvs H Q _=>∃(e:Ex) (x:V) (pb:xS) (kvs:List (Key×V)) (ρ:Str->Int),vs=[x,.ref pb]/\e.ok/\e.over (λn=>Jr kvs (.inr n)=some (.int (ρ n)))/\e.high<d/\IsD K H (dE e) x/\H pb=some (.dK kvs)/\∀H',Same H H'->Q (.int (ev ρ e)) H'
def BU(d:Nat)(B:Bl mg)(F:Fn K mg "value" Yv ["e", "book"])(ZN:Def P w K mg base "reckoned" 2 ["sign", "numbers"] (gH K))(YJ:Def P w K mg base "value" (d+2) ["e", "book"] (XN K d)):Def P w K mg base "value" (d+3) ["e", "book"] (XN K (d+1)):=by
 have hjk:d+2<=d+2:=jE _;have hj_reckoned:2<=d+2:=by omega
 refine F.ok pH (λvs H Q E h=>?_) (λf xu A outer s H vs Q E hr h=>?_)
 . obtain⟨e,x,pb,kvs,ρ,rfl,_⟩:=h;rfl
 obtain⟨e,x,pb,kvs,ρ,rfl,ho,hv,hh,dx,hB,q⟩:=h
 refine⟨_,(@J0 _ _ _ _ _ (Je (Jd (Jm.or (Jj.or (Jo.or (Jn K rfl hr.units)))) (J4 (J3 K rfl) (pv 0) xX (λ_ _=>rfl)) Jc (J8 _)) (@J2 _ _ _ (J7 (J4 (J3 K rfl) (pv 0) xX (λ_ _=>rfl)))) Jg)
  (@J0 _ _ _ _ _ (Je (Jd (Jm.or (Jj.or (Jo.or (Jn K rfl hr.units)))) (J4 (J3 K rfl) (pv 0) xX (λ_ _=>rfl)) Jc (J8 _)) (@J2 _ _ _ (J7 (Yi (QV hr) (pv 1) (J4 (J3 K rfl) (pv 0) xX (λ_ _=>rfl)) (λ_ _=>rfl)))) Jg)
  (@J2 _ _ _ (J7 (J9 ZN hr rfl (xW (J4 (J3 K rfl) (pv 0) xX (λ_ _=>rfl)) (xW (QL (CompOk.of (x := "part") (M:=["book"]) (ix:=[1]) rfl rfl (by decide +kernel) (by decide +kernel) rfl ⟨rfl,trivial⟩ 'e' ⟨⟨rfl,rfl,rfl,rfl⟩,trivial⟩) rfl (by decide +kernel) (Y7 (QT ((Xw K rfl).or (Xx K rfl)) (pv 0) (QJ xX) X2)) (λ_ _ _ _ _=>Qf) (λ_ _ _ _ _=>(J9 YJ hr rfl (xW (pv 0) (xW (pv 1) xY)) (hjk:=hjk)))) xY)) (hjk:=hj_reckoned)))))),?_⟩
 rcases Ex.node ρ _ e ho hv with ⟨n,rfl⟩|⟨n,rfl⟩|⟨sg,cs,ed,ee,hl,hc⟩
 . obtain⟨t,xs,rfl,qt,_,_,rfl,rfl,_,_,rfl,rfl,rfl⟩:=dx;walk_at "rd";exact q H (Same.refl _)
 . obtain⟨t,xs,rfl,qt,_,_,rfl,rfl,_,_,rfl,rfl,rfl⟩:=dx;walk_at "rd";have e:some (V.int (ρ n))=Jr kvs (.inr n):=Eq.symm hv;exact⟨pb,_,rfl,.inl ⟨kvs,.inr n,.inl hB,rfl,e⟩,q H (Same.refl _)⟩
 . rw[ed]at dx;obtain⟨t,xs,rfl,qt,y,ys,rfl,ey,dys⟩:=dx;obtain rfl:y = .str sg.str:=ey;have xD:atI (.str sg.str :: ys) 0=some (.str sg.str):=Qe (j:=0) rfl;refine⟨_,rfl,.inr (.inl ⟨t,_,_,_,rfl,rfl,qt,xD,.inr (.inl ⟨_,_,rfl,rfl,_,rfl,Ji (λc=>absurd c (gq sg)) λ_=>nxt ?_⟩)⟩)⟩;refine⟨_,rfl,.inr (.inl ⟨t,_,_,_,rfl,rfl,qt,xD,.inr (.inl ⟨_,_,rfl,rfl,_,rfl,Ji (λc=>absurd c (gv sg)) λ_=>nxt ?_⟩)⟩)⟩;refine⟨_,rfl,.inr (.inl ⟨t,_,_,_,rfl,rfl,qt,xD,?_⟩)⟩;refine wT ?_
   have one:¬(HT.sIx (V.str sg.str::ys).length 0 (some 1)=0/\HT.sIx (V.str sg.str::ys).length (V.str sg.str::ys).length none=(V.str sg.str::ys).length):=λh=>by
    have:=h.1;simp[HT.sIx]at this
   refine⟨_,rfl,_,rfl,.inr ⟨t,_,rfl,qt,one,λp1 hp1=>⟨p1,rfl,⟨_,.of J1⟩,?_⟩⟩⟩;have ecut:JB (V.str sg.str::ys) (some 1) none=ys:=aF _ 1;rw[ecut];have s1:Same H (upd H p1 (.tup ys)):=J6 hp1 _;have yl:=dys.length;rw[jA]at yl;have lm:cs.length<=3:=by rw[hl];cases sg<;>decide
   refine Ym (K:=K) (xs:=ys) ((cs.map (ev ρ)).map D.int) (.of J1) (by simp[yl]) (by rw[yl];exact kG (XX 'c')) (Xd _) (λi x z H' R hx hd sm hR=>?_) (λp2 H2 zs sm2 e2 dz=>?_)
   . have hi:i < cs.length:=by have:=(jF.mp hx).1;omega
     obtain⟨y,ey,dy⟩:=dys.get (i:=i) (d:=dE cs[i]) (by rw[jD,jB hi];rfl);obtain rfl:x=y:=by rw[hx]at ey;exact Option.some.inj ey
     rw[jD,jD,jB hi]at hd;obtain rfl:z=D.int (ev ρ cs[i]):=(Option.some.inj hd).symm;obtain⟨c1,c2,c3⟩:=hc _ (jX hi);exact⟨_,rfl,_,rfl,cs[i],x,pb,kvs,ρ,rfl,c1,c2,by omega,dy.same (s1.trans sm),(s1.trans sm) _ _ hB,λxw sm''=>hR _ _ sm'' rfl⟩
   . rw[QX dz]at e2;refine⟨sg,p2,cs.map (ev ρ),rfl,.of e2,by rw[jA];exact hl,?_⟩;rw[<- ee];exact q _ (s1.trans sm2)
theorem rD(B:Bl mg)(F:Fn K mg "value" Yv ["e", "book"])(ZN:Def P w K mg base "reckoned" 2 ["sign", "numbers"] (gH K)):∀d,Def P w K mg base "value" (d+2) ["e", "book"] (XN K d)
 |0=>by
  refine F.ok pH (λvs H Q E h=>?_) (λf xu A outer s H vs Q E hr h=>?_)
  . obtain⟨e,x,pb,kvs,ρ,rfl,_⟩:=h;rfl
  . obtain⟨e,x,pb,kvs,ρ,rfl,_,_,hh,_⟩:=h;exact absurd hh (Nat.not_lt_zero _)
 |d+1=>BU d B F ZN (rD B F ZN d)
def rE{c:TT}{t u v:TS}{D:Ends}(Pj:St->Hp->Prop)(h:∀R:St->Hp->Prop,(∀σ' H',Pj σ' H'->R σ' H')->c σ H λb H'=>if b=true then t { D with nx:=R } σ H' else u { D with nx:=R } σ H')(k:∀σ' H',Pj σ' H'->v D σ' H'):QS (ad c t u) v D σ H:=h _ k
def SmA(a:xS)(H H':Hp):Prop:=∀b u,b≠a->H b=some u->H' b=some u
def SmA.of(h:Same H H'):SmA a H H':=λb u _ q=>h b u q
def SmA.trans(h:SmA a H H')(h':SmA a H' xw):SmA a H xw:=λb u n q=>h' b u n (h b u n q)
structure SAd where
 g:xS
 dx:xS
 nt:xS
 sd:xS
def fS(γ:SAd)(m:Int):List (Str×V):=[("most",.int m),("shares",.ref γ.sd),("names",.ref γ.nt)]
structure SAt (K:xh) (CS:xS) (H:Hp) (γ:SAd) (m:Int) (ns:xp) (acc:List (xr×Rat)):Prop where
 ins:H γ.g=some (.ins CS γ.dx (fS γ m))
 nm:TupZ H γ.nt (ns.map V.str)
 dct:∃ks,H γ.sd=some (.dT (kz ks))/\Acc K H acc ks
theorem SAt.same(h:SAt K CS H γ m ns acc)(s:Same H H'):SAt K CS H' γ m ns acc:=by
 obtain⟨h1,h2,ks,h3,h4⟩:=h;exact⟨s _ _ h1,h2.same s,ks,s _ _ h3,h4.mono λr v d=>d.same s⟩
def BV(γ:SAd)(m:Int):(fS γ m).lookup ("most" : Str)=some (.int m):=rfl
def Z7(γ:SAd)(m:Int):(fS γ m).lookup ("shares" : Str)=some (.ref γ.sd):=rfl
def Xj(γ:SAd)(m:Int):(fS γ m).lookup ("names" : Str)=some (.ref γ.nt):=rfl
def Z8(K:xh)(CS:xS):Sp:=λvs H Q _=>∃(γ:SAd) (m:Int) (ns:xp) (acc:List (xr×Rat)) (t:xS) (v:xr) (sv:V) (q:Rat),vs=[.ref γ.g,.ref t,sv]/\SAt K CS H γ m ns acc/\H t=some (.tup (v.map V.int))/\IsD K H (dF q) sv/\sz q/\(∀g∈acc,sz g.2)/\acc.length<=900 /\
 ((Js acc v q).length:Int)<=m/\∀H',SmA γ.sd H H'->SAt K CS H' γ m ns (Js acc v q)->Q .non H'
theorem BW(B:Bl mg)(xG:Cls K CS)(n1:NoAttr K CS "most")(n2:NoAttr K CS "shares")(Xi:Def P w K mg base "plus" 3 ["one", "other"] (cC K))(F:MFn K CS "add" "Gathering.add" ci ["self", "numbers", "share"]):DefM P w K mg base CS "add" 4 ["self", "numbers", "share"] (Z8 K CS):=by
 refine F.ok3 pL (λvs H Q E h=>?_) (λf xu A outer s H vs Q E hr h=>?_)
 . obtain⟨γ,m,ns,acc,t,v,sv,q,rfl,_⟩:=h;rfl
 obtain⟨γ,m,ns,acc,t,v,sv,q,rfl,sa,ht,dq,zq,za,l9,fit,k0⟩:=h
 refine⟨_,(@J0 _ _ _ _ _ (Je (Jd (mZ (QV hr)) (pv 1) (Q0 (pv 0) rfl) 'e') (@J2 _ _ _ (Ja (i:=2) pL.nd rfl 'a' (J9 Xi hr rfl (xW (Yi (QV hr) (Q0 (pv 0) rfl) (pv 1) (λ_ _=>rfl)) (xW (pv 2) xY))))) Jg)
  (@J0 _ _ _ _ _ (aA (QV hr) (Q0 (pv 0) rfl) (pv 1) (pv 2) rfl)
  (@J2 _ _ _ (Je (Jd ai (Q1 A4 rfl B.len PySem.boot_len (xW (Q0 (pv 0) rfl) xY)) (Q0 (pv 0) rfl) (J8 _)) (@J2 _ _ _ zu) Jg)))),?_⟩
 obtain⟨h1,h2,ks,h3,ac⟩:=id sa;have kl:=ac.length;have kt:H t=some (.tup ((v.map (Sum.inl:Int->Key)).map kV)):=by rw[Xy];exact ht
 have get:=DGet.t h3 kt;have lz:(kz ks).length<sizeLine:=by rw[jA];exact XX 'c'
 refine rE (λσ' H'=>Same H H'/\∃(x:Rat) (sv':V),σ'=[some (.ref γ.g),some (.ref t),some sv']/\IsD K H' (dF x) sv'/\JT acc v x=Js acc v q) (λR hR=>?_) ?_
 . refine⟨_,rfl,_,rfl,γ.g,CS,γ.dx,_,_,rfl,h1,xG,n2,Z7 γ m,γ.sd,_,rfl,get,_,rfl,?_⟩;rcases ac.val v with ⟨e3,e4⟩ | ⟨r,vv,e3,e4,dr⟩
   . rw[e4];exact Xc (hR _ _ ⟨Same.refl _,q,sv,rfl,dq,by unfold Js;rw[e3]⟩)
   . rw[e4]at get ⊢
     have zr:sz r:=by
      unfold Qq at e3
      cases ef:acc.find? λp=>decide (p.1=v) with
      |none=>rw[ef]at e3;cases e3
      |some g =>
       rw[ef]at e3
       cases e3
       exact za g (List.mem_of_find?_eq_some ef)
     refine Xv ⟨_,rfl,γ.g,CS,γ.dx,_,_,rfl,h1,xG,n2,Z7 γ m,_,rfl,γ.sd,vv,rfl,get,_,rfl,vv,sv,r,q,rfl,dr,dq,zr,zq,λp3 H3 s3 d3=>hR _ _ ⟨s3,r+q,.ref p3,rfl,d3,by unfold Js;rw[e3]⟩⟩
 . rintro σ' H' ⟨sm,x,sv',rfl,dx',es⟩;have h3':=sm _ _ h3;have ne1:γ.g≠γ.sd:=Qs h1 h3 (λz=>by cases z)
   obtain⟨b2,ac2⟩:(upd H' γ.sd (.dT (Jf (kz ks) (v.map Sum.inl) sv'))) γ.sd=some (.dT (kz (JT ks v sv')))/\Acc K (upd H' γ.sd (.dT (Jf (kz ks) (v.map Sum.inl) sv'))) (Js acc v q) (JT ks v sv'):=by
    refine⟨by rw[J1,ri],?_⟩;rw[<- es];exact((ac.mono λr v h=>h.same sm).set dx').mono (rm h3')
   refine⟨_,rfl,_,rfl,γ.g,CS,γ.dx,_,_,rfl,sm _ _ h1,xG,n2,Z7 γ m,_,rfl,γ.sd,_,rfl,DPut.t h3' (sm _ _ kt) lz,?_⟩;have s2:SmA γ.sd H (upd H' γ.sd (.dT (Jf (kz ks) (v.map Sum.inl) sv'))):=λb u n h=>by rw[xZ n];exact sm b u h
   have nt:γ.nt≠γ.sd:=by
    obtain⟨o,e,_⟩:=h2;exact Qs e h3 (λz=>by cases z)
   have sa2:SAt K CS (upd H' γ.sd (.dT (Jf (kz ks) (v.map Sum.inl) sv'))) γ m ns (Js acc v q):=⟨by rw[xZ ne1];exact sm _ _ h1,by
    obtain⟨o,e,d⟩:=h2;exact⟨o,by rw[xZ nt];exact sm _ _ e,d⟩,_,b2,ac2⟩
   have l2:=ac2.length;generalize upd H' γ.sd (.dT (Jf (kz ks) (v.map Sum.inl) sv'))=H2 at b2 s2 sa2 ⊢;refine⟨_,rfl,γ.g,CS,γ.dx,_,_,rfl,sa2.ins,xG,n2,Z7 γ m,γ.sd,_,rfl,b2,_,rfl,γ.g,CS,γ.dx,_,_,rfl,sa2.ins,xG,n1,BV γ m,_,_,rfl,rfl,_,rfl,Ji (λc=>?_) (λc=>?_)⟩
   . rw[jA,<- l2]at c;exact absurd c 'c'
   . rw[jA,<- l2]at c;exact nxt (k0 H2 s2 sa2)
def rF(CS:xS):Sp:=λvs H Q _=>∃(g dx:xS) (m:Int),vs=[.ref g,.int m]/\H g=some (.ins CS dx []) /\
 ∀(sd:xS) (H':Hp),SmA g H H'->H sd=none->H' g=some (.ins CS dx [("most",.int m),("shares",.ref sd)])->H' sd=some (.dT [])->sd≠g->Q .non H'
def BX(B:Bl mg)(xG:Cls K CS)(n1:NoAttr K CS "most")(n2:NoAttr K CS "shares")(F:CFn K mg "Gathering" CGa "__init__" "Gathering.__init__" bR ["self", "most"]):DefC P w K mg base "Gathering" CGa "__init__" 1 ["self", "most"] (rF CS):=by
 refine F.ok3 B7 (λvs H Q E h=>?_) (λf xu A outer s H vs Q E hr h=>?_)
 . obtain⟨g,dx,m,rfl,_⟩:=h;rfl
 obtain⟨g,dx,m,rfl,hg,q⟩:=h
 refine⟨_,(@J0 _ _ _ _ _ (Zl (pv 0) (pv 1) rfl)
  (@J2 _ _ _ (Zl (pv 0) mO rfl))),?_⟩
 refine⟨_,rfl,_,rfl,g,CS,dx,_,rfl,hg,xG,n1,(by show 0<1000;decide),?_⟩;refine λsd f1=>?_;have ne:sd≠g:=λz=>by rw[z,J1]at f1;cases f1
 refine⟨_,rfl,g,CS,dx,_,rfl,(by rw[xZ ne.symm];exact J1),xG,n2,(by show 1<1000;decide),?_⟩;have e1:H sd=none:=by rw[xZ ne]at f1;exact f1
 refine q sd _ (λb u n h=>?_) e1 J1 (by rw[xZ ne];exact J1) ne;rw[xZ n,xZ (Jp h e1),xZ n];exact h
def Z9(K:xh)(CS:xS):Sp:=λvs H Q _=>∃(g dx nt:xS) (m:Int) (ns:xp),vs=[.ref g,.ref nt,.int m]/\H g=some (.ins CS dx [])/\TupZ H nt (ns.map V.str) /\
 ∀(sd:xS) (H':Hp),SmA g H H'->H sd=none->SAt K CS H' ⟨g,dx,nt,sd⟩ m ns []->Q .non H'
def BY(B:Bl mg)(xG:Cls K CS)(n3:NoAttr K CS "names")(DC_Gathering:DefC P w K mg base "Gathering" CGa "__init__" 1 ["self", "most"] (rF CS))(F:Fun K "__init__" "StateList.__init__" bS f fd):FnOk P w K mg base (CXD P w) 2 f fd ["self", "names", "most"] (Z9 K CS):=by
 refine F.ok3 B8 (λvs H Q E h=>?_) (λxu A outer s H vs Q E hr h=>?_)
 . obtain⟨g,dx,nt,m,ns,rfl,_⟩:=h;rfl
 obtain⟨g,dx,nt,m,ns,rfl,hg,hz,q⟩:=h
 refine⟨_,(@J0 _ _ _ _ _ (Qi (A5 DC_Gathering hr rfl JN (xW (pv 0) (xW (pv 2) xY))))
  (@J2 _ _ _ (Zl (pv 0) (pv 1) rfl))),?_⟩
 refine⟨_,rfl,_,rfl,g,dx,m,rfl,hg,λsd H1 s1 f1 e1 e2 ne=>?_⟩;refine⟨_,rfl,_,rfl,g,CS,dx,_,rfl,e1,xG,n3,(by show 2<1000;decide),?_⟩;refine q sd _ (λb u n h=>by rw[xZ n];exact s1 b u n h) f1 ⟨J1,?_,[],by rw[xZ ne];exact e2,.nil⟩;obtain⟨o,e,d⟩:=hz;have ng:nt≠g:=Qs e hg (λz=>by cases z);exact⟨o,by rw[xZ ng];exact s1 _ _ ng e,d⟩
def BZ{nt:xS}{m:Int}{ns:xp}{H:Hp}{Q:VK}{E:XK}(z:TupZ H nt (ns.map V.str))(k:∀(γ:SAd) (H':Hp),γ.nt=nt->Same H H'->H γ.g=none->H γ.sd=none->SAt K CS H' γ m ns []->Q (.ref γ.g) H') :
 ∀x dx,H x=none->H dx=none->dx≠x->Z9 K CS (.ref x::([.ref nt,.int m]++[])) (upd (upd H dx (.own x)) x (.ins CS dx [])) (λv H2=>v=.non/\Q (.ref x) H2) E:=by
 intro x dx fx fdx ne;have sA:Same H (upd (upd H dx (.own x)) x (.ins CS dx [])):=(J6 fdx _).trans (J6 (by rw[xZ ne.symm];exact fx) _);refine⟨x,dx,nt,m,ns,rfl,J1,z.same sA,λsd H' s1 f1 sa=>⟨rfl,?_⟩⟩
 have f2:H sd=none:=by
  cases e:H sd with
  |none=>rfl
  |some u=>rw[sA _ _ e]at f1;cases f1
 exact k ⟨x,dx,nt,sd⟩ H' rfl (λb u h=>s1 b u (Jp h fx) (sA b u h)) fx f2 sa
def rG(ha:H a=some (.tup xs))(k:∀p H',Same H H'->H' p=some (.tup (JB xs lo hi))->Q (.ref p) H'):oE K (.ref a) lo hi H Q :=
 ⟨a,xs,rfl,.of ha,λw=>k a H (Same.refl _) (by rw[oQ w];exact ha),λ_ p hp=>k p _ (J6 hp _) J1⟩
def rH(ha:H a=some (.tup xs))(hb:H b=some (.tup ys))(hz:'h'+ys.length<=sizeLine)(k:∀p H',Same H H'->H' p=some (.tup (xs++ys))->Q (.ref p) H'):nJ K (.ref a) (.ref b) H Q :=
 ⟨a,b,xs,ys,rfl,rfl,.of ha,.of hb,hz,λe=>k b H (Same.refl _) (by rw[e];exact hb),λ_ e=>k a H (Same.refl _) (by rw[e,jk];exact ha),λ_ p hp=>k p _ (J6 hp _) J1⟩
def repl{α:Type}(l:List α)(i:Nat)(x:α):List α:=l.take i++[x]++l.drop (i+1)
def gJ(K:xh):Sp:=λvs H Q _=>∃(a:xS) (i:Nat) (x:V) (xs:List V),vs=[.ref a,.int (i:Nat),x]/\i<='h'/\'h'<=1000 /\
 ((TupZ H a xs/\∀p H',Same H H'->TupZ H' p (repl xs i x)->Q (.ref p) H')\/(H a=some (.tup xs)/\∀p H',Same H H'->H' p=some (.tup (repl xs i x))->Q (.ref p) H'))
def C0(B:Bl mg)(F:Fn K mg "replaced" bA ["some", "place", "one"]):Def P w K mg base "replaced" 1 ["some", "place", "one"] (gJ K):=by
 refine F.ok B1 (λvs H Q E h=>?_) (λf xu A outer s H vs Q E hr h=>?_)
 . obtain⟨a,i,x,xs,rfl,_⟩:=h;rfl
 obtain⟨a,i,x,xs,rfl,hi,l9,md⟩:=h;refine⟨_,(@J2 _ _ _ (J7 (J5 (Jz.or (fL.or (fK K rfl))) (J5 (Jz.or (fL.or (fK K rfl))) (QT (oR.or (oF K rfl)) (pv 0) X2 (QJ (pv 1))) (fX (@A0 _ _ _ _ _ (pv 2) rfl) (@zZ _ _ _ _ _ (pv 2) rfl))) (QT (oR.or (oF K rfl)) (pv 0) (QJ (J5 (Jz.or (fL.or (fK K rfl))) (pv 1) xX)) X2)))),?_⟩;have big:(10000:Nat)<sizeLine:=by decide
 have c1:JB xs none (some ((i:Nat):Int))=xs.take i:=wJ xs i;have c2:JB xs (some (((i:Nat):Int)+1)) none=xs.drop (i+1):=aF xs (i+1);have lt:(xs.take i).length<=1000:=by rw[jW];omega
 have ld:(xs.drop (i+1)).length<=1000:=by rw[List.length_drop];omega
 have lm:(xs.take i++[x]).length<=1001:=by rw[jU,List.length_singleton];omega
 rcases md with ⟨z,k⟩|⟨z,k⟩
 . refine⟨_,rfl,_,rfl,_,rfl,.inl ⟨a,xs,rfl,z,λp1 H1 s1 z1=>?_⟩⟩;rw[c1]at z1;refine .inl ⟨_,rfl,by show 1<=sizeLine;decide,λp2 o n2 d2=>?_⟩;have s2:=J6 n2 (.frz o (.tup [x]));refine .inr (.inl ⟨p1,p2,_,_,rfl,rfl,z1.same s2,⟨o,J1,d2⟩,by show(xs.take i).length+1<=_;omega,λp3 H3 s3 z3=>?_⟩);refine⟨_,rfl,_,rfl,.inl ⟨_,_,rfl,rfl,_,rfl,.inl ⟨a,xs,rfl,z.same (s1.trans (s2.trans s3)),λp4 H4 s4 z4=>?_⟩⟩⟩;rw[c2]at z4;exact .inr (.inl ⟨p3,p4,_,_,rfl,rfl,z3.same s4,z4,by omega,λp5 H5 s5 z5=>k p5 H5 (s1.trans (s2.trans (s3.trans (s4.trans s5)))) z5⟩)
 . refine⟨_,rfl,_,rfl,_,rfl,.inr (rG z λp1 H1 s1 z1=>?_)⟩;rw[c1]at z1;refine .inr ⟨_,rfl,by show 1<=sizeLine;decide,λp2 n2=>?_⟩;have s2:=J6 n2 (.tup [x]);refine .inr (.inr (rH (s2 _ _ z1) J1 (by show(xs.take i).length+1<=_;omega) λp3 H3 s3 z3=>?_));refine⟨_,rfl,_,rfl,.inl ⟨_,_,rfl,rfl,_,rfl,.inr (rG ((s1.trans (s2.trans s3)) _ _ z) λp4 H4 s4 z4=>?_)⟩⟩;rw[c2]at z4;exact .inr (.inr (rH (s4 _ _ z3) z4 'c' λp5 H5 s5 z5=>k p5 H5 (s1.trans (s2.trans (s3.trans (s4.trans s5)))) z5))
def C4{ns:xp}{n:Str}(hn:ns.idxOf n<ns.length):eqV ((ns.map V.str)[ns.idxOf n]'(by rw[jA];exact hn)) (.str n)=true/\∀m (hm:m<(ns.map V.str).length),m<ns.idxOf n->eqV ((ns.map V.str)[m]) (.str n)=false:=by
 refine⟨?_,λm hm hmj=>?_⟩
 . rw[j9,cI,ki hn];exact qi rfl
 . rw[j9,cI];refine qj λz=>?_;have:=List.not_of_lt_findIdx (p:=(·==n)) (xs:=ns) (i:=m) (by simpa [List.idxOf] using hmj);simp[z]at this
def gK(K:xh)(CS:xS):Sp:=λvs H Q _=>∃(γ:SAd) (m:Int) (ns:xp) (acc:List (xr×Rat)) (n:Str),vs=[.ref γ.g,.str n]/\SAt K CS H γ m ns acc/\Q (.int (ns.idxOf n:Nat)) H
def C5(B:Bl mg)(xG:Cls K CS)(n3:NoAttr K CS "names")(F:MFn K CS "place_for" "StateList.place_for" bT ["self", "name"]):DefM P w K mg base CS "place_for" 1 ["self", "name"] (gK K CS):=by
 refine F.ok3 B9 (λvs H Q E h=>?_) (λf xu A outer s H vs Q E hr h=>?_)
 . obtain⟨γ,m,ns,acc,n,rfl,_⟩:=h;rfl
 obtain⟨γ,m,ns,acc,n,rfl,sa,q⟩:=h;refine⟨_,(@J2 _ _ _ (J7 (XW (Jd (wU K rfl) (pv 1) (Q0 (pv 0) rfl) 'e') (nI PySem.F.slot_tuple_index PySem.F.type_tuple_index (nG K rfl) (Q0 (pv 0) rfl) (xW (pv 1) xY)) (Q1 (XZ K rfl) rfl B.len PySem.boot_len (xW (Q0 (pv 0) rfl) xY))))),?_⟩;have qz:=sa.nm;refine⟨_,rfl,_,rfl,γ.g,CS,γ.dx,_,_,rfl,sa.ins,xG,n3,Xj γ m,γ.nt,_,rfl,.inr qz.sq,rfl,Zx _,_,rfl,?_⟩;show if inV (.str n) (ns.map V.str)=true then _ else _;rw[aI];refine Ji (λc=>?_) (λc=>?_)
 . have hn:=jx.mpr c;obtain⟨e1,e2⟩:=C4 hn;exact⟨_,rfl,γ.g,CS,γ.dx,_,_,rfl,sa.ins,xG,n3,Xj γ m,γ.nt,_,rfl,qz,_,rfl,γ.nt,ns.map V.str,.str n,ns.idxOf n,by rw[jA];exact hn,rfl,rfl,qz.sq,rfl,Zx _,e1,e2,q⟩
 . have e:ns.idxOf n=ns.length:=List.idxOf_eq_length c;rw[e]at q;refine⟨_,rfl,γ.g,CS,γ.dx,_,_,rfl,sa.ins,xG,n3,Xj γ m,_,_,rfl,.inr ⟨_,qz.sq,rfl⟩,?_⟩;rw[jA];exact q
theorem rJ(f:Str->V):∀(ms ks:xp),JJ (kM ks f) (kM ms f)=kM (unS ks ms) f
 | [],_=>rfl
 |m::ms,ks=>by
  show JJ (Jf (kM ks f) (Sum.inr m) (f m)) (kM ms f)=_;rw[BA,By (g:=f) λy _=>by split;rename_i h;rw[h];rfl,rJ f ms];rfl
def bk(ns:xp)(v:xr):Str->Int:=λx=>v.getD (ns.idxOf x) 0
def wn(es:List Ex):xp:=es.flatMap Ex.nms
def C6{es:List Ex}{i:Nat}{e:Ex}(h:es[i]?=some e):wn (es.take (i+1))=wn (es.take i)++e.nms:=by
 unfold wn;rw[kj,h,List.flatMap_append];simp
def rK(h:∀e∈es,X6 e):(wn es).length<=12*es.length:=by
 unfold wn
 induction es with
 |nil=>exact jE _
 |cons e es ih =>
  rw[List.flatMap_cons,jU,jV];have h1:=r8 (h e 'f');have h2:=ih λx hx=>h x (jN _ hx);omega
def VRow(K:xh)(ns:xp)(es:List Ex)(H:Hp)(p:xr×Rat)(y:V):Prop:=∃(r t u:xS) (sv:V),y=.ref r/\H r=some (.tup [.ref t,sv,.ref u])/\H t=some (.tup (p.1.map V.int))/\IsD K H (dF p.2) sv/\H u=some (.tup ((es.map (ev (bk ns p.1))).map V.int))
theorem VRow.same(h:VRow K ns es H p y)(s:Same H H'):VRow K ns es H' p y:=by
 obtain⟨r,t,u,sv,h1,h2,h3,h4,h5⟩:=h;exact⟨r,t,u,sv,h1,s _ _ h2,s _ _ h3,h4.same s,s _ _ h5⟩
def C7:JE v (plc ns ss)=ss.map (bk ns v):=by
 unfold JE plc bk;rw[jb];exact ji λx _=>by simp
def NoT(H:Hp)(a:xS):Prop:=(∀xs,H a≠some (.tup xs))/\∀o xs,H a≠some (.frz o (.tup xs))
def rL(e:H a=some (.lst xs)):NoT H a:=⟨λ_ z=>(by rw[e]at z;cases z),λ_ _ z=>(by rw[e]at z;cases z)⟩
def XO(e:H a=some (.dT kvs)):NoT H a:=⟨λ_ z=>(by rw[e]at z;cases z),λ_ _ z=>(by rw[e]at z;cases z)⟩
def rM(e:H a=some (.frz o (.dT kvs))):NoT H a:=⟨λ_ z=>(by rw[e]at z;cases z),λ_ _ z=>(by rw[e]at z;cases z)⟩
theorem NoT.tup{H:Hp}{a b:xS}{u:HO}{xs:List V}(n:NoT H a)(h:H b=some (.tup xs)):upd H a u b=some (.tup xs):=by rw[xZ (λz=>n.1 xs (by rw[<- z];exact h))];exact h
def NoT.tz(n:NoT H a)(h:TupZ H b xs):TupZ (upd H a u) b xs:=by
 obtain⟨o,e,d⟩:=h;exact⟨o,by rw[xZ (λz=>n.2 o xs (by rw[<- z];exact e))];exact e,d⟩
def NoT.sq(n:NoT H a)(h:SqT K H b xs):SqT K (upd H a u) b xs:=by
 rcases h with (h|⟨o,h⟩)|h
 . exact .inl (.inl (n.tup h))
 . exact .inl (.inr ⟨o,by rw[xZ (λz=>n.2 o xs (by rw[<- z];exact h))];exact h⟩)
 . exact .inr h
theorem NoT.dF(n:NoT H a)(h:IsD K H (dF r) v):IsD K (upd H a u) (Fd.dF r) v:=by
 obtain⟨p,rfl,q⟩:=JS h;exact⟨p,_,rfl,n.sq q,_,_,rfl,rfl,_,_,rfl,rfl,rfl⟩
def VRow.no(n:NoT H a)(h:VRow K ns es H p y):VRow K ns es (upd H a u) p y:=by
 obtain⟨r,t,u,sv,h1,h2,h3,h4,h5⟩:=h;exact⟨r,t,u,sv,h1,n.tup h2,n.tup h3,n.dF h4,n.tup h5⟩
def SqL.noL(n1:∀ys,H a≠some (.lst ys))(n2:∀o ys,H a≠some (.frz o (.lst ys)))(h:SqL K H b xs):SqL K (upd H a u) b xs:=by
 rcases h with (h|⟨o,h⟩)|h
 . exact .inl (.inl (by rw[xZ (λz=>n1 xs (by rw[<- z];exact h))];exact h))
 . exact .inl (.inr ⟨o,by rw[xZ (λz=>n2 o xs (by rw[<- z];exact h))];exact h⟩)
 . exact .inr h
mutual
theorem C8{H:Hp}{a:xS}{u:HO}(n:NoT H a)(n1:∀ys,H a≠some (.lst ys))(n2:∀o ys,H a≠some (.frz o (.lst ys))):∀(d:D) (v:V),IsD K H d v->IsD K (upd H a u) d v
 |.tup l,v,h=>by
  obtain⟨p,xs,e,q,ds⟩:=h;exact⟨p,xs,e,n.sq q,YK n n1 n2 l xs ds⟩
 |.lst l,v,h=>by
  obtain⟨p,xs,e,q,ds⟩:=h;exact⟨p,xs,e,SqL.noL n1 n2 q,YK n n1 n2 l xs ds⟩
 |.int _,v,h=>h
 |.str _,v,h=>h
 |.bl _,v,h=>h
 |.non,v,h=>h
theorem YK{H:Hp}{a:xS}{u:HO}(n:NoT H a)(n1:∀ys,H a≠some (.lst ys))(n2:∀o ys,H a≠some (.frz o (.lst ys))):∀(ds:List D) (vs:List V),IsDs K H ds vs->IsDs K (upd H a u) ds vs
 | [],_,h=>h
 |d::ds,vs,h=>by
  obtain⟨x,r,e,h1,h2⟩:=h;exact⟨x,r,e,C8 n n1 n2 d x h1,YK n n1 n2 ds r h2⟩
end
def gL(s:Same H H')(f:H' p=none):H p=none:=by
 cases e:H p with
 |none=>rfl
 |some u=>rw[s _ _ e]at f;cases f
def C9(h:wi σ H (Q5 ix te σ λx H1=>r [x] H1 Q)):tCB r (JF (Qv ix wi Q7 te) JA) σ H Q:=h
def rN{i:Nat}(h:(kz ks)[i]?=some kv):∃kw,ks[i]?=some kw/\kv=(kw.1.map Sum.inl,kw.2):=by
 rw[jD]at h;obtain⟨kw,h1,h2⟩:=jf.mp h;exact⟨kw,h1,h2.symm⟩
theorem Acc.at:∀{acc:List (xr×Rat)}{ks:List (xr×V)},Acc K H acc ks->∀{i:Nat}{kw:xr×V},ks[i]?=some kw->∃q,acc[i]?=some (kw.1,q)/\IsD K H (dF q) kw.2
 |_,_,.nil,i,kw,h=>by simp at h
 |p::_,_,.cons h t,0,kw,e=>by
  have e:=Option.some.inj e;subst e;exact⟨p.2,qG some (Prod.ext h.1 rfl),h.2⟩
 |_,_,.cons h t,i+1,kw,e=>Acc.at t (i:=i) e
def b8{α β:Type}{F:α->β->Prop}{l:List α}{m:List β}{x:α}{y:β}(h:Paired F l m)(g:F x y):Paired F (l++[x]) (m++[y]):=gE g h
def gM(K:xh)(CS:xS):Sp:=λvs H Q _=>∃(γ:SAd) (m:Int) (ns:xp) (acc:List (xr×Rat)) (la:xS) (xs:List V) (es:List Ex),vs=[.ref γ.g,.ref la]/\SAt K CS H γ m ns acc/\SqL K H la xs/\IsDs K H (es.map dE) xs/\es.length<=8/\(∀e∈es,X6 e/\∀n∈e.nms,n∈ns)/\(∀p∈acc,p.1.length=ns.length)/\acc.length<=900 /\
 ∀(l:xS) (H':Hp) (ys:List V),Same H H'->H l=none->H' l=some (.lst ys)->Paired (VRow K ns es H') acc ys->Q (.ref l) H'
def Ca(B:Bl mg)(xG:Cls K CS)(n2:NoAttr K CS "shares")(n3:NoAttr K CS "names")(YI:Def P w K mg base "names_in" 12 ["e"] (cJ K 10))(Xk:Def P w K mg base "places_of" 1 ["names", "some"] (cH K))(ZM:Def P w K mg base "chosen" 1 ["values", "places"] (gD K))(YJ:Def P w K mg base "value" 12 ["e", "book"] (XN K 10))(F:MFn K CS "valued" "StateList.valued" bU ["self", "es"]):DefM P w K mg base CS "valued" 13 ["self", "es"] (gM K CS):=by
 refine F.ok3 XF (λvs H Q E h=>?_) (λf xu A outer s H vs Q E hr h=>?_)
 . obtain⟨γ,m,ns,acc,la,xs,es,rfl,_⟩:=h;rfl
 obtain⟨γ,m,ns,acc,la,xs,es,rfl,sa,ql,ids,l8,eo,vl,l9,q⟩:=h
 refine⟨_,(@J0 _ _ _ _ _ (Ja (i:=2) XF.nd rfl 'a' (QB xY))
  (@J0 _ _ _ _ _ (Z2 (Qj (pv 1)) (Ju (i:=3) XF.nd rfl 'a') (@J2 _ _ _ (Qi (Zq PySem.F.plainAttrs_list PySem.F.slot_list_extend PySem.F.type_list_extend A2 (pv 2) (xW (J9 YI hr rfl (xW (pv 3) xY)) xY)))))
  (@J0 _ _ _ _ _ (Ja (i:=4) XF.nd rfl 'a' (J9 Xk hr rfl (xW (Q0 (pv 0) rfl) (xW (pv 2) xY))))
  (@J0 _ _ _ _ _ (Ja (i:=5) XF.nd rfl 'a' (QB xY))
  (@J0 _ _ _ _ _ (oO (Z2 (oN (Q0 (pv 0) rfl)) (Xb rfl (JZ (Ju (i:=6) XF.nd rfl 'a') (JZ (Ju (i:=7) XF.nd rfl 'a') Xa))) (@J0 _ _ _ _ _ (Ja (i:=8) XF.nd rfl 'a' (zm K rfl rfl rfl B.dict PyProof.Rows.boot_dict rfl B.zip PyProof.Rows.boot_zip (xW (pv 2) (xW (J9 ZM hr rfl (xW (pv 6) (xW (pv 4) xY))) xY))))
  (@J2 _ _ _ (Qi (Zq PySem.F.plainAttrs_list PySem.F.slot_list_append PySem.F.type_list_append Zr (pv 5) (xW (Jq (xW (pv 6) (xW (pv 7) (xW (JU (Zw K rfl) rfl B.tuple PyProof.Rows.boot_tuple (xW (QL (CompOk.of (x := "e") (M:=["book"]) (ix:=[8]) rfl rfl (by decide +kernel) (by decide +kernel) rfl ⟨rfl,trivial⟩ 'e' ⟨⟨rfl,rfl,rfl,rfl⟩,trivial⟩) rfl (by decide +kernel) (Qj (pv 1)) (λ_ _ _ _ _=>Qf) (λ_ _ _ _ _=>(J9 YJ hr rfl (xW (pv 0) (xW (pv 1) xY))))) xY)) xY)))) xY)))))))
  (@J2 _ _ _ (J7 (pv 5)))))))),?_⟩
 have big:(10000:Nat)<sizeLine:=by decide
 have xl:=ids.length;rw[jA]at xl;refine⟨by show 0<=sizeLine;decide,λwl fw=>?_⟩;have s1:=J6 fw (.lst []);refine⟨_,rfl,la,rfl,⟨_,s1.seq ql⟩,X1 (K:=K) (xs:=xs) (λi σ H'=>Same H H'/\∃c3,σ=[some (.ref γ.g),some (.ref la),some (.ref wl),c3,none,none,none,none,none]/\H' wl=some (.lst ((wn (es.take i)).map V.str))) ⟨s1,none,rfl,J1⟩ (λi σ H' _ h=>h.1.seq ql) ?_ ?_⟩
 . rintro i x σ H' hx ⟨sm,c3,rfl,hw⟩;have hi:i < es.length:=by have:=(jF.mp hx).1;omega
   obtain⟨y,ey,dy⟩:=ids.get (i:=i) (d:=dE es[i]) (by rw[jD,jB hi];rfl);obtain rfl:x=y:=by rw[hx]at ey;exact Option.some.inj ey
   obtain⟨o1,o2,o3⟩:=(eo _ (jX hi)).1;have o4:=r8 ⟨o1,o2,o3⟩;refine⟨_,rfl,.inl ⟨rfl,_,.of hw⟩,_,rfl,es[i],x,es[i].rds,rfl,o1,(X0 _).mpr λ_ h=>h,by omega,o2,dy.same sm,λp H2 np s2 ep=>?_⟩;have l1:=rK (es:=es.take i) λe he=>(eo e (jj he)).1;rw[jW]at l1;refine⟨wl,p,_,_,rfl,rfl,s2 _ _ hw,.of ep,by rw[jA,jA];omega,?_⟩;exact⟨XY fw (sm.trans s2),_,rfl,by rw[J1,C6 (jB hi),jh]⟩
 rintro σ H1 ⟨sm1,c3,rfl,hw⟩;rw[xl,jr]at hw;have lw:=rK (es:=es) λe he=>(eo e he).1
 have wsub:∀n∈wn es,n∈ns:=λn hn=>by
  obtain⟨e,he,hn⟩:=List.mem_flatMap.mp hn;exact(eo e he).2 n hn
 have sa1:=sa.same sm1;refine⟨_,rfl,γ.g,CS,γ.dx,_,_,rfl,sa1.ins,xG,n3,Xj γ m,_,rfl,γ.nt,wl,ns,wn es,rfl,sa1.nm,.inl (.of hw),wsub,by omega,λpl H2 s2 hpl=>?_⟩;dsimp only[Jh,List.set];refine⟨by show 0<=sizeLine;decide,λfl ff=>?_⟩;have s3:=J6 ff (.lst []);have sm3:=sm1.trans (s2.trans s3);have ff0:H fl=none:=gL (sm1.trans s2) ff;obtain⟨ks,h3,ac⟩:=sa.dct;have kl:=ac.length;have hfl:upd H2 fl (.lst []) fl=some (.lst []):=J1;have hpl3:=s3 _ _ hpl;have hw3:=(s2.trans s3) _ _ hw;dsimp only[Jh,List.set];generalize upd H2 fl (.lst [])=H3 at s3 sm3 hfl hpl3 hw3 ⊢;have sa3:=sa.same sm3;have nfl:fl≠γ.sd:=(Jp h3 ff0).symm;have npl:pl≠γ.sd:=Qs hpl3 (sm3 _ _ h3) (λz=>by cases z);have nwl:wl≠γ.sd:=Qs hw3 (sm3 _ _ h3) (λz=>by cases z);have fpl:pl≠fl:=Jp hpl ff;have fwl:wl≠fl:=Jp (s2 _ _ hw) ff;refine⟨γ.sd,kz ks,sm3 _ _ h3,?_⟩;refine⟨_,rfl,γ.g,CS,γ.dx,_,_,rfl,sa3.ins,xG,n2,Z7 γ m,γ.sd,kz ks,rfl,sm3 _ _ h3,λo=>?_⟩
 refine oP (kvs:=kz ks) (λi σ H'=>Same (upd H γ.sd (.frz o (.dT (kz ks)))) H'/\H' pl=some (.lst ((plc ns (wn es)).map V.int))/\H' wl=some (.lst ((wn es).map V.str))/\∃(c6 c7 c8:Option V) (ys:List V),σ=[some (.ref γ.g),some (.ref la),some (.ref wl),c3,some (.ref pl),some (.ref fl),c6,c7,c8]/\H' fl=some (.lst ys)/\Paired (VRow K ns es H') (acc.take i) ys)
  ⟨λb u hb=>?_,by rw[xZ npl];exact hpl3,by rw[xZ nwl];exact hw3,none,none,none,[],rfl,by rw[xZ nfl];exact hfl,.nil⟩ (λi σ H' _ h=>h.1 _ _ J1) ?_ ?_
 . by_cases z:b=γ.sd
   . rw[z,J1]at hb ⊢;exact hb
   . rw[xZ z]at hb ⊢;exact sm3 _ _ hb
 . rintro i kv p t σ H' hkv ⟨sm,hpl',hwl',c6,c7,c8,ys,rfl,hfl',pr⟩ np ht;obtain⟨kw,hkw,rfl⟩:=rN hkv;obtain⟨q0,eacc,dq⟩:=ac.at hkw;have hi:=(jF.mp eacc).1;have vlen:=vl _ (jZ eacc);dsimp only at vlen;rw[Xy]at ht;have dq':IsD K H' (dF q0) kw.2:=(NoT.dF (XO h3) dq).same sm;refine⟨p,_,rfl,.of J1,rfl,_,_,rfl,_,_,rfl,rfl,?_⟩;have s4:=J6 np (.tup [.ref t,kw.2]);have np':p≠fl:=(Jp hfl' np).symm;refine⟨_,rfl,_,rfl,_,rfl,t,pl,kw.1,plc ns (wn es),rfl,.of (s4 _ _ ht),.of (s4 _ _ hpl'),λj hj=>?_,by unfold plc;rw[jA];omega,λt2 H4 n2' s5 e5=>?_⟩
   . obtain⟨x,hx,rfl⟩:=jG.mp hj;have:=jx.mpr (wsub x hx);omega
   rw[C7]at e5;have s6:=s4.trans s5;refine⟨wl,t2,(wn es).map Sum.inr,((wn es).map (bk ns kw.1)).map V.int,rfl,.inr (.of (by rw[jb];exact s6 _ _ hwl')),.of e5,by rw[jA,jA,jA],by rw[jA];omega,λbp nb=>?_⟩
   have ebk:JJ [] (((wn es).map Sum.inr).zip (((wn es).map (bk ns kw.1)).map V.int))=kM (unS [] (wn es)) λx => .int (bk ns kw.1 x):=by
    have:((wn es).map (Sum.inr:Str->Key)).zip (((wn es).map (bk ns kw.1)).map V.int)=kM (wn es) λx => .int (bk ns kw.1 x):=by
     unfold kM;rw[jb,List.zip_map'];rfl
    rw[this];exact rJ (λx => .int (bk ns kw.1 x)) (wn es) []
   rw[ebk];have s7:=J6 nb (.dK (kM (unS [] (wn es)) λx => .int (bk ns kw.1 x)));have hbp:upd H4 bp (.dK (kM (unS [] (wn es)) λx => .int (bk ns kw.1 x))) bp=_:=J1;dsimp only[Jh,List.set];generalize upd H4 bp (.dK (kM (unS [] (wn es)) λx => .int (bk ns kw.1 x)))=H5 at s7 hbp ⊢;have s8:=s6.trans s7
   have la5:SqL K H5 la xs:=by
    have h1:SqL K (upd H γ.sd (.frz o (.dT (kz ks)))) la xs:=SqL.noL (λys z=>by rw[h3]at z;cases z) (λob ys z=>by rw[h3]at z;cases z) ql;exact(sm.trans s8).seq h1
   have ids5:IsDs K H5 (es.map dE) xs:=(YK (XO h3) (λys z=>by rw[h3]at z;cases z) (λob ys z=>by rw[h3]at z;cases z) (es.map dE) xs ids).same (sm.trans s8);refine⟨_,rfl,.inl ⟨rfl,_,.of (s8 _ _ hfl')⟩,_,rfl,_,rfl,C9 ⟨_,rfl,la,rfl,⟨_,la5⟩,?_⟩⟩;refine mU (K:=K) (xs:=xs) ((es.map (ev (bk ns kw.1))).map D.int) la5 (by rw[jA,jA];omega) 'c' (Xd _) (λj x d H6 R hx hd s9 hR=>?_) (λl H6 s9 dl=>?_)
   . have hj:j < es.length:=by have:=(jF.mp hx).1;omega
     obtain⟨y,ey,dy⟩:=ids5.get (i:=j) (d:=dE es[j]) (by rw[jD,jB hj];rfl);obtain rfl:x=y:=by rw[hx]at ey;exact Option.some.inj ey
     rw[jD,jD,jB hj]at hd
     cases hd
     obtain⟨o1,o2,o3⟩:=(eo _ (jX hj)).1;refine⟨_,rfl,_,rfl,es[j],x,bp,_,bk ns kw.1,rfl,o1,(X0 _).mpr λn hn=>?_,o2,dy.same s9,s9 _ _ hbp,λH7 s10=>hR _ _ s10 rfl⟩;have hw':n∈unS [] (wn es):=pZ.mpr (.inr (List.mem_flatMap.mpr ⟨_,jX hj,(XM _).mpr hn⟩));rw[pY,qh hw']
   . obtain⟨l',zs,e,ql',dd⟩:=dl
     cases e
     rw[QX dd]at ql';refine⟨l,_,rfl,.inl ⟨ql',λu nu=>?_⟩⟩;have s11:=J6 nu (.tup ((es.map (ev (bk ns kw.1))).map V.int));refine⟨by show 3<=sizeLine;decide,λr nr=>?_⟩;have s12:=J6 nr (.tup [.ref t,kw.2,.ref u]);have s13:=s8.trans (s9.trans (s11.trans s12));have hfl2:=s13 _ _ hfl';have row:VRow K ns es (upd (upd H6 u (.tup ((es.map (ev (bk ns kw.1))).map V.int))) r (.tup [.ref t,kw.2,.ref u])) (kw.1,q0) (.ref r):=⟨r,t,u,kw.2,rfl,J1,s13 _ _ ht,dq'.same s13,s12 _ _ J1⟩;have yl:=pr.length;rw[jW]at yl;refine⟨fl,_,_,rfl,rfl,hfl2,by omega,?_⟩;generalize upd (upd H6 u _) r _=H8 at s13 hfl2 row ⊢;refine⟨XY (by rw[xZ nfl];exact ff0) (sm.trans s13),by rw[xZ fpl];exact s13 _ _ hpl',by rw[xZ fwl];exact s13 _ _ hwl',_,_,_,_,rfl,J1,?_⟩;have tk:acc.take (i+1)=acc.take i++[(kw.1,q0)]:=by rw[kj,eacc];rfl
     rw[tk];exact b8 (Paired.mapP pr λa y h=>(h.same s13).no (rL hfl2)) (row.no (rL hfl2))
 . rintro σ H' ⟨sm,hpl',hwl',c6,c7,c8,ys,rfl,hfl',pr⟩;rw[show(kz ks).length=acc.length by rw[jA,kl],jr]at pr;have hz:=sm _ _ J1;refine⟨o,hz,?_⟩
   have sF:Same H (upd H' γ.sd (.dT (kz ks))):=λb u hb=>by
    by_cases z:b=γ.sd
    . rw[z,J1];rw[z,h3]at hb;exact hb
    . rw[xZ z];exact sm b u (by rw[xZ z];exact hb)
   exact⟨_,rfl,q fl _ ys sF ff0 (by rw[xZ nfl];exact hfl') (Paired.mapP pr λa y h=>h.no (rM hz))⟩
def gaR(acc l:List (xr×Rat)):List (xr×Rat):=l.foldl (λa p=>Js a p.1 p.2) acc
def Cb{acc l:List (xr×Rat)}{i:Nat}{p:xr×Rat}(h:l[i]?=some p):gaR acc (l.take (i+1))=Js (gaR acc (l.take i)) p.1 p.2:=by
 unfold gaR;rw[kj,h,kQ];rfl
def Cc{β:Type}(acc:List (xr×β))(k:xr)(x:β):acc.length<=(JT acc k x).length:=by
 unfold JT;split
 . rw[jA];exact jE _
 . rw[jU];omega
theorem rO:∀(l acc:List (xr×Rat)),acc.length<=(gaR acc l).length
 | [],acc=>jE _
 |p::l,acc=>jg (Cc acc p.1 _) (rO l (Js acc p.1 p.2))
def Cd(acc l m:List (xr×Rat)):gaR acc (l++m)=gaR (gaR acc l) m:=kQ ..
def Ce(acc l:List (xr×Rat))(i:Nat):(gaR acc (l.take i)).length<=(gaR acc l).length:=by
 conv=>rhs;rw[<- kI i l,Cd]
 exact rO _ _
theorem Za:∀(l acc:List (xr×Rat)),(gaR acc l).length<=acc.length+l.length
 | [],acc=>jE _
 |p::l,acc=>by
  have h1:=Za l (Js acc p.1 p.2);have h2:(Js acc p.1 p.2).length<=acc.length+1:=rf acc p.1 _;rw[jV];show(gaR (Js acc p.1 p.2) l).length<=_;omega
structure AddOk (M:Int) (acc l:List (xr×Rat)):Prop where
 z1:∀p∈l,sz p.2
 z2:∀i,∀g∈gaR acc (l.take i),sz g.2
 few:acc.length+l.length<=900
 fit:((gaR acc l).length:Int)<=M
def rP{γ:SAd}{m:Int}{ns:xp}{acc l:List (xr×Rat)}{i:Nat}{v:xr}{q:Rat}{sv:V}{Q:VK}{E:XK}(ok:AddOk m acc l)(e:l[i]?=some (v,q))(sa:SAt K CS H γ m ns (gaR acc (l.take i)))(ht:H t=some (.tup (v.map V.int)))(dq:IsD K H (dF q) sv)
 (k:∀H',SmA γ.sd H H'->SAt K CS H' γ m ns (gaR acc (l.take (i+1)))->Q .non H'):Z8 K CS [.ref γ.g,.ref t,sv] H Q E:=by
 have h1:=Za (l.take i) acc;have hi:=(jF.mp e).1;rw[jW]at h1;have few:=ok.few;have e2:=Cb (acc:=acc) e;have ft:=Ce acc l (i+1);have fit:=ok.fit;rw[e2]at k ft;exact⟨γ,m,ns,_,t,v,sv,q,rfl,sa,ht,dq,ok.z1 _ (jZ e),ok.z2 i,by omega,by dsimp only at ft;omega,λH' s1 s2=>k H' s1 s2⟩
def SmA.sq(n:NoT H a)(s:SmA a H H')(h:SqT K H b xs):SqT K H' b xs:=by
 rcases h with (h|⟨o,h⟩)|h
 . exact .inl (.inl (s _ _ (λz=>n.1 xs (by rw[<- z];exact h)) h))
 . exact .inl (.inr ⟨o,s _ _ (λz=>n.2 o xs (by rw[<- z];exact h)) h⟩)
 . exact .inr h
theorem SmA.dF(n:NoT H a)(s:SmA a H H')(h:IsD K H (dF r) v):IsD K H' (Fd.dF r) v:=by
 obtain⟨p,rfl,q⟩:=JS h;exact⟨p,_,rfl,SmA.sq n s q,_,_,rfl,rfl,_,_,rfl,rfl,rfl⟩
def SAt.no(n:NoT H a)(g:γ.g≠a)(s:γ.sd≠a)(h:SAt K CS H γ m ns acc):SAt K CS (upd H a u) γ m ns acc:=by
 obtain⟨h1,h2,ks,h3,h4⟩:=h;exact⟨by rw[xZ g];exact h1,n.tz h2,ks,by rw[xZ s];exact h3,h4.mono λr v d=>n.dF d⟩
def cK(f:H a=none)(s:Same H H1)(s':SmA a H1 H2):Same H H2:=λb u h=>s' b u (Jp h f) (s b u h)
def Cf(s:Same H H')(e:H a=some u):Same (upd H a f) (upd H' a f):=λb o h=>by
 by_cases z:b=a
 . rw[z,J1]at h ⊢;exact h
 . rw[xZ z]at h ⊢;exact s b o h
def Cg(s:Same (upd H a f) H')(e:H a=some u):Same H (upd H' a u):=λb o h=>by
 by_cases z:b=a
 . rw[z,J1];rw[z,e]at h;exact h
 . rw[xZ z];exact s b o (by rw[xZ z];exact h)
inductive Wr where
 |draw (x:Str) (os:List (Int×Rat))|lett (x:Str) (e:Ex)|seen (e:Ex)|ifr (e:Ex) (a b:List Wr)|rnd (k:Nat) (a:List Wr)|call (x f:Str) (es:List Ex)
def dOs(os:List (Int×Rat)):List D:=os.map λo => .tup [.int o.1,dF o.2]
mutual
def dW:Wr->D
 |.draw x os => .tup [.str "draw",.str x,.lst (dOs os)]
 |.lett x e => .tup [.str "let",.str x,dE e]
 |.seen e => .tup [.str "seen",dE e]
 |.ifr e a b => .tup [.str "if",dE e,.lst (dWs a),.lst (dWs b)]
 |.rnd k a => .tup [.str "rounds",.int (k:Nat),.lst (dWs a)]
 |.call x f es => .tup [.str "call",.str x,.str f,.lst (es.map dE)]
def dWs:List Wr->List D
 | []=>[]
 |r::l=>dW r::dWs l
end
structure SL where
 ns:xp
 w:List (xr×Rat)
def drO(ns:xp)(x:Str)(os:List (Int×Rat))(p:xr×Rat):List (xr×Rat):=os.map λo=>(repl p.1 (ns.idxOf x) o.1,p.2*o.2)
def Jk(ns:xp)(w:List (xr×Rat))(x:Str)(os:List (Int×Rat)):List (xr×Rat):=w.flatMap (drO ns x os)
def JX(ns:xp)(w:List (xr×Rat))(x:Str)(e:Ex):List (xr×Rat):=w.map λp=>(repl p.1 (ns.idxOf x) (ev (bk ns p.1) e),p.2)
def Qa(ns:xp)(w:List (xr×Rat))(e:Ex):List (xr×Rat):=w.filter λp=>decide (ev (bk ns p.1) e≠0)
structure SOk (S:SL):Prop where
 len:∀p∈S.w,p.1.length=S.ns.length
 few:S.w.length<=900
 nms:S.ns.length<=60
 z:∀p∈S.w,sz p.2
def gO{γ:SAd}{m:Int}{ns:xp}{acc l l1 l2:List (xr×Rat)}{v:xr}{q:Rat}{sv:V}{Q:VK}{E:XK}(ok:AddOk m acc l)(e:l=l1++(v,q)::l2)(sa:SAt K CS H γ m ns (gaR acc l1))(ht:H t=some (.tup (v.map V.int)))(dq:IsD K H (dF q) sv)
 (k:∀H',SmA γ.sd H H'->SAt K CS H' γ m ns (gaR acc (l1++[(v,q)]))->Q .non H'):Z8 K CS [.ref γ.g,.ref t,sv] H Q E:=by
 subst e;have e1:(l1++(v,q)::l2).take l1.length=l1:=by rw[List.take_append_of_le_length (jE _),jr]
 have e2:(l1++(v,q)::l2)[l1.length]?=some (v,q):=by rw[j3 (jE _),Nat.sub_self];rfl
 have e3:(l1++(v,q)::l2).take (l1.length+1)=l1++[(v,q)]:=by rw[kj,e1,e2];rfl
 refine rP ok e2 (by rw[e1];exact sa) ht dq λH' s1 s2=>k H' s1 (by rw[e3]at s2;exact s2)
def fW(pd rd:xS)(m:Int):List (Str×V):=[("parts",.ref pd),("most",.int m),("results",.ref rd)]
def WkAt(CW:xS)(H:Hp)(wa:xS)(m:Int):Prop:=∃dx pd rd,H wa=some (.ins CW dx (fW pd rd m))
def WkAt.same(h:WkAt CW H wa m)(s:Same H H'):WkAt CW H' wa m:=by
 obtain⟨dx,pd,rd,h⟩:=h;exact⟨dx,pd,rd,s _ _ h⟩
def gP(pd rd:xS)(m:Int):(fW pd rd m).lookup ("most" : Str)=some (.int m):=rfl
def ZO(K:xh)(CS CW:xS)(C:Wr->Int->SL->SL->Prop):Sp:=λvs H Q _=>∃(wa:xS) (m:Int) (x:V) (r:Wr) (γ:SAd) (S T:SL),vs=[.ref wa,x,.ref γ.g]/\WkAt CW H wa m/\IsD K H (dW r) x/\SAt K CS H γ m S.ns S.w/\SOk S/\C r m S T/\∀(δ:SAd) (H':Hp),Same H H'->SAt K CS H' δ m T.ns T.w->Q (.ref δ.g) H'
def rQ(r:Wr)(m:Int)(S T:SL):Prop:=∃x os,r=.draw x os/\os.length<=100/\(∀o∈os,sz o.2)/\AddOk m [] (Jk S.ns S.w x os)/\T=⟨repl S.ns (S.ns.idxOf x) x,gaR [] (Jk S.ns S.w x os)⟩
def JG{x:V}{l:List V}:atI (x::l) 0=some x:=Qe (j:=0) rfl
def Q4{x y:V}{l:List V}:atI (x::y::l) 1=some y:=Qe (j:=1) rfl
def Zb{x y z:V}{l:List V}:atI (x::y::z::l) 2=some z:=Qe (j:=2) rfl
def cL(ns:xp)(x:Str):ns.idxOf x<=ns.length:=by
 by_cases h:x∈ns
 . exact kG (jx.mpr h)
 . rw[List.idxOf_eq_length h];exact jE _
def cM{α β:Type}(f:α->β)(l:List α)(i:Nat)(x:α):(repl l i x).map f=repl (l.map f) i (f x):=by unfold repl;rw[jh,jh,List.map_take,List.map_drop];rfl
def cN{sp:Sp}{dv:List V}{E:XK}{t:TA}{g:TG}{u:TS}{D:Ends}(h:Zo C sp dv E t σ H λx H1=>g x σ H1 (u D)):QS (QH (Zo C sp dv E t) g) u D σ H:=h
def cO(h1:∀R:VK,(∀p H1,Same H H1->TupZ H1 p (ns.map V.str)->R (.ref p) H1)->tg σ H R)(h2:∀(H1:Hp) (R:VK),Same H H1->R (.int m) H1->tm σ H1 R)
 (k:∀(γ:SAd) (H':Hp),Same H H'->H γ.g=none->H γ.sd=none->SAt K CS H' γ m ns []->Q (.ref γ.g) H'):Zo CS (Z9 K CS) [] E (JF tg (JF tm JA)) σ H Q :=
 h1 _ λp H1 s1 z=>h2 H1 _ s1 (BZ (Q:=Q) z λγ H' _ s2 fg fsd sa=>k γ H' (s1.trans s2) (gL s1 fg) (gL s1 fsd) sa)
def Ch(B:Bl mg)(xG:Cls K CS)(JC:Cls K CW)(n2:NoAttr K CS "shares")(n3:NoAttr K CS "names")(w2:NoAttr K CW "most")(QP:NewC P w K mg base "StateList" CS 2 ["self", "names", "most"] (Z9 K CS))(gQ:DefM P w K mg base CS "place_for" 1 ["self", "name"] (gK K CS))(Zc:DefM P w K mg base CS "add" 4 ["self", "numbers", "share"] (Z8 K CS))(XQ:Def P w K mg base "replaced" 1 ["some", "place", "one"] (gJ K))(gR:Def P w K mg base "times" 3 ["one", "other"] (re K))
 (F:MFn K CW "walk_draw" "Walk.walk_draw" bW ["self", "row", "ahead"]):DefM P w K mg base CW "walk_draw" 5 ["self", "row", "ahead"] (ZO K CS CW rQ):=by
 refine F.ok3 Z4 (λvs H Q E h=>?_) (λf xu A outer s H vs Q E hr h=>?_)
 . obtain⟨wa,m,x,r,γ,S,T,rfl,_⟩:=h;rfl
 obtain⟨wa,m,y,r,γ,S,T,rfl,wk,dy,sa,so,⟨x,os,rfl,l6,zo,ok,rfl⟩,q⟩:=h
 refine⟨_,(@J0 _ _ _ _ _ (Ja (i:=3) Z4.nd rfl 'a' (Qm gQ xG hr JN (pv 2) (xW (J4 (J3 K rfl) (pv 1) xX (λ_ _=>rfl)) xY)))
  (@J0 _ _ _ _ _ (Ja (i:=4) Z4.nd rfl 'a' (Yp QP hr rfl JN (xW (J9 XQ hr rfl (xW (Q0 (pv 2) rfl) (xW (pv 3) (xW (J4 (J3 K rfl) (pv 1) xX (λ_ _=>rfl)) xY)))) (xW (Q0 (pv 0) rfl) xY))))
  (@J0 _ _ _ _ _ (oO (Z2 (oN (Q0 (pv 2) rfl)) (Xb rfl (JZ (Ju (i:=5) Z4.nd rfl 'a') (JZ (Ju (i:=6) Z4.nd rfl 'a') Xa))) (@J2 _ _ _ (Z2 (Qj (J4 (J3 K rfl) (pv 1) xX (λ_ _=>rfl))) (Xb rfl (JZ (Ju (i:=7) Z4.nd rfl 'a') (JZ (Ju (i:=8) Z4.nd rfl 'a') Xa))) (@J2 _ _ _ (Qi (Qm Zc xG hr JN (pv 4) (xW (J9 XQ hr rfl (xW (pv 5) (xW (pv 3) (xW (pv 7) xY)))) (xW (J9 gR hr rfl (xW (pv 6) (xW (pv 8) xY))) xY)))))))))
  (@J2 _ _ _ (J7 (pv 4)))))),?_⟩
 have big:(10000:Nat)<sizeLine:=by decide
 obtain⟨wdx,pd,rd,hwa⟩:=wk;obtain⟨tr,ys,rfl,qr,_,_,rfl,rfl,_,_,rfl,rfl,_,_,rfl,⟨ol,zs,rfl,qo,dso⟩,rfl⟩:=dy;have zl:=dso.length;unfold dOs at zl;rw[jA]at zl;have nm60:=so.nms;have ix:=cL S.ns x;refine⟨_,rfl,γ.g,γ.dx,_,rfl,sa.ins,rfl,_,rfl,.inr (.inl ⟨tr,_,1,.str x,rfl,rfl,qr,Q4,γ,m,S.ns,S.w,x,rfl,sa,?_⟩)⟩;dsimp only[Jh,List.set,L2.JD];refine cN (cO (ns:=repl S.ns (S.ns.idxOf x) x) (m:=m) (λR hR=>?_) (λH1 R s1 hR=>⟨_,rfl,wa,CW,wdx,_,_,rfl,s1 _ _ hwa,JC,w2,gP pd rd m,hR⟩) λδ H2 s12 fg0 fsd0 sd=>?_)
 . exact⟨_,rfl,γ.g,CS,γ.dx,_,_,rfl,sa.ins,xG,n3,Xj γ m,_,rfl,_,rfl,.inr (.inl ⟨tr,_,1,.str x,rfl,rfl,qr,Q4,γ.nt,S.ns.idxOf x,.str x,S.ns.map V.str,rfl,by rw[jA];exact ix,by rw[jA];omega,.inl ⟨sa.nm,λp1 H1 s1 z1=>hR p1 H1 s1 (by rw[cM];exact z1)⟩⟩)⟩
 obtain⟨ks,h3,ac⟩:=sa.dct;have kl:=ac.length;have n1:δ.g≠γ.sd:=(Jp h3 fg0).symm;have n4:δ.sd≠γ.sd:=(Jp h3 fsd0).symm;dsimp only[Jh,List.set];refine⟨γ.sd,kz ks,s12 _ _ h3,?_⟩;refine⟨_,rfl,γ.g,CS,γ.dx,_,_,rfl,s12 _ _ sa.ins,xG,n2,Z7 γ m,γ.sd,kz ks,rfl,s12 _ _ h3,λo=>?_⟩;have nl1:∀ys,H γ.sd≠some (.lst ys):=λys z=>by rw[h3]at z;cases z
 have nl2:∀ob ys,H γ.sd≠some (.frz ob (.lst ys)):=λob ys z=>by rw[h3]at z;cases z
 have qr':SqT K (upd H γ.sd (.frz o (.dT (kz ks)))) tr _:=(XO h3).sq qr;have qo':SqL K (upd H γ.sd (.frz o (.dT (kz ks)))) ol zs:=SqL.noL nl1 nl2 qo;have do':IsDs K (upd H γ.sd (.frz o (.dT (kz ks)))) (dOs os) zs:=YK (XO h3) nl1 nl2 _ _ dso;have ac':Acc K (upd H γ.sd (.frz o (.dT (kz ks)))) S.w ks:=ac.mono λr v d=>(XO h3).dF d;have fF:(upd H γ.sd (.frz o (.dT (kz ks)))) δ.sd=none:=by rw[xZ n4];exact fsd0
 have eF:(upd H γ.sd (.frz o (.dT (kz ks)))) γ.sd=some (.frz o (.dT (kz ks))):=J1;have sF:Same (upd H γ.sd (.frz o (.dT (kz ks)))) (upd H2 γ.sd (.frz o (.dT (kz ks)))):=Cf s12 h3;have sdF:SAt K CS (upd H2 γ.sd (.frz o (.dT (kz ks)))) δ m (repl S.ns (S.ns.idxOf x) x) []:=sd.no (XO (s12 _ _ h3)) n1 n4;have back:∀{H':Hp},Same (upd H γ.sd (.frz o (.dT (kz ks)))) H'->Same H (upd H' γ.sd (.dT (kz ks))):=λs=>Cg s h3;generalize upd H γ.sd (.frz o (.dT (kz ks)))=Hf at qr' qo' do' ac' fF eF sF back ⊢;generalize upd H2 γ.sd (.frz o (.dT (kz ks)))=Hg at sF sdF ⊢
 refine oP (kvs:=kz ks) (λi σ H'=>Same Hf H'/\∃(c5 c6 c7 c8:Option V),σ=[some (.ref wa),some (.ref tr),some (.ref γ.g),some (.int (S.ns.idxOf x:Nat)),some (.ref δ.g),c5,c6,c7,c8]/\SAt K CS H' δ m (repl S.ns (S.ns.idxOf x) x) (gaR [] (Jk S.ns (S.w.take i) x os)))
  ⟨sF,none,none,none,none,rfl,sdF⟩ (λi σ H' _ h=>h.1 _ _ eF) ?_ ?_
 . rintro i kv p t σ H' hkv ⟨sm,c5,c6,c7,c8,rfl,sg⟩ np ht;obtain⟨kw,hkw,rfl⟩:=rN hkv;obtain⟨q0,eacc,dq⟩:=ac'.at hkw;have hi:=(jF.mp eacc).1;have hm:=jZ eacc;have vlen:=so.len _ hm;have zq:=so.z _ hm;dsimp only at vlen zq;rw[Xy]at ht;refine⟨p,_,rfl,.of J1,rfl,_,_,rfl,_,_,rfl,rfl,?_⟩;have s4:=J6 np (.tup [.ref t,kw.2]);have sm4:=sm.trans s4
   have tk:Jk S.ns (S.w.take (i+1)) x os=Jk S.ns (S.w.take i) x os++drO S.ns x os (kw.1,q0):=by
    unfold Jk;rw[kj,eacc,List.flatMap_append];simp
   have whole:Jk S.ns S.w x os=Jk S.ns (S.w.take i) x os++(drO S.ns x os (kw.1,q0)++Jk S.ns (S.w.drop (i+1)) x os):=by
    have:Jk S.ns S.w x os=Jk S.ns (S.w.take (i+1)) x os++Jk S.ns (S.w.drop (i+1)) x os:=by
     unfold Jk;rw[<- List.flatMap_append,kI]
    rw[this,tk,jz]
   refine⟨_,rfl,.inr (.inl ⟨tr,_,2,.ref ol,rfl,rfl,sm4.tupq qr',Zb,ol,rfl,⟨_,sm4.seq qo'⟩,?_⟩)⟩
   refine X1 (K:=K) (xs:=zs) (λj σ H5=>Same Hf H5/\H5 t=some (.tup (kw.1.map V.int))/\IsD K H5 (dF q0) kw.2/\∃(c7 c8:Option V),σ=[some (.ref wa),some (.ref tr),some (.ref γ.g),some (.int (S.ns.idxOf x:Nat)),some (.ref δ.g),some (.ref t),some kw.2,c7,c8]/\SAt K CS H5 δ m (repl S.ns (S.ns.idxOf x) x) (gaR [] (Jk S.ns (S.w.take i) x os++(drO S.ns x os (kw.1,q0)).take j)))
    ⟨sm4,s4 _ _ ht,dq.same sm4,_,_,rfl,by rw[List.take_zero,jk];exact sg.same s4⟩ (λj σ H5 _ h=>h.1.seq qo') ?_ ?_
   . rintro j z σ H5 hz ⟨sm5,ht5,dq5,c7,c8,rfl,sg5⟩;have hj:j < os.length:=by have:=(jF.mp hz).1;omega
     obtain⟨z',ez,dz⟩:=do'.get (i:=j) (d := .tup [.int os[j].1,dF os[j].2]) (by unfold dOs;rw[jD,jB hj];rfl);obtain rfl:z=z':=by rw[hz]at ez;exact Option.some.inj ez
     obtain⟨c,zz,rfl,qc,_,_,rfl,rfl,v2,_,rfl,d2,rfl⟩:=dz;refine⟨c,_,rfl,sm5.tupq qc,rfl,_,_,rfl,_,_,rfl,rfl,?_⟩;refine⟨_,rfl,δ.g,δ.dx,_,rfl,sg5.ins,rfl,_,rfl,_,rfl,_,rfl,t,S.ns.idxOf x,.int os[j].1,kw.1.map V.int,rfl,by rw[jA];omega,by rw[jA];omega,.inr ⟨ht5,λp6 H6 s6 e6=>?_⟩⟩;rw[<- cM]at e6;refine⟨_,rfl,_,rfl,kw.2,v2,q0,os[j].2,rfl,dq5.same s6,(d2.same sm5).same s6,zq,zo _ (jX hj),λp7 H7 s7 _ d7=>?_⟩;dsimp only[JA,jk]
     have item:drO S.ns x os (kw.1,q0)=(drO S.ns x os (kw.1,q0)).take j++(repl kw.1 (S.ns.idxOf x) os[j].1,q0*os[j].2)::(drO S.ns x os (kw.1,q0)).drop (j+1):=by
      have hj':j<(drO S.ns x os (kw.1,q0)).length:=by unfold drO;rw[jA];exact hj
      have eg:(drO S.ns x os (kw.1,q0))[j]=(repl kw.1 (S.ns.idxOf x) os[j].1,q0*os[j].2):=(jF.mp (show(drO S.ns x os (kw.1,q0))[j]?=some (repl kw.1 (S.ns.idxOf x) os[j].1,q0*os[j].2) by unfold drO;rw[jD,jB hj];rfl)).2;rw[<- eg,<- kW hj',kI]
     have tj:(drO S.ns x os (kw.1,q0)).take (j+1)=(drO S.ns x os (kw.1,q0)).take j++[(repl kw.1 (S.ns.idxOf x) os[j].1,q0*os[j].2)]:=by
      rw[kj];have:(drO S.ns x os (kw.1,q0))[j]?=some (repl kw.1 (S.ns.idxOf x) os[j].1,q0*os[j].2):=by unfold drO;rw[jD,jB hj];rfl
      rw[this];rfl
     have s67:=s6.trans s7
     have spl:Jk S.ns S.w x os=(Jk S.ns (S.w.take i) x os++(drO S.ns x os (kw.1,q0)).take j)++(repl kw.1 (S.ns.idxOf x) os[j].1,q0*os[j].2)::((drO S.ns x os (kw.1,q0)).drop (j+1)++Jk S.ns (S.w.drop (i+1)) x os):=by
      rw[whole,jz,<- kL,<- jz ((drO S.ns x os (kw.1,q0)).take j),<- item]
     refine gO ok spl (sg5.same s67) (s7 _ _ e6) d7 λH8 s8 sg8=>?_
     have nt:NoT H7 δ.sd:=by
      obtain⟨kd,hd,_⟩:=(sg5.same s67).dct;exact XO hd
     have ntt:t≠δ.sd:=λz=>nt.1 _ (by rw[<- z];exact s67 _ _ ht5);refine⟨cK fF (sm5.trans s67) s8,s8 _ _ ntt (s67 _ _ ht5),s8.dF nt (dq5.same s67),_,_,rfl,?_⟩;rw[jz,<- tj]at sg8;exact sg8
   . rintro σ H5 ⟨sm5,ht5,dq5,c7,c8,rfl,sg5⟩;have e:(drO S.ns x os (kw.1,q0)).take zs.length=drO S.ns x os (kw.1,q0):=j4 (by unfold drO;rw[jA];omega);rw[e,<- tk]at sg5;exact⟨sm5,_,_,_,_,rfl,sg5⟩
 . rintro σ H' ⟨sm,c5,c6,c7,c8,rfl,sg⟩;rw[show(kz ks).length=S.w.length by rw[jA,kl],jr]at sg;have hz:=sm _ _ eF;exact⟨o,hz,_,rfl,q δ _ (back sm) (sg.no (rM hz) n1 n4)⟩
def rR(r:Wr)(m:Int)(S T:SL):Prop:=∃x e,r=.lett x e/\X6 e/\(∀n∈e.nms,n∈S.ns)/\AddOk m [] (JX S.ns S.w x e)/\T=⟨repl S.ns (S.ns.idxOf x) x,gaR [] (JX S.ns S.w x e)⟩
def aR{α β:Type}{F:α->β->Prop}{l:List α}{m:List β}(h:Paired F l m){i:Nat}{y:β}(e:m[i]?=some y):∃x,l[i]?=some x/\F x y:=by
 induction h generalizing i with
 |nil=>simp at e
 |cons r _ ih =>
  cases i with
  |zero=>cases e;exact⟨_,rfl,r⟩
  |succ i=>exact ih (by simpa using e)
def VRow.sm(n:NoT H a)(s:SmA a H H')(h:VRow K ns es H p y):VRow K ns es H' p y:=by
 obtain⟨r,t,u,sv,h1,h2,h3,h4,h5⟩:=h;have go:∀{b:xS}{xs:List V},H b=some (.tup xs)->H' b=some (.tup xs):=fun {b xs} e=>s _ _ (λz=>n.1 xs (by rw[<- z];exact e)) e;exact⟨r,t,u,sv,h1,go h2,go h3,s.dF n h4,go h5⟩
def SAt.noT(h:SAt K CS H γ m ns acc):NoT H γ.sd:=by
 obtain⟨ks,e,_⟩:=h.dct;exact XO e
def Ci(B:Bl mg)(xG:Cls K CS)(JC:Cls K CW)(n3:NoAttr K CS "names")(w2:NoAttr K CW "most")(QP:NewC P w K mg base "StateList" CS 2 ["self", "names", "most"] (Z9 K CS))(gQ:DefM P w K mg base CS "place_for" 1 ["self", "name"] (gK K CS))(Zc:DefM P w K mg base CS "add" 4 ["self", "numbers", "share"] (Z8 K CS))(gS:DefM P w K mg base CS "valued" 13 ["self", "es"] (gM K CS))(XQ:Def P w K mg base "replaced" 1 ["some", "place", "one"] (gJ K))
 (F:MFn K CW "walk_let" "Walk.walk_let" bX ["self", "row", "ahead"]):DefM P w K mg base CW "walk_let" 14 ["self", "row", "ahead"] (ZO K CS CW rR):=by
 refine F.ok3 ZH (λvs H Q E h=>?_) (λf xu A outer s H vs Q E hr h=>?_)
 . obtain⟨wa,m,x,r,γ,S,T,rfl,_⟩:=h;rfl
 obtain⟨wa,m,y,r,γ,S,T,rfl,wk,dy,sa,so,⟨x,e,rfl,eo,en,ok,rfl⟩,q⟩:=h
 refine⟨_,(@J0 _ _ _ _ _ (Ja (i:=3) ZH.nd rfl 'a' (Qm gQ xG hr JN (pv 2) (xW (J4 (J3 K rfl) (pv 1) xX (λ_ _=>rfl)) xY)))
  (@J0 _ _ _ _ _ (Ja (i:=4) ZH.nd rfl 'a' (Yp QP hr rfl JN (xW (J9 XQ hr rfl (xW (Q0 (pv 2) rfl) (xW (pv 3) (xW (J4 (J3 K rfl) (pv 1) xX (λ_ _=>rfl)) xY)))) (xW (Q0 (pv 0) rfl) xY))))
  (@J0 _ _ _ _ _ (Z2 (Qj (Qm gS xG hr JN (pv 2) (xW (QB (xW (J4 (J3 K rfl) (pv 1) xX (λ_ _=>rfl)) xY)) xY))) (Xb rfl (JZ (Ju (i:=5) ZH.nd rfl 'a') (JZ (Ju (i:=6) ZH.nd rfl 'a') (JZ (Ju (i:=7) ZH.nd rfl 'a') Xa)))) (@J2 _ _ _ (Qi (Qm Zc xG hr JN (pv 4) (xW (J9 XQ hr rfl (xW (pv 5) (xW (pv 3) (xW (J4 (J3 K rfl) (pv 7) xX (λ_ _=>rfl)) xY)))) (xW (pv 6) xY))))))
  (@J2 _ _ _ (J7 (pv 4)))))),?_⟩
 have big:(10000:Nat)<sizeLine:=by decide
 obtain⟨wdx,pd,rd,hwa⟩:=wk;obtain⟨tr,ys,rfl,qr,_,_,rfl,rfl,_,_,rfl,rfl,ye,_,rfl,de,rfl⟩:=dy;have nm60:=so.nms;have ix:=cL S.ns x;refine⟨_,rfl,γ.g,γ.dx,_,rfl,sa.ins,rfl,_,rfl,.inr (.inl ⟨tr,_,1,.str x,rfl,rfl,qr,Q4,γ,m,S.ns,S.w,x,rfl,sa,?_⟩)⟩;dsimp only[Jh,List.set,L2.JD];refine cN (cO (ns:=repl S.ns (S.ns.idxOf x) x) (m:=m) (λR hR=>?_) (λH1 R s1 hR=>⟨_,rfl,wa,CW,wdx,_,_,rfl,s1 _ _ hwa,JC,w2,gP pd rd m,hR⟩) λδ H2 s12 fg0 fsd0 sd=>?_)
 . exact⟨_,rfl,γ.g,CS,γ.dx,_,_,rfl,sa.ins,xG,n3,Xj γ m,_,rfl,_,rfl,.inr (.inl ⟨tr,_,1,.str x,rfl,rfl,qr,Q4,γ.nt,S.ns.idxOf x,.str x,S.ns.map V.str,rfl,by rw[jA];exact ix,by rw[jA];omega,.inl ⟨sa.nm,λp1 H1 s1 z1=>hR p1 H1 s1 (by rw[cM];exact z1)⟩⟩)⟩
 dsimp only[Jh,List.set];have sa2:=sa.same s12;refine⟨_,rfl,γ.g,γ.dx,_,rfl,sa2.ins,rfl,_,rfl,.inr (.inl ⟨tr,_,2,ye,rfl,rfl,s12.tupq qr,Zb,by show 1<=sizeLine;decide,λel nel=>?_⟩)⟩;have s3:=J6 nel (.lst [ye]);refine⟨γ,m,S.ns,S.w,el,[ye],[e],rfl,sa2.same s3,.of J1,⟨ye,[],rfl,de.same (s12.trans s3),rfl⟩,by show 1<=8;decide,λe' he=>?_,so.len,so.few,λvl H4 yv s4 nvl hvl pr=>?_⟩
 . rw[jP.mp he];exact⟨eo,en⟩
 have s04:=s12.trans (s3.trans s4)
 have fsd4:δ.sd≠vl:=by
  obtain⟨kd,hd,_⟩:=(sd.same s3).dct;exact Jp hd nvl
 have yl:=pr.length
 refine⟨vl,rfl,⟨_,.of hvl⟩,X1 (K:=K) (xs:=yv) (λi σ H'=>SmA δ.sd H4 H'/\∃(c5 c6 c7:Option V),σ=[some (.ref wa),some (.ref tr),some (.ref γ.g),some (.int (S.ns.idxOf x:Nat)),some (.ref δ.g),c5,c6,c7]/\SAt K CS H' δ m (repl S.ns (S.ns.idxOf x) x) (gaR [] ((JX S.ns S.w x e).take i)))
  ⟨.of (Same.refl _),none,none,none,rfl,sd.same (s3.trans s4)⟩ (λi σ H' _ h => .of (h.1 _ _ fsd4.symm hvl)) ?_ ?_⟩
 . rintro i z σ H' hz ⟨sm,c5,c6,c7,rfl,sg⟩;obtain⟨p,ep,vr⟩:=aR pr hz;have nT:NoT H4 δ.sd:=(sd.same (s3.trans s4)).noT;obtain⟨rr,t,u,sv,rfl,h1,h2,h3,h4⟩:=vr.sm nT sm;have vlen:=so.len _ (jZ ep);refine⟨rr,_,rfl,.of h1,rfl,_,_,rfl,_,_,rfl,_,_,rfl,rfl,?_⟩;refine⟨_,rfl,δ.g,δ.dx,_,rfl,sg.ins,rfl,_,rfl,_,rfl,_,rfl,.inr (.inl ⟨u,_,0,.int (ev (bk S.ns p.1) e),rfl,rfl,.of h4,JG,t,S.ns.idxOf x,.int (ev (bk S.ns p.1) e),p.1.map V.int,rfl,by rw[jA];omega,by rw[jA];omega,.inr ⟨h2,λp6 H6 s6 e6=>?_⟩⟩)⟩;rw[<- cM]at e6;refine⟨_,rfl,?_⟩;dsimp only[JA,jk];have el:(JX S.ns S.w x e)[i]? = some (repl p.1 (S.ns.idxOf x) (ev (bk S.ns p.1) e),p.2):=by unfold JX;rw[jD,ep];rfl
   refine rP ok el (sg.same s6) e6 (h3.same s6) λH7 s7 sg7=>?_;exact⟨sm.trans ((SmA.of s6).trans s7),_,_,_,rfl,sg7⟩
 . rintro σ H' ⟨sm,c5,c6,c7,rfl,sg⟩;have e2:(JX S.ns S.w x e).take yv.length=JX S.ns S.w x e:=j4 (by unfold JX;rw[jA];omega);rw[e2]at sg;exact⟨_,rfl,q δ H' (cK fsd0 s04 sm) sg⟩
def rS(r:Wr)(m:Int)(S T:SL):Prop:=∃e,r=.seen e/\X6 e/\(∀n∈e.nms,n∈S.ns)/\AddOk m [] (Qa S.ns S.w e)/\T=⟨S.ns,gaR [] (Qa S.ns S.w e)⟩
def Cj{α:Type}(f:α->Bool){l:List α}{i:Nat}{p:α}(h:l[i]?=some p):(l.take (i+1)).filter f=(l.take i).filter f++(if f p=true then [p] else [])/\l.filter f=(l.take i).filter f++((if f p=true then [p] else [])++(l.drop (i+1)).filter f):=by
 have e:(l.take (i+1)).filter f=(l.take i).filter f++(if f p=true then [p] else []):=by
  rw[kj,h,List.filter_append];congr 1
  cases z:f p<;>simp[z]
 refine⟨e,?_⟩;rw[<- jz,<- e,<- List.filter_append,kI]
def Ck(B:Bl mg)(xG:Cls K CS)(JC:Cls K CW)(n3:NoAttr K CS "names")(w2:NoAttr K CW "most")(QP:NewC P w K mg base "StateList" CS 2 ["self", "names", "most"] (Z9 K CS))(Zc:DefM P w K mg base CS "add" 4 ["self", "numbers", "share"] (Z8 K CS))(gS:DefM P w K mg base CS "valued" 13 ["self", "es"] (gM K CS))
 (F:MFn K CW "walk_seen" "Walk.walk_seen" bY ["self", "row", "ahead"]):DefM P w K mg base CW "walk_seen" 14 ["self", "row", "ahead"] (ZO K CS CW rS):=by
 refine F.ok3 YD (λvs H Q E h=>?_) (λf xu A outer s H vs Q E hr h=>?_)
 . obtain⟨wa,m,x,r,γ,S,T,rfl,_⟩:=h;rfl
 obtain⟨wa,m,y,r,γ,S,T,rfl,wk,dy,sa,so,⟨e,rfl,eo,en,ok,rfl⟩,q⟩:=h
 refine⟨_,(@J0 _ _ _ _ _ (Ja (i:=3) YD.nd rfl 'a' (Yp QP hr rfl JN (xW (Q0 (pv 2) rfl) (xW (Q0 (pv 0) rfl) xY))))
  (@J0 _ _ _ _ _ (Z2 (Qj (Qm gS xG hr JN (pv 2) (xW (QB (xW (J4 (J3 K rfl) (pv 1) xX (λ_ _=>rfl)) xY)) xY))) (Xb rfl (JZ (Ju (i:=4) YD.nd rfl 'a') (JZ (Ju (i:=5) YD.nd rfl 'a') (JZ (Ju (i:=6) YD.nd rfl 'a') Xa)))) (@J2 _ _ _ (Je (Jd (QE.or (Qk.or (QW.or (Ql K rfl hr.units)))) (J4 (J3 K rfl) (pv 6) xX (λ_ _=>rfl)) xX (J8 _)) (@J2 _ _ _ (Qi (Qm Zc xG hr JN (pv 3) (xW (pv 4) (xW (pv 5) xY))))) Jg)))
  (@J2 _ _ _ (J7 (pv 3))))),?_⟩
 obtain⟨wdx,pd,rd,hwa⟩:=wk;obtain⟨tr,ys,rfl,qr,_,_,rfl,rfl,ye,_,rfl,de,rfl⟩:=dy;refine cN (cO (ns:=S.ns) (m:=m) (λR hR=>⟨_,rfl,γ.g,CS,γ.dx,_,_,rfl,sa.ins,xG,n3,Xj γ m,hR γ.nt H (Same.refl _) sa.nm⟩) (λH1 R s1 hR=>⟨_,rfl,wa,CW,wdx,_,_,rfl,s1 _ _ hwa,JC,w2,gP pd rd m,hR⟩) λδ H2 s12 fg0 fsd0 sd=>?_);dsimp only[Jh,List.set,L2.JD];have sa2:=sa.same s12;refine⟨_,rfl,γ.g,γ.dx,_,rfl,sa2.ins,rfl,_,rfl,.inr (.inl ⟨tr,_,1,ye,rfl,rfl,s12.tupq qr,Q4,by show 1<=sizeLine;decide,λel nel=>?_⟩)⟩;have s3:=J6 nel (.lst [ye]);refine⟨γ,m,S.ns,S.w,el,[ye],[e],rfl,sa2.same s3,.of J1,⟨ye,[],rfl,de.same (s12.trans s3),rfl⟩,by show 1<=8;decide,λe' he=>?_,so.len,so.few,λvl H4 yv s4 nvl hvl pr=>?_⟩
 . rw[jP.mp he];exact⟨eo,en⟩
 have s04:=s12.trans (s3.trans s4)
 have fsd4:δ.sd≠vl:=by
  obtain⟨kd,hd,_⟩:=(sd.same s3).dct;exact Jp hd nvl
 have yl:=pr.length
 refine⟨vl,rfl,⟨_,.of hvl⟩,X1 (K:=K) (xs:=yv) (λi σ H'=>SmA δ.sd H4 H'/\∃(c5 c6 c7:Option V),σ=[some (.ref wa),some (.ref tr),some (.ref γ.g),some (.ref δ.g),c5,c6,c7]/\SAt K CS H' δ m S.ns (gaR [] (Qa S.ns (S.w.take i) e)))
  ⟨.of (Same.refl _),none,none,none,rfl,sd.same (s3.trans s4)⟩ (λi σ H' _ h => .of (h.1 _ _ fsd4.symm hvl)) ?_ ?_⟩
 . rintro i z σ H' hz ⟨sm,c5,c6,c7,rfl,sg⟩;obtain⟨p,ep,vr⟩:=aR pr hz;have nT:NoT H4 δ.sd:=(sd.same (s3.trans s4)).noT;obtain⟨rr,t,u,sv,rfl,h1,h2,h3,h4⟩:=vr.sm nT sm;obtain⟨e1,e2⟩:=Cj (λp:xr×Rat=>decide (ev (bk S.ns p.1) e≠0)) ep;refine⟨rr,_,rfl,.of h1,rfl,_,_,rfl,_,_,rfl,_,_,rfl,rfl,?_⟩;refine⟨_,rfl,.inr (.inl ⟨u,_,0,.int (ev (bk S.ns p.1) e),rfl,rfl,.of h4,JG,.inl ⟨_,_,rfl,rfl,_,rfl,QF (λc=>?_) (λc=>?_)⟩⟩)⟩
   . rw[qi c,qh rfl]at e1 e2;refine⟨_,rfl,δ.g,δ.dx,_,rfl,sg.ins,rfl,_,rfl,_,rfl,?_⟩;dsimp only[JA,jk];refine gO ok (l1:=Qa S.ns (S.w.take i) e) (v:=p.1) (q:=p.2) (l2:=Qa S.ns (S.w.drop (i+1)) e) e2 sg h2 h3 λH7 s7 sg7=>?_;refine⟨sm.trans s7,_,_,_,rfl,?_⟩;unfold Qa at sg7 ⊢;rw[e1];exact sg7
   . rw[qj (λz=>z c),qg 'd',jk]at e1;refine nxt ⟨sm,_,_,_,rfl,?_⟩;unfold Qa at sg ⊢;rw[e1];exact sg
 . rintro σ H' ⟨sm,c5,c6,c7,rfl,sg⟩;rw[<- yl,jr]at sg;exact⟨_,rfl,q δ H' (cK fsd0 s04 sm) sg⟩
mutual
def wk1:Wr->SL->SL
 |.draw x os,S=>⟨repl S.ns (S.ns.idxOf x) x,gaR [] (Jk S.ns S.w x os)⟩
 |.lett x e,S=>⟨repl S.ns (S.ns.idxOf x) x,gaR [] (JX S.ns S.w x e)⟩
 |.seen e,S=>⟨S.ns,gaR [] (Qa S.ns S.w e)⟩
 |_,S=>S
def wks:List Wr->SL->SL
 | [],S=>S
 |r::l,S=>wks l (wk1 r S)
end
mutual
def ft1(m:Int):Wr->SL->Prop
 |.draw x os,S=>SOk S/\os.length<=100/\(∀o∈os,sz o.2)/\AddOk m [] (Jk S.ns S.w x os)
 |.lett x e,S=>SOk S/\X6 e/\(∀n∈e.nms,n∈S.ns)/\AddOk m [] (JX S.ns S.w x e)
 |.seen e,S=>SOk S/\X6 e/\(∀n∈e.nms,n∈S.ns)/\AddOk m [] (Qa S.ns S.w e)
 |_,_=>False
def fts(m:Int):List Wr->SL->Prop
 | [],_=>True
 |r::l,S=>ft1 m r S/\fts m l (wk1 r S)
end
mutual
def Wr.hi:Wr->Nat
 |.ifr _ a b=>max (hiW a) (hiW b)+1
 |.rnd _ a=>hiW a+1
 |_=>0
def hiW:List Wr->Nat
 | []=>0
 |r::l=>max r.hi (hiW l)
end
theorem Xl:∀l:List Wr,dWs l=l.map dW
 | []=>rfl
 |r::l=>by unfold dWs;rw[Xl l];rfl
theorem gU:∀(l m:List Wr) (S:SL),wks (l++m) S=wks m (wks l S)
 | [],m,S=>by unfold wks;rfl
 |r::l,m,S=>by
  rw[kL]
  conv=>lhs;unfold wks
  conv=>rhs;rw[wks]
  exact gU l m (wk1 r S)
theorem rT:∀(l m:List Wr) (S:SL),fts M (l++m) S↔fts M l S/\fts M m (wks l S)
 | [],m,S=>by unfold fts wks;exact⟨λh=>⟨trivial,h⟩,λh=>h.2⟩
 |r::l,m,S=>by
  rw[kL]
  conv=>lhs;unfold fts
  conv=>rhs;rw[fts,wks]
  rw[rT l m,and_assoc]
theorem rV:∀{l:List Wr}{r:Wr},r∈l->r.hi<=hiW l
 |a::l,r,h=>by
  show r.hi<=max a.hi (hiW l);rcases jJ.mp h with rfl|h
  . omega
  . have:=rV h;omega
def rW(K:xh)(CS CW:xS)(d:Nat):Sp:=λvs H Q _=>∃(wa:xS) (m:Int) (x:V) (r:Wr) (γ:SAd) (S:SL),vs=[.ref wa,x,.ref γ.g]/\WkAt CW H wa m/\IsD K H (dW r) x/\SAt K CS H γ m S.ns S.w/\r.hi<d/\ft1 m r S/\∀(δ:SAd) (H':Hp),Same H H'->SAt K CS H' δ m (wk1 r S).ns (wk1 r S).w->Q (.ref δ.g) H'
def rX(K:xh)(CS CW:xS)(d:Nat):Sp:=λvs H Q _=>∃(wa:xS) (m:Int) (a:xS) (xs:List V) (rs:List Wr) (γ:SAd) (S:SL),vs=[.ref wa,.ref a,.ref γ.g]/\WkAt CW H wa m/\SqL K H a xs/\IsDs K H (dWs rs) xs/\SAt K CS H γ m S.ns S.w/\hiW rs<d/\fts m rs S/\∀(δ:SAd) (H':Hp),Same H H'->SAt K CS H' δ m (wks rs S).ns (wks rs S).w->Q (.ref δ.g) H'
def ZP:Sp:=λ_ _ _ _=>False
def ZQ{c:Prop}[Decidable c]{a b:Prop}(h:c)(k:a):if decide c=true then a else b:=by rw[qi h];exact Xv k
theorem Cl(B:Bl mg)(JC:Cls K CW)(Cm:DefM P w K mg base CW "walk_row" j ["self", "row", "ahead"] (rW K CS CW d))(F:MFn K CW "walk_rows" "Walk.walk_rows" cg ["self", "rows", "ahead"]):DefM P w K mg base CW "walk_rows" (j+1) ["self", "rows", "ahead"] (rX K CS CW d):=by
 have hj_Walk_walk_row:j<=j:=jE _;refine F.ok3 cr (λvs H Q E h=>?_) (λf xu A outer s H vs Q E hr h=>?_)
 . obtain⟨wa,m,a,xs,rs,γ,S,rfl,_⟩:=h;rfl
 obtain⟨wa,m,a,xs,rs,γ,S,rfl,wk,qa,ids,sa,hh,ft,q⟩:=h
 refine⟨_,(@J0 _ _ _ _ _ (Ja (i:=3) cr.nd rfl 'a' (pv 2))
  (@J0 _ _ _ _ _ (Z2 (Qj (pv 1)) (Ju (i:=4) cr.nd rfl 'a') (@J2 _ _ _ (Ja (i:=3) cr.nd rfl 'a' (Qm Cm JC hr JN (pv 0) (xW (pv 4) (xW (pv 3) xY)) (hjk:=hj_Walk_walk_row)))))
  (@J2 _ _ _ (J7 (pv 3))))),?_⟩
 have xl:=ids.length;rw[Xl,jA]at xl;rw[Xl]at ids;refine⟨_,rfl,?_⟩;dsimp only[Jh,List.set,L2.JD];refine⟨_,rfl,a,rfl,⟨_,qa⟩,X1 (K:=K) (xs:=xs) (λi σ H'=>Same H H'/\∃(δ:SAd) (c4:Option V),σ=[some (.ref wa),some (.ref a),some (.ref γ.g),some (.ref δ.g),c4]/\SAt K CS H' δ m (wks (rs.take i) S).ns (wks (rs.take i) S).w) ⟨Same.refl _,γ,none,rfl,by unfold wks;exact sa⟩ (λi σ H' _ h=>h.1.seq qa) ?_ ?_⟩
 . rintro i x σ H' hx ⟨sm,δ,c4,rfl,sg⟩;have hi:i < rs.length:=by have:=(jF.mp hx).1;omega
   obtain⟨y,ey,dy⟩:=ids.get (i:=i) (d:=dW rs[i]) (by rw[jD,jB hi];rfl);obtain rfl:x=y:=by rw[hx]at ey;exact Option.some.inj ey
   have hm:=rV (jX hi);have wk':=wk.same sm;obtain⟨wdx,pd,rd,hwa⟩:=id wk';have e:rs.take (i+1)=rs.take i++[rs[i]]:=ja hi
   have f1:ft1 m rs[i] (wks (rs.take i) S):=by
    have:rs=rs.take i++(rs[i]::rs.drop (i+1)):=by rw[<- kW hi,kI]
    rw[this,rT]at ft;have h2:=ft.2;unfold fts at h2;exact h2.1
   refine⟨_,rfl,wa,wdx,_,rfl,hwa,rfl,_,rfl,_,rfl,wa,m,x,rs[i],δ,wks (rs.take i) S,rfl,wk',dy.same sm,sg,by omega,f1,λδ' H2 s2 sg2=>?_⟩;refine⟨sm.trans s2,δ',_,rfl,?_⟩;rw[e,gU];unfold wks;unfold wks;exact sg2
 . rintro σ H' ⟨sm,δ,c4,rfl,sg⟩;rw[xl,jr]at sg;exact⟨_,rfl,q δ H' sm sg⟩
theorem Cn(h14:15<=j)(B:Bl mg)(JC:Cls K CW)(Co:DefM P w K mg base CW "walk_draw" 5 ["self", "row", "ahead"] (ZO K CS CW rQ))(Cp:DefM P w K mg base CW "walk_let" 14 ["self", "row", "ahead"] (ZO K CS CW rR))(Cq:DefM P w K mg base CW "walk_seen" 14 ["self", "row", "ahead"] (ZO K CS CW rS))(Cr:DefM P w K mg base CW "walk_if" 1 ["self", "row", "ahead"] ZP)(Cs:DefM P w K mg base CW "walk_rounds" 1 ["self", "row", "ahead"] ZP)(Ct:DefM P w K mg base CW "walk_call" 1 ["self", "row", "ahead"] ZP)(F:MFn K CW "walk_row" "Walk.walk_row" cf ["self", "row", "ahead"]):DefM P w K mg base CW "walk_row" (j+1) ["self", "row", "ahead"] (rW K CS CW (d+1)):=by
 have hj_Walk_walk_draw:5<=j:=by omega
 have hj_Walk_walk_let:14<=j:=by omega
 have hj_Walk_walk_seen:14<=j:=by omega
 have hj_Walk_walk_if:1<=j:=by omega
 have hj_Walk_walk_rounds:1<=j:=by omega
 have hj_Walk_walk_call:1<=j:=by omega
 refine F.ok3 Bf (λvs H Q E h=>?_) (λf xu A outer s H vs Q E hr h=>?_)
 . obtain⟨wa,m,x,r,γ,S,rfl,_⟩:=h;rfl
 obtain⟨wa,m,x,r,γ,S,rfl,wk,dy,sa,hh,ft,q⟩:=h
 refine⟨_,(@J0 _ _ _ _ _ (Je (Jd Jj (J4 (J3 K rfl) (pv 1) xX (λ_ _=>rfl)) Jc (J8 _)) (@J2 _ _ _ (J7 (Qm Co JC hr JN (pv 0) (xW (pv 1) (xW (pv 2) xY)) (hjk:=hj_Walk_walk_draw)))) Jg)
  (@J0 _ _ _ _ _ (Je (Jd Jj (J4 (J3 K rfl) (pv 1) xX (λ_ _=>rfl)) Jc (J8 _)) (@J2 _ _ _ (J7 (Qm Cp JC hr JN (pv 0) (xW (pv 1) (xW (pv 2) xY)) (hjk:=hj_Walk_walk_let)))) Jg)
  (@J0 _ _ _ _ _ (Je (Jd Jj (J4 (J3 K rfl) (pv 1) xX (λ_ _=>rfl)) Jc (J8 _)) (@J2 _ _ _ (J7 (Qm Cq JC hr JN (pv 0) (xW (pv 1) (xW (pv 2) xY)) (hjk:=hj_Walk_walk_seen)))) Jg)
  (@J0 _ _ _ _ _ (Je (Jd Jj (J4 (J3 K rfl) (pv 1) xX (λ_ _=>rfl)) Jc (J8 _)) (@J2 _ _ _ (J7 (Qm Cr JC hr JN (pv 0) (xW (pv 1) (xW (pv 2) xY)) (hjk:=hj_Walk_walk_if)))) Jg)
  (@J0 _ _ _ _ _ (Je (Jd Jj (J4 (J3 K rfl) (pv 1) xX (λ_ _=>rfl)) Jc (J8 _)) (@J2 _ _ _ (J7 (Qm Cs JC hr JN (pv 0) (xW (pv 1) (xW (pv 2) xY)) (hjk:=hj_Walk_walk_rounds)))) Jg)
  (@J2 _ _ _ (J7 (Qm Ct JC hr JN (pv 0) (xW (pv 1) (xW (pv 2) xY)) (hjk:=hj_Walk_walk_call))))))))),?_⟩
 obtain⟨wdx,pd,rd,hwa⟩:=id wk
 cases r with
 |draw x os =>
  unfold ft1 at ft;unfold wk1 at q;obtain⟨so,l1,z1,ok⟩:=ft;obtain⟨tr,ys,rfl,qr,_,_,rfl,rfl,_⟩:=id dy;exact⟨_,rfl,.inr (.inl ⟨tr,_,0,.str "draw",rfl,rfl,qr,JG,_,_,rfl,rfl,_,rfl,ZQ rfl ⟨_,rfl,wa,wdx,_,rfl,hwa,rfl,_,rfl,_,rfl,wa,m,.ref tr,.draw x os,γ,S,_,rfl,wk,dy,sa,so,⟨x,os,rfl,l1,z1,ok,rfl⟩,q⟩⟩)⟩
 |lett x e =>
  unfold ft1 at ft;unfold wk1 at q;obtain⟨so,eo,en,ok⟩:=ft;obtain⟨tr,ys,rfl,qr,_,_,rfl,rfl,_⟩:=id dy;refine⟨_,rfl,.inr (.inl ⟨tr,_,0,.str "let",rfl,rfl,qr,JG,_,_,rfl,rfl,_,rfl,Ji (λc=>absurd c (by show("let" : Str) ≠ "draw";decide)) (λ_=>nxt ?_)⟩)⟩;exact⟨_,rfl,.inr (.inl ⟨tr,_,0,.str "let",rfl,rfl,qr,JG,_,_,rfl,rfl,_,rfl,ZQ rfl ⟨_,rfl,wa,wdx,_,rfl,hwa,rfl,_,rfl,_,rfl,wa,m,.ref tr,.lett x e,γ,S,_,rfl,wk,dy,sa,so,⟨x,e,rfl,eo,en,ok,rfl⟩,q⟩⟩)⟩
 |seen e =>
  unfold ft1 at ft;unfold wk1 at q;obtain⟨so,eo,en,ok⟩:=ft;obtain⟨tr,ys,rfl,qr,_,_,rfl,rfl,_⟩:=id dy;refine⟨_,rfl,.inr (.inl ⟨tr,_,0,.str "seen",rfl,rfl,qr,JG,_,_,rfl,rfl,_,rfl,Ji (λc=>absurd c (by show("seen" : Str) ≠ "draw";decide)) (λ_=>nxt ?_)⟩)⟩;refine⟨_,rfl,.inr (.inl ⟨tr,_,0,.str "seen",rfl,rfl,qr,JG,_,_,rfl,rfl,_,rfl,Ji (λc=>absurd c (by show("seen" : Str) ≠ "let";decide)) (λ_=>nxt ?_)⟩)⟩;exact⟨_,rfl,.inr (.inl ⟨tr,_,0,.str "seen",rfl,rfl,qr,JG,_,_,rfl,rfl,_,rfl,ZQ rfl ⟨_,rfl,wa,wdx,_,rfl,hwa,rfl,_,rfl,_,rfl,wa,m,.ref tr,.seen e,γ,S,_,rfl,wk,dy,sa,so,⟨e,rfl,eo,en,ok,rfl⟩,q⟩⟩)⟩
 |_=>unfold ft1 at ft;exact ft.elim
def Cu(F:MFn K CW "walk_call" "Walk.walk_call" cb ["self", "row", "ahead"]):DefM P w K mg base CW "walk_call" 1 ["self", "row", "ahead"] ZP:=F.ok3 Be (λvs H Q E h=>h.elim) (λf xu A outer s H vs Q E hr h=>h.elim)
def Cv(F:MFn K CW "walk_if" "Walk.walk_if" bZ ["self", "row", "ahead"]):DefM P w K mg base CW "walk_if" 1 ["self", "row", "ahead"] ZP:=F.ok3 Bb (λvs H Q E h=>h.elim) (λf xu A outer s H vs Q E hr h=>h.elim)
def Cw(F:MFn K CW "walk_rounds" "Walk.walk_rounds" c9 ["self", "row", "ahead"]):DefM P w K mg base CW "walk_rounds" 1 ["self", "row", "ahead"] ZP:=F.ok3 Bc (λvs H Q E h=>h.elim) (λf xu A outer s H vs Q E hr h=>h.elim)
def Cy{ix:xq}{wi:TI}{te ta:TE}{f:Str}{r:List V->Hp->VK->Prop}{u:TS}{D:Ends}(h:wi σ H (Q5 ix te σ λx H1=>r [x] H1 λy H2=>ta σ H2 λx H3=>∃a C dx fs,x=.ref a/\H3 a=some (.ins C dx fs)/\Cls K C/\NoAttr K C f/\fs.length<1000/\u D σ (upd H3 a (.ins C dx (Qd f y fs))))):QS (m8 K ta (tCB r (JF (Qv ix wi Q7 te) JA)) f) u D σ H:=h
def gV(K:xh)(CW:xS):Sp:=λvs H Q _=>∃(g dx pl:xS) (m:Int),vs=[.ref g,.ref pl,.int m]/\H g=some (.ins CW dx [])/\SqL K H pl [] /\
 ∀(H':Hp),SmA g H H'->WkAt CW H' g m->Q .non H'
def Cz(B:Bl mg)(JC:Cls K CW)(w1:NoAttr K CW "parts")(w2:NoAttr K CW "most")(w3:NoAttr K CW "results")(F:Fun K "__init__" "Walk.__init__" bV f fd):FnOk P w K mg base (CXD P w) 1 f fd ["self", "parts", "most"] (gV K CW):=by
 refine F.ok3 Ba (λvs H Q E h=>?_) (λxu A outer s H vs Q E hr h=>?_)
 . obtain⟨g,dx,pl,m,rfl,_⟩:=h;rfl
 obtain⟨g,dx,pl,m,rfl,hg,ql,q⟩:=h
 refine⟨_,(@J0 _ _ _ _ _ (Zl (pv 0) (JU (fM rfl) rfl B.dict PyProof.Rows.boot_dict (xW (QL (CompOk.of (x := "part") (M:=[]) (ix:=[]) rfl rfl (by decide +kernel) (by decide +kernel) rfl trivial 'e' trivial) rfl (by decide +kernel) (Qj (pv 1)) (λ_ _ _ _ _=>Qf) (λ_ _ _ _ _=>(Jq (xW (J4 (J3 K rfl) (pv 0) xX (λ_ _=>rfl)) (xW (pv 0) xY))))) xY)) rfl)
  (@J0 _ _ _ _ _ (Zl (pv 0) (pv 2) rfl)
  (@J2 _ _ _ (Zl (pv 0) aB rfl)))),?_⟩
 refine Cy ?_;refine⟨_,rfl,pl,rfl,⟨_,ql⟩,fm (K:=K) (xs:=[]) [] ql rfl (jT _) rfl (λi x d H' R hx=>nomatch hx) λp H1 ys s1 hp dy=>?_⟩;obtain rfl:ys=[]:=by cases ys with|nil=>rfl|cons a b=>exact absurd dy.length 'f'
 have h1:H1 g=some (.ins CW dx []):=s1 _ _ hg;refine⟨p,[],[],rfl,hp,.nil,jT _,λpd fd=>?_⟩;have ne:pd≠g:=λz=>by rw[z,h1]at fd;cases fd
 refine⟨_,rfl,g,CW,dx,_,rfl,(by rw[xZ ne.symm];exact h1),JC,w1,(by show 0<1000;decide),?_⟩;refine⟨_,rfl,_,rfl,g,CW,dx,_,rfl,J1,JC,w2,(by show 1<1000;decide),?_⟩;refine λrd f2=>?_;have ne2:rd≠g:=λz=>by rw[z,J1]at f2;cases f2
 refine⟨_,rfl,g,CW,dx,_,rfl,(by rw[xZ ne2.symm];exact J1),JC,w3,(by show 2<1000;decide),?_⟩;refine q _ (λb u n h=>?_) ⟨dx,pd,rd,J1⟩;have hb:=s1 b u h;have n1:b≠pd:=λz=>by rw[z,fd]at hb;cases hb
 have n2:b≠rd:=λz=>by
  rw[xZ ne2,xZ ne2]at f2;rw[<- z,xZ n1,hb]at f2;cases f2
 rw[xZ n,xZ n2,xZ n,xZ n,xZ n1];exact hb
def CA(h1:∀R:VK,(∀p H1,Same H H1->SqL K H1 p []->R (.ref p) H1)->tg σ H R)(h2:∀(H1:Hp) (R:VK),Same H H1->R (.int m) H1->tm σ H1 R)
 (k:∀(g:xS) (H':Hp),Same H H'->WkAt CW H' g m->Q (.ref g) H'):Zo CW (gV K CW) [] E (JF tg (JF tm JA)) σ H Q :=
 h1 _ λp H1 s1 z=>h2 H1 _ s1 λx dx fx fdx ne=>by
  have sA:Same H1 (upd (upd H1 dx (.own x)) x (.ins CW dx [])):=(J6 fdx _).trans (J6 (by rw[xZ ne.symm];exact fx) _);refine⟨x,dx,p,m,rfl,J1,sA.seq z,λH' s2 wk=>⟨rfl,k x H' (λb u h=>s2 b u (Jp (s1 b u h) fx) (sA b u (s1 b u h))) wk⟩⟩
def CB{m:Str}{sp:Sp}{dv:List V}{E:XK}{ta:TE}{t:TA}{g:TG}{u:TS}{D:Ends}(h:ta σ H λx H1=>∃a dx fs,x=.ref a/\H1 a=some (.ins C dx fs)/\fs.lookup m=none/\t σ H1 λvs H2=>sp (x::(vs++dv)) H2 (λy H3=>g y σ H3 (u D)) E):QS (QH (eL C m sp dv E ta t) g) u D σ H:=h
theorem YL:∀ns:xp,IsDs K H (ns.map D.str) (ns.map V.str)
 | []=>rfl
 |_::ns=>⟨_,_,rfl,rfl,YL ns⟩
def cP(K:xh):Sp:=λvs H Q _=>∃(t pl rl:xS) (z:V) (m:Int) (ys:List V) (rs:List Wr),vs=[.ref t,.int m]/\SqT K H t [.ref pl,.ref rl,z]/\SqL K H pl []/\SqL K H rl ys/\IsDs K H (dWs rs) ys/\hiW rs<6/\AddOk m [] [([],1)]/\fts m rs ⟨[],[([],1)]⟩/\SOk (wks rs ⟨[],[([],1)]⟩)/\(wks rs ⟨[],[([],1)]⟩).w.length<=60/\(wks rs ⟨[],[([],1)]⟩).ns.Nodup /\
 (∀i,∀g∈Q6 (plc (wks rs ⟨[],[([],1)]⟩).ns (srt (wks rs ⟨[],[([],1)]⟩).ns)) ((wks rs ⟨[],[([],1)]⟩).w.take i),sz g.2) /\
 ∀(p t4 l2:xS) (H':Hp) (qs:List (xr×Rat)),Same H H'->qs.Perm (Q6 (plc (wks rs ⟨[],[([],1)]⟩).ns (srt (wks rs ⟨[],[([],1)]⟩).ns)) (wks rs ⟨[],[([],1)]⟩).w)->qs.Pairwise (λp q=>HT.lexLt p.1 q.1=true)->SqT K H' p [.ref t4,.ref l2]->TupZ H' t4 ((srt (wks rs ⟨[],[([],1)]⟩).ns).map V.str)->IsD K H' (.lst (qs.map JM)) (.ref l2)->Q (.ref p) H'
theorem CC(B:Bl mg)(xG:Cls K CS)(JC:Cls K CW)(n2:NoAttr K CS "shares")(n3:NoAttr K CS "names")(QP:NewC P w K mg base "StateList" CS 2 ["self", "names", "most"] (Z9 K CS))(gW:NewC P w K mg base "Walk" CW 1 ["self", "parts", "most"] (gV K CW))(Zc:DefM P w K mg base CS "add" 4 ["self", "numbers", "share"] (Z8 K CS))(CD:DefM P w K mg base CW "walk_rows" 32 ["self", "rows", "ahead"] (rX K CS CW 6))
 (Xk:Def P w K mg base "places_of" 1 ["names", "some"] (cH K)) (ZR:Def P w K mg base "gathered" 4 ["rows", "places"] (gG K))
 (F:FnD K mg "states" XB ["program", "most"] (.int 500)):Def2 P w K mg base "states" 33 ["program", "most"] (cP K)/\DefD P w K mg base "states" 33 ["program", "most"] (.int 500) (cP K):=by
 refine F.ok3 cm (λvs H Q E h=>?_) (λf xu A outer s H vs Q E hr h=>?_)
 . obtain⟨t,pl,rl,z,m,ys,rs,rfl,_⟩:=h;rfl
 obtain⟨t,pl,rl,z,m,ys,rs,rfl,qt,ql,qr,dr,hh,ok0,ft,so,few6,nd,gz,q⟩:=h
 refine⟨_,(@J0 _ _ _ _ _ (Ja (i:=2) cm.nd rfl 'a' (Yp QP hr rfl JN (xW (fX (@Yq _ _ _) (@oG _ _ _)) (xW (pv 1) xY))))
  (@J0 _ _ _ _ _ (Qi (Qm Zc xG hr JN (pv 2) (xW (fX (@Yq _ _ _) (@oG _ _ _)) (xW (Jq (xW xX (xW xX xY))) xY))))
  (@J0 _ _ _ _ _ (Ja (i:=3) cm.nd rfl 'a' (Qm CD JC hr JN (Yp gW hr rfl JN (xW (J4 (J3 K rfl) (pv 0) xX (λ_ _=>rfl)) (xW (pv 1) xY))) (xW (J4 (J3 K rfl) (pv 0) xX (λ_ _=>rfl)) (xW (pv 2) xY))))
  (@J0 _ _ _ _ _ (Ja (i:=4) cm.nd rfl 'a' (JU (nH K rfl) rfl B.tuple PyProof.Rows.boot_tuple (xW (Q1 (Ah K rfl) rfl B.sorted PyProof.Rows.boot_sorted (xW (Q0 (pv 3) rfl) xY)) xY)))
  (@J2 _ _ _ (J7 (Jq (xW (pv 4) (xW (J9 ZR hr rfl (xW (Ae rfl rfl B.list PyProof.Rows.boot_list (Q0 (pv 3) rfl)) (xW (J9 Xk hr rfl (xW (Q0 (pv 3) rfl) (xW (pv 4) xY))) xY))) xY))))))))),?_⟩
 have big:(10000:Nat)<sizeLine:=by decide
 refine cN (cO (ns:=[]) (m:=m) (λR hR => .inl ⟨jT _,λp o fp od=>hR p _ (J6 fp _) ⟨o,J1,od⟩⟩) (λH1 R s1 hR=>⟨_,rfl,hR⟩) λγ H1 s1 fg fs sa=>?_);dsimp only[Jh,List.set,L2.JD];refine⟨_,rfl,γ.g,γ.dx,_,rfl,sa.ins,rfl,.inr ⟨jT _,λp1 n1=>⟨by show 2<=sizeLine;decide,λp2 m2=>?_⟩⟩⟩;have t1:=J6 n1 (.tup []);have t2:=J6 m2 (.tup [.int 1,.int 1]);have t12:=t1.trans t2;dsimp only[JA,jk];refine gO ok0 (l1:=[]) (v:=[]) (q:=1) (l2:=[]) rfl (sa.same t12) (t2 _ _ J1) ⟨p2,_,rfl,.of J1,_,_,rfl,rfl,_,_,rfl,rfl,rfl⟩ λH2 s2 sa2=>?_;have s02:Same H H2:=cK fs (s1.trans t12) s2;refine CB (CA (m:=m) (λR hR=>⟨_,rfl,.inr (.inl ⟨t,_,0,.ref pl,rfl,rfl,s02.tupq qt,JG,hR pl H2 (Same.refl _) (s02.seq ql)⟩)⟩) (λH1 R s1 hR=>⟨_,rfl,hR⟩) λwa H3 s3 wk=>?_);have s03:=s02.trans s3;obtain⟨wdx,pd,rd,hwa⟩:=id wk;refine⟨wa,wdx,_,rfl,hwa,rfl,_,rfl,.inr (.inl ⟨t,_,1,.ref rl,rfl,rfl,s03.tupq qt,Q4,_,rfl,wa,m,rl,ys,rs,γ,⟨[],[([],1)]⟩,rfl,wk,s03.seq qr,dr.same s03,sa2.same s3,hh,ft,λδ H4 s4 sg=>?_⟩)⟩;dsimp only[Jh,List.set];generalize wks rs ⟨[],[([],1)]⟩=S at so few6 nd gz q sg;have nl:=so.nms;refine⟨_,rfl,δ.g,CS,δ.dx,_,_,rfl,sg.ins,xG,n3,Xj δ m,δ.nt,S.ns,rfl,sg.nm.sq,nd,by omega,λl ss fl pm pw=>?_⟩;obtain rfl:ss=srt S.ns:=gB pw λk=>pm.mem_iff;refine⟨l,_,rfl,.of J1,λt4 o f4 od=>?_⟩;have u1:=J6 fl (.lst ((srt S.ns).map V.str));have u2:=J6 f4 (.frz o (.tup ((srt S.ns).map V.str)));have u12:=u1.trans u2;have z4:TupZ (upd (upd H4 l (.lst ((srt S.ns).map V.str))) t4 (.frz o (.tup ((srt S.ns).map V.str)))) t4 ((srt S.ns).map V.str):=⟨o,J1,od⟩;have sg5:=sg.same u12;have s05:=(s03.trans s4).trans u12;dsimp only[Jh,List.set];generalize upd (upd H4 l (.lst ((srt S.ns).map V.str))) t4 (.frz o (.tup ((srt S.ns).map V.str)))=H5 at z4 sg5 s05 ⊢;obtain⟨ks,h3,ac⟩:=sg5.dct;have kl:=ac.length;have few:=few6;refine⟨_,rfl,_,rfl,δ.g,CS,δ.dx,_,_,rfl,sg5.ins,xG,n2,Z7 δ m,δ.sd,ks,rfl,h3,λH6 la xs s6 fla ela xl pa=>?_⟩;refine⟨_,rfl,δ.g,CS,δ.dx,_,_,rfl,s6 _ _ sg5.ins,xG,n3,Xj δ m,_,rfl,δ.nt,t4,S.ns,srt S.ns,rfl,sg5.nm.same s6,.inr (z4.same s6).sq,λn hn=>JW.mp hn,?_,λpl H7 s7 e7=>?_⟩
 . have:(srt S.ns).length<=S.ns.length:=List.Nodup.length_le_of_subset (XJ (QO _)) λn hn=>JW.mp hn;omega
 refine⟨la,pl,xs,S.w,_,rfl,.of (s7 _ _ ela),cG ?_ (λi x d hx hd=>?_),.of e7,λr hr j hj=>?_,?_,by omega,so.z,gz,λl2 H8 qs s8 f8 pm8 pw8 d8=>?_⟩
 . rw[jA];omega
 . rw[jD]at hd;have hi:i < ks.length:=by rw[<- xl];exact(jF.mp hx).1
   obtain⟨q0,e1,dq⟩:=ac.at (jB hi);rw[e1]at hd
   cases hd
   obtain⟨p,b,rfl,f1,f2⟩:=pa i x ks[i] hx (jB hi);exact⟨p,_,rfl,.of (s7 _ _ f1),_,_,rfl,⟨b,_,rfl,.of (s7 _ _ f2),YH _⟩,_,_,rfl,dq.same (s6.trans s7),rfl⟩
 . obtain⟨n,hn,rfl⟩:=jG.mp hj;have:=so.len r hr;exact⟨Int.natCast_nonneg _,by rw[this];exact Int.ofNat_lt.mpr (jx.mpr (JW.mp hn))⟩
 . have:(srt S.ns).length<=S.ns.length:=List.Nodup.length_le_of_subset (XJ (QO _)) λn hn=>JW.mp hn;unfold plc;rw[jA];omega
 refine⟨by show 2<=sizeLine;decide,λp np=>?_⟩;have s9:=J6 np (.tup [.ref t4,.ref l2]);exact q p t4 l2 _ qs (((s05.trans s6).trans (s7.trans s8)).trans s9) pm8 pw8 (.of J1) (z4.same ((s6.trans (s7.trans s8)).trans s9)) (d8.same s9)
abbrev Rw:=List Int×Rat
def asg(ns:xp)(k:xr)(n:Str):Int:=k.getD (ns.idxOf n) 0
def gX(ns ss:xp)(k:xr):JE k (plc ns ss)=ss.map (asg ns k):=by
 unfold JE plc;rw[jb];rfl
def CF(h:n∈ns):asg ns (ns.map g) n=g n:=by
 unfold asg;have hl:=jx.mpr h;rw[jL,jD,jB hl,ki hl];rfl
def cQ{ns:xp}(nd:ns.Nodup){k:xr}(hk:k.length=ns.length):ns.map (asg ns k)=k:=by
 refine kX (by simp[hk]) λi h1 h2=>?_;rw[jA]at h1;rw[j9];unfold asg;rw[nd.idxOf_getElem _ h1,jL,jB h2];rfl
def rY{ns:xp}{g h:Str->Int}:ns.map g=ns.map h↔∀n∈ns,g n=h n:=List.map_inj_left
def mass(rs:List Rw)(q:xr->Bool):Rat:=JR ((rs.filter λr=>q r.1).map (·.2))
def gY(q:xr->Bool):mass [] q=0:=rfl
def gZ(a b:List Rw)(q:xr->Bool):mass (a++b) q=mass a q+mass b q:=by
 unfold mass;rw[List.filter_append,jh,Bn]
def hG(r:Rw)(q:xr->Bool):mass [r] q=if q r.1=true then r.2 else 0:=by
 unfold mass
 by_cases c:q r.1=true
 . rw[List.filter_cons,qh c,qh c];show(0:Rat)+r.2=r.2;grind
 . rw[List.filter_cons,qg c,qg c];rfl
def X7(r:Rw)(rs:List Rw)(q:xr->Bool):mass (r::rs) q=(if q r.1=true then r.2 else 0)+mass rs q:=by
 rw[show r::rs=[r]++rs from rfl,gZ,hG]
def CG(h:∀r∈rs,q r.1=q' r.1):mass rs q=mass rs q':=by
 unfold mass;rw[List.filter_congr h]
def CI(h:∀r∈rs,q r.1=false):mass rs q=0:=by
 unfold mass;rw[List.filter_eq_nil_iff.mpr λr hr=>by simp[h r hr]];rfl
def hJ(h:a.Perm b)(q:xr->Bool):mass a q=mass b q:=by
 induction h with
 |nil=>rfl
 |cons x _ ih=>rw[X7,X7,ih]
 |swap x y l=>rw[X7,X7,X7,X7];grind
 |trans _ _ h1 h2=>rw[h1,h2]
def rZ(h:∀p∈acc,p.1≠k):Js acc k r=acc++[(k,r)]:=by
 have e1:Qq acc k=none:=by
  unfold Qq;have:acc.find? (λp=>decide (p.1=k))=none:=List.find?_eq_none.mpr λp hp=>by simpa using h p hp
  rw[this];rfl
 have e2:(acc.any λp=>decide (p.1=k))=false:=List.any_eq_false.mpr λp hp=>by simpa using h p hp
 unfold Js JT;rw[e1,e2];rfl
def se(acc:List Rw)(nd:(acc.map (·.1)).Nodup)(k:xr)(x:Rat)(q:xr->Bool):mass (Js acc k x) q=mass acc q+if q k=true then x else 0:=by
 by_cases c:∀p∈acc,p.1≠k
 . rw[rZ c,gZ,hG]
 . obtain⟨p,hp,hk⟩:∃p∈acc,p.1=k:=by
    refine Classical.byContradiction λz=>c λp hp e=>z ⟨p,hp,e⟩
   subst hk
   have ev:Qq acc p.1=some p.2:=by
    unfold Qq
    induction acc with
    |nil=>cases hp
    |cons a acc ih =>
     rw[jM,jm]at nd;rw[jv];rcases jJ.mp hp with e|hp
     . rw[<- e,qi rfl];rfl
     . have:a.1≠p.1:=λz=>nd.1 (z ▸ jG.mpr ⟨p,hp,rfl⟩);rw[qj this];exact ih nd.2 hp (λz=>z p hp rfl)
   unfold Js JT;rw[ev,qh (kB.mpr ⟨p,hp,by simp⟩)];dsimp only
   have go:∀(acc:List Rw),(acc.map (·.1)).Nodup->p∈acc->mass (acc.map λp'=>if p'.1=p.1 then(p'.1,p.2+x) else p') q=mass acc q+if q p.1=true then x else 0:=λacc=>by
    induction acc with
    |nil=>intro _ h;cases h
    |cons a acc ih =>
     intro nd hp;rw[jM,jm]at nd;rw[jM,X7,X7];rcases jJ.mp hp with e|hp
     . subst e;rw[qh rfl]
       have xy:acc.map (λp'=>if p'.1=p.1 then(p'.1,p.2+x) else p')=acc:=by
        conv=>rhs;rw[<- List.map_id acc]
        refine ji λa ha=>?_;rw[qg (λz:a.1=p.1=>nd.1 (z ▸ jG.mpr ⟨a,ha,rfl⟩))];rfl
       rw[xy]
       by_cases c:q p.1=true
       . simp only[c,if_true];grind
       . simp only[c];grind
     . have:a.1≠p.1:=λz=>nd.1 (z ▸ jG.mpr ⟨p,hp,rfl⟩);rw[qg this,ih nd.2 hp]
       grind
   exact go acc nd hp
def sf{β:Type}{acc:List (xr×β)}{k:xr}{x:β}(k':xr):k'∈(JT acc k x).map (·.1)↔k'∈acc.map (·.1)\/k'=k:=by
 unfold JT;split
 . rename_i h;obtain⟨p,hp,hk⟩:=kB.mp h;have hk:p.1=k:=by simpa using hk
   rw[jb]
   have e:acc.map ((λp=>p.1) ∘ λp=>if p.1=k then(p.1,x) else p)=acc.map (·.1):=ji λp _=>by
    show(if p.1=k then(p.1,x) else p).1=p.1;split<;>rfl
   rw[e];constructor
   . exact .inl
   . rintro (z | z)
     . exact z
     . rw[z,<- hk];exact jG.mpr ⟨p,hp,rfl⟩
 . rw[jh,je];simp
def sh{β:Type}{acc:List (xr×β)}{k:xr}{x:β}(nd:(acc.map (·.1)).Nodup):((JT acc k x).map (·.1)).Nodup:=by
 unfold JT;split
 . rw[jb]
   have e:acc.map ((λp=>p.1) ∘ λp=>if p.1=k then(p.1,x) else p)=acc.map (·.1):=ji λp _=>by
    show(if p.1=k then(p.1,x) else p).1=p.1;split<;>rfl
   rw[e];exact nd
 . rename_i h;rw[jh,kD];refine⟨nd,by simp,λa ha b hb z=>?_⟩;have:b=k:=by simpa using hb
   subst this;obtain⟨p,hp,e⟩:=jG.mp ha;exact h (kB.mpr ⟨p,hp,by simp[e,z]⟩)
theorem cR(ps:xr):∀(n:Nat) (rs:List Rw),rs.length=n->((Q6 ps rs).map (·.1)).Nodup/\(∀k,k∈(Q6 ps rs).map (·.1)↔∃r∈rs,k=JE r.1 ps)/\∀q,mass (Q6 ps rs) q=mass rs λk=>q (JE k ps)
 |0,rs,h=>by
  have:rs=[]:=kO.mp h;subst this;exact⟨jp,λk=>⟨λh=>(nomatch h),λ⟨r,h,_⟩=>(nomatch h)⟩,λq=>rfl⟩
 |n+1,rs,h=>by
  obtain⟨l,r,rfl⟩:∃l r,rs=l++[r]:=by
   have hne:rs≠[]:=by intro z;rw[z]at h;simp at h
   exact⟨rs.dropLast,rs.getLast hne,(List.dropLast_concat_getLast hne).symm⟩
  obtain⟨h1,h2,h3⟩:=cR ps n l (by simpa using h);rw[rg];refine⟨sh h1,λk=>?_,λq=>?_⟩
  . unfold Js;rw[sf,h2];constructor
    . rintro (⟨r',a,b⟩ | e)
      . exact⟨r',jw _ a,b⟩
      . exact⟨r,by simp,e⟩
    . rintro⟨r',a,b⟩;rcases je.mp a with a | a
      . exact .inl ⟨r',a,b⟩
      . rw[jP.mp a]at b;exact .inr b
  . rw[se _ h1,h3,gZ,hG]
def hU{rs:List Rw}(h:rs.Pairwise λp q=>HT.lexLt p.1 q.1=true):(rs.map (·.1)).Nodup:=by
 rw[List.nodup_iff_pairwise_ne,jq];exact h.imp fun {a b} hab e=>by rw[e,L2.fJ]at hab;cases hab
def ZT(nd:(rs.map (·.1)).Nodup)(hp:p∈rs):mass rs (λk=>decide (k=p.1))=p.2:=by
 induction rs with
 |nil=>cases hp
 |cons a rs ih =>
  rw[jM,jm]at nd;rw[X7];rcases jJ.mp hp with e|hp
  . rw[<- e,qh 'f',CI]
    . grind
    . intro r hr;refine qj λz=>nd.1 ?_;rw[<- e,<- z];exact jG.mpr ⟨r,hr,rfl⟩
  . have:a.1≠p.1:=λz=>nd.1 (z ▸ jG.mpr ⟨p,hp,rfl⟩);rw[qg (by simpa using this),ih nd.2 hp]
    grind
def hX{rs:List Rw}(h:(rs.map (·.1)).Nodup):rs.Nodup:=by
 rw[List.nodup_iff_pairwise_ne,jq]at h;exact List.nodup_iff_pairwise_ne.mpr (h.imp fun {a b} hab e=>hab (by rw[e]))
def CJ(ha:a.Pairwise λp q=>HT.lexLt p.1 q.1=true)(hb:b.Pairwise λp q=>HT.lexLt p.1 q.1=true)(hk:∀k,k∈a.map (·.1)↔k∈b.map (·.1))(hm:∀k,mass a (λx=>decide (x=k))=mass b λx=>decide (x=k)):a=b:=by
 have na:=hU ha;have nb:=hU hb
 have sub:∀{a b:List Rw},(a.map (·.1)).Nodup->(b.map (·.1)).Nodup->(∀k,k∈a.map (·.1)↔k∈b.map (·.1))->(∀k,mass a (λx=>decide (x=k))=mass b λx=>decide (x=k))->∀p∈a,p∈b:=fun {a b} na nb hk hm p hp=>by
  obtain⟨p',hp',e⟩:=jG.mp ((hk p.1).mp (jG.mpr ⟨p,hp,rfl⟩));have h1:=ZT na hp;have h2:=ZT nb hp';rw[e]at h2;have h3:p'.2=p.2:=by rw[<- h1,<- h2,hm]
  have:p'=p:=Prod.ext e h3;rw[<- this];exact hp'
 have pm:a.Perm b:=(List.perm_ext_iff_of_nodup (hX na) (hX nb)).mpr λp=>⟨sub na nb hk hm p,sub nb na (λk=>(hk k).symm) (λk=>(hm k).symm) p⟩
 exact List.Perm.eq_of_pairwise (λx y _ _ h1 h2=>by
  have:=aM h1 h2;rw[L2.fJ]at this;cases this) ha hb pm
def Bd(D M:Nat)(r:Rat):Prop:=∃a:Nat,a<=M/\r=Rat.divInt a D
def Bd.mono{D M M':Nat}{r:Rat}(h:Bd D M r)(l:M<=M'):Bd D M' r:=by obtain⟨a,h1,h2⟩:=h;exact⟨a,jg h1 l,h2⟩
def Bd.mul{D D' M M':Nat}{r s:Rat}(h:Bd D M r)(h':Bd D' M' s):Bd (D*D') (M*M') (r*s):=by
 obtain⟨a,h1,rfl⟩:=h;obtain⟨b,h2,rfl⟩:=h';exact⟨a*b,Nat.mul_le_mul h1 h2,by rw[Rat.divInt_mul_divInt];norm_cast⟩
def Bd.add{D M M':Nat}(hD:0<D){r s:Rat}(h:Bd D M r)(h':Bd D M' s):Bd D (M+M') (r+s):=by
 obtain⟨a,h1,rfl⟩:=h;obtain⟨b,h2,rfl⟩:=h';have h0:(D:Int)≠0:=by omega
 refine⟨a+b,by omega,?_⟩;rw[Rat.divInt_add_divInt _ _ h0 h0,<- Int.add_mul,Rat.divInt_mul_right h0];congr 1
theorem Bd.sz{D M:Nat}(hD:0<D)(l1:D<2 ^ 2000)(l2:M<2 ^ 2000){r:Rat}(h:Bd D M r):Fd.sz r:=by
 obtain⟨a,h1,rfl⟩:=h;obtain⟨a1,a2⟩:=cx (t:=(a:Int)) (b:=(D:Int)) 'c';exact⟨jd a1 'c',jd a2 'c'⟩
theorem i5{D M:Nat}(hD:0<D):∀(l:List Rat),(∀r∈l,Bd D M r)->Bd D (l.length*M) (JR l)
 | [],_=>⟨0,jT _,by show(0:Rat)=_;simp⟩
 |r::l,h=>by
  rw[XG,jV,Nat.succ_mul,Nat.add_comm];exact Bd.add hD (h r (jO ..)) (i5 hD l λr' hr=>h r' (jN _ hr))
def i8{D M:Nat}(hD:0<D)(h:∀r∈rs,Bd D M r.2)(q:xr->Bool):Bd D (rs.length*M) (mass rs q):=by
 unfold mass
 have:=i5 hD ((rs.filter λr=>q r.1).map (·.2)) (M:=M) λx hx=>by
  obtain⟨r,hr,rfl⟩:=jG.mp hx;exact h r (kR.mp hr).1
 refine this.mono (j5 _ ?_);rw[jA];exact List.length_filter_le _ _
def cS{D M:Nat}(hD:0<D){ps:xr}{rs:List Rw}(h:∀r∈rs,Bd D M r.2):∀g∈Q6 ps rs,Bd D (rs.length*M) g.2:=λg hg=>by
 obtain⟨h1,_,h3⟩:=cR ps _ rs rfl;rw[<- ZT h1 hg,h3];exact i8 hD h _
theorem YM:∀(l acc:List Rw),(acc.map (·.1)).Nodup->((gaR acc l).map (·.1)).Nodup/\(∀k,k∈(gaR acc l).map (·.1)↔k∈acc.map (·.1)\/k∈l.map (·.1))/\∀q,mass (gaR acc l) q=mass acc q+mass l q
 | [],acc,nd=>⟨nd,λk=>⟨.inl,λh=>h.elim id λh=>(nomatch h)⟩,λq=>by rw[gY];show mass acc q=_;grind⟩
 |p::l,acc,nd=>by
  obtain⟨h1,h2,h3⟩:=YM l (Js acc p.1 p.2) (sh nd);refine⟨h1,λk=>?_,λq=>?_⟩
  . rw[show gaR acc (p::l)=gaR (Js acc p.1 p.2) l from rfl,h2];unfold Js;rw[sf,jM,jJ,or_assoc]
  . rw[show gaR acc (p :: l)=gaR (Js acc p.1 p.2) l from rfl,h3,se _ nd,X7]
    grind
def Xm(l:List Rw):((gaR [] l).map (·.1)).Nodup:=(YM l [] jp).1
def sj{D M:Nat}(hD:0<D){l:List Rw}(h:∀r∈l,Bd D M r.2):∀g∈gaR [] l,Bd D (l.length*M) g.2:=λg hg=>by
 obtain⟨h1,_,h3⟩:=YM l [] jp;rw[<- ZT h1 hg,h3,gY,Rat.zero_add];exact i8 hD h _
theorem Zd{l:List Rw}{k:xr}:k∈(gaR [] l).map (·.1)↔k∈l.map (·.1):=by
 rw[(YM l [] jp).2.1];exact⟨λh=>h.elim (λh=>(nomatch h)) id,.inr⟩
def i9(l:List Rw)(q:xr->Bool):mass (gaR [] l) q=mass l q:=by
 rw[(YM l [] jp).2.2,gY,Rat.zero_add]
def ib{D M:Nat}(hD:0<D)(l1:D<2 ^ 2000){l:List Rw}(h:∀r∈l,Bd D M r.2)(few:l.length<=500)(l2:500*M<2 ^ 2000):AddOk 500 [] l:=by
 refine⟨λp hp=>(h p hp).sz hD l1 'c',λi g hg=>?_,by show 0+_<=900;omega,?_⟩
 . have hl:(l.take i).length<=500:=by rw[jW];omega
   exact((sj hD (λr hr=>h r (jj hr)) g hg).mono (j5 M hl)).sz hD l1 l2
 . have:=Za l [];have e:([]:List Rw).length=0:=rfl;omega
def adN(nm:xp)(x:Str):xp:=if x∈nm then nm else nm++[x]
theorem X8:n∈adN nm x↔n∈nm\/n=x:=by
 unfold adN;split
 . rename_i h;exact⟨.inl,λz=>z.elim id λe=>e ▸ h⟩
 . simp
def YN(h:nm.Nodup):(adN nm x).Nodup:=by
 unfold adN;split
 . exact h
 . rename_i c;rw[kD];exact⟨h,by simp,λa ha b hb z=>c (by rw[jP]at hb;rw[<- hb,<- z];exact ha)⟩
def Xn(ns:xp)(x:Str):repl ns (ns.idxOf x) x=adN ns x:=by
 unfold repl adN;split
 . rename_i h;have hl:=jx.mpr h;have e:ns[ns.idxOf x]=x:=ki hl
   conv=>rhs;rw[<- kI (ns.idxOf x) ns,kW hl,e]
   rw[jz];rfl
 . rename_i h;rw[List.idxOf_eq_length h,jr,kY 'c',jk]
def ZU{α:Type}{l:List α}{i:Nat}{x:α}(h:i<=l.length):(repl l i x).length=i+1+(l.length - (i+1)):=by
 unfold repl;rw[jU,jU,jW,List.length_drop,jV,kF,Nat.min_eq_left h]
structure Gd (pool:xp) (D0 k c:Nat) (S:SL):Prop where
 len:∀p∈S.w,p.1.length=S.ns.length
 cnt:S.w.length<=c
 nd:S.ns.Nodup
 sub:∀n∈S.ns,n∈pool
 bd:∀p∈S.w,Bd (D0*27720 ^ k) (D0*13860000 ^ k) p.2
def CK:Bd 27720 27720 (1:Rat):=⟨27720,jE _,by decide +kernel⟩
def ic(h:Bd (D0*27720 ^ k) (D0*13860000 ^ k) r):Bd (D0*27720 ^ (k+1)) (D0*13860000 ^ k*27720) r:=by
 have:=h.mul CK;rw[Rat.mul_one,Nat.mul_assoc D0,<- Nat.pow_succ]at this;exact this
def CL(D0 k:Nat):500*(D0*13860000 ^ k*27720)=D0*13860000 ^ (k+1):=by
 have e:D0*(13860000 ^ k*13860000)=D0*13860000 ^ k*13860000:=(Nat.mul_assoc ..).symm;rw[Nat.pow_succ,e];omega
structure D0k (D0:Nat):Prop where
 pos:0<D0
 le:D0<=2 ^ 30
def ZV(d:D0k D0)(k:Nat):0<D0*27720 ^ k:=Nat.mul_pos d.pos (Nat.pow_pos 'd')
def YO(d:D0k D0)(h:k<=80):D0*27720 ^ k<2 ^ 2000:=jd (Nat.mul_le_mul d.le (ju 'd' h)) (by decide +kernel)
def cT(d:D0k D0)(h:k<=80):500*(D0*13860000 ^ k)<2 ^ 2000:=jd (Nat.mul_le_mul_left _ (Nat.mul_le_mul d.le (ju 'd' h))) (by decide +kernel)
section
variable {pool nm:xp}{D0 k c:Nat}{S:SL}
def Gd.mono(h:Gd pool D0 k c S)(l:c<=c'):Gd pool D0 k c' S:=⟨h.len,jg h.cnt l,h.nd,h.sub,h.bd⟩
def Gd.sok(d:D0k D0)(h:Gd pool D0 k c S)(p6:pool.length<=60)(c5:c<=500)(k8:k<=80):SOk S:=by
 refine⟨h.len,jg h.cnt 'c',jg (List.Nodup.length_le_of_subset h.nd h.sub) p6,λp hp=>(h.bd p hp).sz (ZV d _) (YO d k8) ?_⟩;have:=cT d k8;omega
def cU(d:D0k D0)(hl:∀p∈l,p.1.length=ns.length)(hc:l.length<=c)(c5:c<=500)(k8:k<80)(nd:ns.Nodup)(sub:∀n∈ns,n∈pool)(hb:∀p∈l,Bd (D0*27720 ^ (k+1)) (D0*13860000 ^ k*27720) p.2) :
 AddOk 500 [] l/\Gd pool D0 (k+1) c ⟨ns,gaR [] l⟩:=by
 have ht:=CL D0 k;have hm:=cT (k:=k+1) d k8;refine⟨ib (ZV d _) (YO d k8) hb 'c' 'c',λp hp=>?_,?_,nd,sub,λp hp=>(sj (ZV d _) hb p hp).mono ?_⟩
 . obtain⟨r,hr,e⟩:=jG.mp (Zd.mp (jG.mpr ⟨p,hp,rfl⟩));rw[<- e];exact hl r hr
 . have:=Za l [];have e:([]:List (xr×Rat)).length=0:=rfl;show(gaR [] l).length<=c;omega
 . rw[<- ht];exact j5 _ 'c'
structure OsG (os:List (Int×Rat)):Prop where
 one:1<=os.length
 few:os.length<=100
 bd:∀o∈os,Bd 27720 27720 o.2
def Wx(nm:xp)(e:Ex):Prop:=X6 e/\∀n∈e.nms,n∈nm
theorem sk(ns:xp)(x:Str)(os:List (Int×Rat)):∀w,(Jk ns w x os).length=w.length*os.length
 | []=>by show 0=0*_;omega
 |p::w=>by
  show(drO ns x os p++Jk ns w x os).length=_;rw[jU,sk ns x os w];unfold drO;rw[jA,jV,Nat.succ_mul,Nat.add_comm]
def CM{D:Nat}(hD:0<D){r:Rat}(h:Bd D D r)(h2:D<2 ^ 2000):sz r:=h.sz hD h2 h2
def CN(d:D0k D0){x:Str}{os:List (Int×Rat)}(g:Gd pool D0 k c S)(p6:pool.length<=60)(hx:x∈pool)(ho:OsG os)(c5:c*os.length<=500)(k8:k<80):ft1 500 (.draw x os) S/\Gd pool D0 (k+1) (c*os.length) (wk1 (.draw x os) S)/\(wk1 (.draw x os) S).ns=adN S.ns x:=by
 have c1:c<=500:=jg (Nat.le_mul_of_pos_right _ ho.one) c5;have ix:=cL S.ns x
 obtain⟨h1,h2⟩:=cU d (pool:=pool) (k:=k) (c:=c*os.length) (ns:=repl S.ns (S.ns.idxOf x) x) (l:=Jk S.ns S.w x os) (λp hp=>by
  obtain⟨r,hr,hp⟩:=List.mem_flatMap.mp hp;obtain⟨o,hO,rfl⟩:=jG.mp hp;have:=g.len r hr;rw[ZU 'c',ZU 'c',this]) (by rw[sk];exact j5 _ g.cnt) c5 k8 (by rw[Xn];exact YN g.nd) (λn hn=>by
  rw[Xn]at hn;exact(X8.mp hn).elim (g.sub n) λe=>e ▸ hx) (λp hp=>by
  obtain⟨r,hr,hp⟩:=List.mem_flatMap.mp hp;obtain⟨o,hO,rfl⟩:=jG.mp hp;have:=(g.bd r hr).mul (ho.bd o hO);rw[Nat.mul_assoc D0,<- Nat.pow_succ]at this;exact this)
 refine⟨?_,?_,?_⟩
 . unfold ft1;exact⟨g.sok d p6 c1 'c',ho.few,λo h=>CM 'd' (ho.bd o h) (by decide +kernel),h1⟩
 . unfold wk1;exact h2
 . unfold wk1;exact Xn _ _
def CO(d:D0k D0)(g:Gd pool D0 k c S)(p6:pool.length<=60)(hx:x∈pool)(he:Wx S.ns e)(c5:c<=500)(k8:k<80):ft1 500 (.lett x e) S/\Gd pool D0 (k+1) c (wk1 (.lett x e) S)/\(wk1 (.lett x e) S).ns=adN S.ns x:=by
 have ix:=cL S.ns x
 obtain⟨h1,h2⟩:=cU d (pool:=pool) (k:=k) (c:=c) (ns:=repl S.ns (S.ns.idxOf x) x) (l:=JX S.ns S.w x e) (λp hp=>by
  obtain⟨r,hr,rfl⟩:=jG.mp hp;have:=g.len r hr;rw[ZU 'c',ZU 'c',this]) (by unfold JX;rw[jA];exact g.cnt) c5 k8 (by rw[Xn];exact YN g.nd) (λn hn=>by
  rw[Xn]at hn;exact(X8.mp hn).elim (g.sub n) λe=>e ▸ hx) (λp hp=>by
  obtain⟨r,hr,rfl⟩:=jG.mp hp;exact ic (g.bd r hr))
 refine⟨?_,?_,?_⟩
 . unfold ft1;exact⟨g.sok d p6 c5 'c',he.1,he.2,h1⟩
 . unfold wk1;exact h2
 . unfold wk1;exact Xn _ _
def CP(d:D0k D0)(g:Gd pool D0 k c S)(c5:c<=500)(k8:k<80):AddOk 500 [] (S.w.filter q)/\Gd pool D0 (k+1) (S.w.filter q).length ⟨S.ns,gaR [] (S.w.filter q)⟩ :=
 have hf:=List.length_filter_le q S.w
 cU d (λp hp=>g.len p (kR.mp hp).1) (jE _) (by have:=g.cnt;omega) k8 g.nd g.sub (λp hp=>ic (g.bd p (kR.mp hp).1))
def CQ(d:D0k D0)(g:Gd pool D0 k c S)(p6:pool.length<=60)(he:Wx S.ns e)(c5:c<=500)(k8:k<80):ft1 500 (.seen e) S/\Gd pool D0 (k+1) c (wk1 (.seen e) S)/\(wk1 (.seen e) S).ns=S.ns:=by
 obtain⟨h1,h2⟩:=CP d (q:=λp:xr×Rat=>decide (ev (bk S.ns p.1) e≠0)) g c5 k8;refine⟨?_,?_,?_⟩
 . unfold ft1;exact⟨g.sok d p6 c5 'c',he.1,he.2,h1⟩
 . unfold wk1;exact h2.mono (jg (List.length_filter_le _ _) g.cnt)
 . unfold wk1;rfl
end
def tot(rs:List (xr×Rat)):Rat:=JR (rs.map (·.2))
def ovr(r t:Rat):Rat:=Rat.divInt (r.num*(t.den:Int)) ((r.den:Int)*t.num)
def tld(t:Rat)(qs:List (xr×Rat)):List (xr×Rat):=qs.map λg=>(g.1,ovr g.2 t)
def CT(h:a.Perm b):JR a=JR b:=by
 induction h with
 |nil=>rfl
 |cons x _ ih=>rw[XG,XG,ih]
 |swap x y l=>rw[XG,XG,XG,XG,<- Rat.add_assoc,<- Rat.add_assoc,Rat.add_comm y x]
 |trans _ _ h1 h2=>exact h1.trans h2
def CU(h:a.Perm b):tot a=tot b:=CT (h.map _)
def YQ(rs:List (xr×Rat)):tot rs=mass rs λ_=>true:=by
 unfold tot mass;rw[List.filter_eq_self.mpr λ_ _=>rfl]
def CV(ps:xr)(rs:List (xr×Rat)):tot (Q6 ps rs)=tot rs:=by
 rw[YQ,YQ];exact(cR ps rs.length rs rfl).2.2 λ_=>true
def su{a b:Int}{m n k:Nat}(ha:a.natAbs<2 ^ m)(hb:b.natAbs<2 ^ n)(h:m+n<=k):(a*b).natAbs<2 ^ k:=by
 rw[Int.natAbs_mul];have:=Nat.mul_lt_mul'' ha hb;rw[<- Nat.pow_add]at this;exact jS this (ju 'd' h)
def YR(z:sz r):((r.den:Int)).natAbs<2 ^ 2000:=by have:=z.2;omega
def sx(K:xh):Sp:=λvs H Q _=>∃x y r s,vs=[x,y]/\IsD K H (dF r) x/\IsD K H (dF s) y/\sz r/\sz s/\s.num≠0/\∀p H',Same H H'->IsD K H' (dF (ovr r s)) (.ref p)->Q (.ref p) H'
def CY(B:Bl mg)(F:Fn K mg "over" bo ["one", "other"])(QG:Def P w K mg base "fraction" 2 ["top", "bottom"] (YG K)):Def P w K mg base "over" 3 ["one", "other"] (sx K):=by
 refine F.ok AW (λvs H Q E h=>?_) (λf xu A outer s H vs Q E hr h=>?_)
 . obtain⟨x,y,r,s,rfl,_⟩:=h;rfl
 obtain⟨x,y,r,s,rfl,hx,hy,zr,zs,ne,q⟩:=h;obtain⟨a,rfl,qa⟩:=JS hx;obtain⟨b,rfl,qb⟩:=JS hy;have zd:=YR zr;have ze:=YR zs;have d0:=Q9 r;refine⟨_,(@J2 _ _ _ (J7 (J9 QG hr rfl (xW (J5 JP (J4 (J3 K rfl) (pv 0) xX (λ_ _=>rfl)) (J4 (J3 K rfl) (pv 1) xX (λ_ _=>rfl))) (xW (J5 JP (J4 (J3 K rfl) (pv 0) xX (λ_ _=>rfl)) (J4 (J3 K rfl) (pv 1) xX (λ_ _=>rfl))) xY))))),?_⟩;walk_at "rd";refine⟨JQ zr.1 ze 'd',?_⟩;walk_at "rd";refine⟨JQ zd zs.1 'd',?_⟩;refine⟨_,_,rfl,λz=>?_,su zd zs.1 'd',λp H' sm d=>q p H' sm d⟩;rcases Int.mul_eq_zero.mp z with z|z
 . omega
 . exact ne z
def sy(K:xh):Sp:=λvs H Q _=>∃x rs,vs=[x]/\IsD K H (.lst (rs.map dF)) x/\(∀r∈rs,sz r)/\(∀i,sz (JR (rs.take i)))/\∀p H',Same H H'->IsD K H' (dF (JR rs)) (.ref p)->Q (.ref p) H'
def CZ(B:Bl mg)(F:Fn K mg "total" bq ["some"])(QG:Def P w K mg base "fraction" 2 ["top", "bottom"] (YG K))(Xi:Def P w K mg base "plus" 3 ["one", "other"] (cC K)):Def P w K mg base "total" 4 ["some"] (sy K):=by
 refine F.ok ck (λvs H Q E h=>?_) (λf xu A outer s H vs Q E hr h=>?_)
 . obtain⟨x,rs,rfl,_⟩:=h;rfl
 obtain⟨x,rs,rfl,hx,hs,ht,q⟩:=h;obtain⟨l,xs,rfl,qx,dx⟩:=hx;have xx:=dx.length;rw[jA]at xx
 refine⟨_,(@J0 _ _ _ _ _ (Ja (i:=1) ck.nd rfl 'a' (J9 QG hr rfl (xW xX (xW xX xY))))
  (@J0 _ _ _ _ _ (QI PassesOwn.never rfl (Qj (pv 0)) (Ju (i:=2) ck.nd rfl 'a') (@J2 _ _ _ (Ja (i:=1) ck.nd rfl 'a' (J9 Xi hr rfl (xW (pv 1) (xW (pv 2) xY))))))
  (@J2 _ _ _ (J7 (pv 1))))),?_⟩
 refine⟨0,1,rfl,by decide,by decide,λp0 H0 sm0 d0=>?_⟩;refine⟨_,rfl,l,rfl,⟨_,sm0.seq qx⟩,X1 (xs:=xs) (λi σ H'=>Same H H'/\∃pv c,σ=[some (.ref l),some (.ref pv),c]/\IsD K H' (dF (JR (rs.take i))) (.ref pv)) ⟨sm0,_,_,rfl,d0⟩ (λi σ H' _ h=>h.1.seq qx) ?_ ?_⟩
 . rintro i x σ H' hi ⟨sm,pv,c,rfl,dv⟩;have hil:i < rs.length:=by have:=(jF.mp hi).1;omega
   have er:rs[i]?=some rs[i]:=jB hil;obtain⟨y,ey,dy⟩:=dx.get (i:=i) (d:=dF rs[i]) (by rw[jD,er];rfl);obtain rfl:x=y:=by rw[hi]at ey;exact Option.some.inj ey
   refine⟨_,rfl,_,rfl,_,_,_,_,rfl,dv,dy.same sm,ht i,hs _ (jX hil),λp H2 sm2 d2=>?_⟩;refine⟨sm.trans sm2,_,_,rfl,?_⟩;rw[ja hil,Bo];exact d2
 . rintro σ H' ⟨sm,pv,c,rfl,dv⟩;refine⟨_,rfl,q pv H' sm ?_⟩;rw[xx,jr]at dv;exact dv
def sC(h:IsD K H (JM r) x):∃t t1 t2,x=.ref t/\SqT K H t [.ref t1,.ref t2]/\SqT K H t1 (r.1.map V.int)/\IsD K H (dF r.2) (.ref t2)/\SqT K H t2 [.int r.2.num,.int (r.2.den:Int)]:=by
 obtain⟨t,zs,rfl,qt,v1,_,rfl,d1,v2,_,rfl,d2,rfl⟩:=h;obtain⟨t1,ys,rfl,q1,dys⟩:=d1;rw[QX dys]at q1;obtain⟨t2,rfl,q2⟩:=JS d2;exact⟨t,t1,t2,rfl,qt,q1,d2,q2⟩
def sD{rs:List (xr×Rat)}{xs:List V}(h:IsDs K H (rs.map JM) xs){i:Nat}{x:V}(hx:xs[i]?=some x):∃hi:i<rs.length,IsD K H (JM rs[i]) x:=by
 have l:=h.length;rw[jA]at l;have hi:i<rs.length:=by have:=(jF.mp hx).1;omega
 obtain⟨y,ey,dy⟩:=h.get (i:=i) (d:=JM rs[i]) (by rw[jD,jB hi];rfl);rw[hx]at ey
 cases ey
 exact⟨hi,dy⟩
structure TBd (D M:Nat):Prop where
 pos:0<D
 lt:D<2 ^ 2000
 top:4000*M<2 ^ 2000
def sE(K:xh)(C:xS):Sp:=λvs H Q E=>∃(t v a p:xS) (ns ss:xp) (xs:List V) (rs:List (xr×Rat)),vs=[.ref t,.ref p]/\SqT K H t [.ref v,.ref a]/\SqL K H a xs/\IsDs K H (rs.map JM) xs/\(rs=[]->E (.ref C) none H) /\
 (rs≠[]->TupZ H v (ns.map V.str)/\SqL K H p (ss.map V.str)/\(∀n∈ss,n∈ns)/\ss.length<=4/\rs.length<=60/\(∀r∈rs,r.1.length=ns.length)/\(tot rs).num≠0/\(∃D M,TBd D M/\∀r∈rs,Bd D M r.2) /\
  ∀l H' (qs:List (xr×Rat)),Same H H'->H l=none->qs.Perm (Q6 (plc ns ss) rs)->qs.Pairwise (λp q=>HT.lexLt p.1 q.1=true)->IsD K H' (.lst ((tld (tot rs) qs).map JM)) (.ref l)->Q (.ref l) H')
def D1{ns ss:xp}(sub:∀n∈ss,n∈ns){k:xr}(hk:k.length=ns.length):∀j∈plc ns ss,0<=j/\j<k.length:=λj hj=>by
 unfold plc at hj;obtain⟨m,hm,rfl⟩:=jG.mp hj;have:=jx.mpr (sub m hm);rw[hk];omega
def D3(rs:List (xr×Rat)):D.noLs (rs.map JM)=true:=Zv λd hd=>by
 obtain⟨r,_,rfl⟩:=jG.mp hd;show(D.noLs (r.1.map D.int)&&(true&&true))=true;rw[Xd];rfl
def sG(qs:List (xr×Rat)):(qs.map λg=>dF g.2)=(qs.map (·.2)).map dF:=by rw[jb];rfl
def D4(B:Bl mg)(ZW:ExcC K mg "CannotBe" xJ)(Xk:Def P w K mg base "places_of" 1 ["names", "some"] (cH K))(ZR:Def P w K mg base "gathered" 4 ["rows", "places"] (gG K))(ie:Def P w K mg base "total" 4 ["some"] (sy K))(ig:Def P w K mg base "over" 3 ["one", "other"] (sx K))
 (F:Fn K mg "told" bz ["table", "names"]):Def2 P w K mg base "told" 5 ["table", "names"] (sE K xJ):=by
 refine F.ok3 gf (λvs H Q E h=>?_) (λf xu A outer s H vs Q E hr h=>?_)
 . obtain⟨t,v,a,p,ns,ss,xs,rs,rfl,_⟩:=h;rfl
 obtain⟨t,v,a,p,ns,ss,xs,rs,rfl,qt,qa,dxs,q0,q1⟩:=h;have xl:=dxs.length;rw[jA]at xl;have big:(1000:Nat)<sizeLine:=by decide
 refine⟨_,(@J0 _ _ _ _ _ (Je (Jd (Jm.or (Jj.or (Jo.or (Jn K rfl hr.units)))) (Q1 (XZ K rfl) rfl B.len PySem.boot_len (xW (J4 (J3 K rfl) (pv 0) xX (λ_ _=>rfl)) xY)) xX (J8 _)) (@J2 _ _ _ (zG ZW rfl rfl rfl zK)) Jg)
  (@J0 _ _ _ _ _ (Ja (i:=2) gf.nd rfl 'a' (J9 ZR hr rfl (xW (J4 (J3 K rfl) (pv 0) xX (λ_ _=>rfl)) (xW (J9 Xk hr rfl (xW (J4 (J3 K rfl) (pv 0) xX (λ_ _=>rfl)) (xW (pv 1) xY))) xY))))
  (@J0 _ _ _ _ _ (Ja (i:=3) gf.nd rfl 'a' (J9 ie hr rfl (xW (nS (CompOk2.mk (z := "share") (CompOk.of (x := "values") (M:=[]) (ix:=[]) rfl rfl (by decide +kernel) (by decide +kernel) rfl trivial 'e' trivial) rfl) rfl (by decide +kernel) (Qj (pv 2)) (λ_ _ _ _ _=>Qf) (λ_ _ _ _ _=>(pv 1))) xY)))
  (@J2 _ _ _ (J7 (nS (CompOk2.mk (z := "share") (CompOk.of (x := "values") (M:=["together"]) (ix:=[3]) rfl rfl (by decide +kernel) (by decide +kernel) rfl ⟨rfl,trivial⟩ 'e' ⟨⟨rfl,rfl,rfl,rfl⟩,trivial⟩) rfl) rfl (by decide +kernel) (Qj (pv 2)) (λ_ _ _ _ _=>Qf) (λ_ _ _ _ _=>(Jq (xW (pv 0) (xW (J9 ig hr rfl (xW (pv 1) (xW (pv 2) xY))) xY)))))))))),?_⟩
 refine⟨_,rfl,.inr (.inl ⟨t,_,1,.ref a,rfl,rfl,qt,rfl,_,_,rfl,Zu qa,.inl ⟨_,_,rfl,rfl,_,rfl,?_⟩⟩)⟩;refine Ji (λc=>q0 (kO.mp 'c')) (λc=>nxt ?_);obtain⟨qv,qp,sub,l4,rl,okr,tn,⟨D0,M0,tb,hb⟩,q⟩:=q1 (λz=>c (by rw[xl,z];rfl));have hM:60*M0<2 ^ 2000:=by have:=tb.top;omega
 have hM1:M0<2 ^ 2000:=by omega
 refine⟨_,rfl,.inr (.inl ⟨t,_,1,.ref a,rfl,rfl,qt,rfl,?_⟩)⟩;refine⟨_,rfl,.inr (.inl ⟨t,_,0,.ref v,rfl,rfl,qt,rfl,?_⟩)⟩;refine⟨_,rfl,v,p,ns,ss,rfl,qv,.inl qp,sub,by omega,λl H3 s3 ql=>?_⟩;refine⟨a,l,xs,rs,plc ns ss,rfl,s3.seq qa,dxs.same s3,.of ql,λr' hr'=>D1 sub (okr r' hr'),by unfold plc;rw[jA];omega,by omega,λr' hr'=>(hb r' hr').sz tb.pos tb.lt hM1,λi g hg=>(cS tb.pos (λr hr=>hb r (jj hr)) g hg).sz tb.pos tb.lt (jd (j5 _ (by rw[jW];omega:(rs.take i).length<=60)) hM),λl2 H4 qs s4 n4 pm pw dl=>?_⟩;obtain⟨_,ys,ee,ql2,dys⟩:=dl
 cases ee
 have yl:=dys.length;rw[jA]at yl;have ql58:qs.length<=60:=by rw[pm.length_eq];exact jg (cD _ _) rl
 have qb:∀g∈qs,Bd D0 (60*M0) g.2:=λg hg=>(cS tb.pos hb g (pm.mem_iff.mp hg)).mono (j5 _ rl);have etot:JR (qs.map (·.2))=tot rs:=(CU pm).trans (CV _ _)
 have part:∀i,sz (JR ((qs.take i).map (·.2))):=λi=>by
  have h1:=i5 tb.pos ((qs.take i).map (·.2)) (λr hr=>by
   obtain⟨g,hg,rfl⟩:=jG.mp hr;exact qb g (jj hg))
  refine h1.sz tb.pos tb.lt (jd (j5 _ (by rw[jA,jW];omega:((qs.take i).map (·.2)).length<=60)) ?_);have:=tb.top;omega
 have tz:sz (tot rs):=by
  have:=part qs.length
  rwa [jr,etot]at this
 have qz:∀g∈qs,sz g.2:=λg hg=>(qb g hg).sz tb.pos tb.lt hM;dsimp only[Jh];refine yS ?_;refine⟨_,rfl,l2,rfl,⟨_,ql2⟩,?_⟩;refine nU (K:=K) (xs:=ys) (qs.map λg=>dF g.2) ql2 (by rw[jA];omega) 'c' (by rw[sG];exact Br _) (λi x d H' R hx hd sm hR=>?_) (λl5 H5 n5 s5 d5=>?_)
 . obtain⟨hi,dx⟩:=sD dys hx;rw[jD,jB hi]at hd
   cases hd
   obtain⟨t0,t1,t2,rfl,qt0,q1,d2,q2⟩:=sC dx;exact⟨t0,_,_,rfl,sm.tupq qt0,_,rfl,hR _ _ (Same.refl _) (d2.same sm)⟩
 rw[sG]at d5;refine⟨.ref l5,qs.map (·.2),rfl,d5,λr hr'=>?_,λi=>?_,λp6 H6 s6 d6=>?_⟩
 . obtain⟨g,hg,rfl⟩:=jG.mp hr';exact qz g hg
 . rw[<- List.map_take];exact part i
 rw[etot]at d6;have s46:=s5.trans s6;have ql6:=s46.seq ql2;have dys6:=dys.same s46;have s06:=(s3.trans s4).trans s46;dsimp only[Jh];refine yR ?_;refine⟨_,rfl,l2,rfl,⟨_,ql6⟩,?_⟩;refine nU (K:=K) (xs:=ys) ((tld (tot rs) qs).map JM) ql6 (by rw[jA];unfold tld;rw[jA];omega) 'c' (D3 _) (λi x d H' R hx hd sm hR=>?_) (λl7 H7 n7 s7 d7=>?_)
 . obtain⟨hi,dx⟩:=sD dys6 hx;unfold tld at hd;rw[jD,jD,jB hi]at hd
   cases hd
   obtain⟨t0,t1,t2,rfl,qt0,q1,d2,q2⟩:=sC dx;refine⟨t0,_,_,rfl,sm.tupq qt0,_,rfl,_,rfl,_,rfl,.ref t2,.ref p6,qs[i].2,tot rs,rfl,d2.same sm,d6.same sm,qz _ (jX hi),tz,tn,λp8 H8 s8 d8=>⟨(by show 2<=sizeLine;decide),λp9 n9=>?_⟩⟩;have s9:=J6 n9 (.tup [V.ref t1,.ref p8]);refine hR _ _ (s8.trans s9) ⟨p9,_,rfl,.of J1,_,_,rfl,⟨t1,_,rfl,(sm.trans (s8.trans s9)).tupq q1,YH _⟩,_,_,rfl,d8.same s9,rfl⟩
 exact q l7 H7 qs (s06.trans s7) (s06.free n7) pm pw d7
structure IsT (qs w:List (xr×Rat)) (f:xr->xr):Prop where
 pw:qs.Pairwise λp q=>HT.lexLt p.1 q.1=true
 key:∀k,k∈qs.map (·.1)↔∃p∈w,k=f p.1
 ms:∀q:xr->Bool,mass qs q=mass w λv=>q (f v)
def IsT.eq{a b w:List (xr×Rat)}{f:xr->xr}(h:IsT a w f)(h':IsT b w f):a=b :=
 CJ h.pw h'.pw (λk=>(h.key k).trans (h'.key k).symm) λk=>by rw[h.ms,h'.ms]
def IsT.of{qs w:List (xr×Rat)}{ps:xr}(pm:qs.Perm (Q6 ps w))(pw:qs.Pairwise λp q=>HT.lexLt p.1 q.1=true):IsT qs w λv=>JE v ps:=by
 obtain⟨_,h2,h3⟩:=cR ps w.length w rfl;refine⟨pw,λk=>((pm.map (·.1)).mem_iff).trans (h2 k),λq=>?_⟩;rw[hJ pm,h3]
def IsT.comp{qs w rs:List (xr×Rat)}{f g:xr->xr}{h:xr->xr}(a:IsT rs w f)(b:IsT qs rs g)(e:∀p∈w,g (f p.1)=h p.1):IsT qs w h:=by
 refine⟨b.pw,λk=>?_,λq=>?_⟩
 . refine(b.key k).trans ⟨λ⟨p,hp,ek⟩=>?_,λ⟨p,hp,ek⟩=>?_⟩
   . obtain⟨q,hq,eq⟩:=(a.key p.1).mp (jG.mpr ⟨p,hp,rfl⟩);exact⟨q,hq,by rw[ek,eq,e q hq]⟩
   . obtain⟨q,hq,eq⟩:=jG.mp ((a.key (f p.1)).mpr ⟨p,hp,rfl⟩);exact⟨q,hq,by rw[ek,eq,e p hp]⟩
 . rw[b.ms,a.ms];exact CG λr hr=>by rw[e r hr]
theorem IsT.tot{qs w:List (xr×Rat)}{f:xr->xr}(h:IsT qs w f):Fd.tot qs=Fd.tot w:=by rw[YQ,YQ,h.ms]
def D5{D M:Nat}(hD:0<D){qs w:List (xr×Rat)}{f:xr->xr}(h:IsT qs w f)(hb:∀r∈w,Bd D M r.2):∀r∈qs,Bd D (w.length*M) r.2:=λr hr=>by
 rw[<- ZT (hU h.pw) hr,h.ms];exact i8 hD hb _
def cV(K:xh)(C:xS):Sp:=λvs H Q E=>∃(t pl rl al:xS) (m:Int) (ys:List V) (rs:List Wr) (ss:xp),vs=[.ref t,.int m]/\SqT K H t [.ref pl,.ref rl,.ref al]/\SqL K H al (ss.map V.str)/\SqL K H pl []/\SqL K H rl ys/\IsDs K H (dWs rs) ys/\hiW rs<6/\AddOk m [] [([],1)]/\fts m rs ⟨[],[([],1)]⟩/\SOk (wks rs ⟨[],[([],1)]⟩)/\(wks rs ⟨[],[([],1)]⟩).w.length<=60/\(wks rs ⟨[],[([],1)]⟩).ns.Nodup /\
 (∀n∈ss,n∈(wks rs ⟨[],[([],1)]⟩).ns)/\ss.length<=4/\(∃D M,TBd D (60*M)/\∀p∈(wks rs ⟨[],[([],1)]⟩).w,Bd D M p.2) /\
 ((wks rs ⟨[],[([],1)]⟩).w=[]->∀H',Same H H'->E (.ref C) none H') /\
 ((wks rs ⟨[],[([],1)]⟩).w≠[]->(tot (wks rs ⟨[],[([],1)]⟩).w).num≠0/\∀l H' (qs:List (xr×Rat)),Same H H'->H l=none->IsT qs (wks rs ⟨[],[([],1)]⟩).w (λv=>ss.map (asg (wks rs ⟨[],[([],1)]⟩).ns v))->IsD K H' (.lst ((tld (tot (wks rs ⟨[],[([],1)]⟩).w) qs).map JM)) (.ref l)->Q (.ref l) H')
def D6(B:Bl mg)(cW:Def2 P w K mg base "states" 33 ["program", "most"] (cP K))(ii:Def2 P w K mg base "told" 5 ["table", "names"] (sE K xJ))(F:FnD K mg "walked" XC ["program", "most"] (.int 500)):Def2 P w K mg base "walked" 34 ["program", "most"] (cV K xJ)/\DefD P w K mg base "walked" 34 ["program", "most"] (.int 500) (cV K xJ):=by
 refine F.ok3 B2 (λvs H Q E h=>?_) (λf xu A outer s H vs Q E hr h=>?_)
 . obtain⟨t,pl,rl,al,m,ys,rs,ss,rfl,_⟩:=h;rfl
 obtain⟨t,pl,rl,al,m,ys,rs,ss,rfl,qt,qs,ql,qr,dr,hh,ok0,ft,so,few,nd,sub,l4,⟨D0,M0,tb,hb⟩,k0,k1⟩:=h;refine⟨_,(@J2 _ _ _ (J7 (ou ii hr rfl JN (xW (ou cW hr rfl JN (xW (pv 0) (xW (pv 1) xY))) (xW (J4 (J3 K rfl) (pv 0) xX (λ_ _=>rfl)) xY))))),?_⟩;have hM:60*M0<2 ^ 2000:=by have:=tb.top;omega
 refine⟨_,rfl,_,rfl,t,pl,rl,.ref al,m,ys,rs,rfl,qt,ql,qr,dr,hh,ok0,ft,so,few,nd,λi g hg=>(cS tb.pos (λr hr=>hb r (jj hr)) g hg).sz tb.pos tb.lt (jd (j5 _ (by rw[jW];omega:((wks rs ⟨[],[([],1)]⟩).w.take i).length<=60)) hM),λp t4 l2 H1 q0 s1 pm pw q1 z1 d1=>?_⟩;generalize wks rs ⟨[],[([],1)]⟩=S at so few nd sub hb k0 k1 pm z1;have it:=IsT.of pm pw;have ql0:q0.length<=60:=by rw[pm.length_eq];exact jg (cD _ _) few
 obtain⟨_,xs,e2,qx,dx⟩:=d1
 cases e2
 refine⟨_,rfl,.inr (.inl ⟨t,_,2,.ref al,rfl,rfl,s1.tupq qt,Zb,?_⟩)⟩
 have ne0:q0=[]↔S.w=[]:=by
  constructor
  . intro z
    cases e:S.w with
    |nil=>rfl
    |cons a b =>
     have:=(it.key _).mpr ⟨a,by rw[e];exact jO,rfl⟩;rw[z]at this;cases this
  . intro z
    cases e:q0 with
    |nil=>rfl
    |cons a b =>
     obtain⟨p,hp,_⟩:=(it.key a.1).mp (by rw[e];exact jO);rw[z]at hp;cases hp
 refine⟨p,t4,l2,al,srt S.ns,ss,xs,q0,rfl,q1,qx,dx,λz=>k0 (ne0.mp z) H1 s1,λz=>⟨z1,s1.seq qs,λn hn=>JW.mpr (sub n hn),l4,ql0,λr hr=>?_,?_,⟨D0,60*M0,tb,λr hr=>(D5 tb.pos it hb r hr).mono (j5 _ few)⟩,λl H' q2 s2 fl pm2 pw2 d2=>?_⟩⟩
 . obtain⟨q,hq,e⟩:=(it.key r.1).mp (jG.mpr ⟨r,hr,rfl⟩);rw[e];unfold JE plc;rw[jA,jA]
 . rw[it.tot];exact(k1 λy=>z (ne0.mpr y)).1
 . refine(k1 λy=>z (ne0.mpr y)).2 l H' q2 (s1.trans s2) (s1.free fl) (it.comp (IsT.of pm2 pw2) λr hr=>?_) (by rw[<- it.tot];exact d2);rw[gX,gX];refine ji λn hn=>?_;exact CF (JW.mpr (sub n hn))
def cX:Sp:=λvs H Q _=>∃c k:Int,vs=[.int c,.int k]/\0<=k/\k<=1000/\∀r:Int,0<=r->r<2147483629->Q (.int r) H
def D7(B:Bl mg)(F:Fn K mg "_law_mixed" bC ["_law_cell", "_law_k"]):Def P w K mg base "_law_mixed" 1 ["_law_cell", "_law_k"] cX:=by
 refine F.ok pI (λvs H Q E h=>?_) (λf xu A outer s H vs Q E hr h=>?_)
 . obtain⟨c,k,rfl,_⟩:=h;rfl
 obtain⟨c,k,rfl,k0,k1,q⟩:=h
 refine⟨_,(@J0 _ _ _ _ _ (Ja (i:=2) pI.nd rfl 'a' (J5 Jv (pv 0) xX))
  (@J2 _ _ _ (J7 (J5 Jv (J5 JP (J5 JP (J5 (Jz.or (JH.or (JI.or (JK K rfl)))) (J5 (Jz.or (JH.or (JI.or (JK K rfl)))) (pv 2) (J5 JP xX (pv 1))) xX) xX) (J5 (Jz.or (JH.or (JI.or (JK K rfl)))) (J5 (Jz.or (JH.or (JI.or (JK K rfl)))) (pv 2) (J5 JP xX (pv 1))) xX)) xX)))),?_⟩
 refine⟨_,rfl,_,_,rfl,rfl,(by show(0:Int)<2147483647;decide),?_⟩;have a0:=kS c (show(2147483647:Int)≠0 by decide);have a1:=kE c (show(0:Int)<2147483647 by decide);generalize c % 2147483647=u at a0 a1;refine⟨_,rfl,_,rfl,_,_,rfl,rfl,JQ (m:=6) (n:=11) 'd' 'c' 'd',.inl ⟨_,_,rfl,rfl,.inl ⟨_,_,rfl,rfl,?_⟩⟩⟩;refine⟨_,_,rfl,rfl,JQ (m:=33) (n:=20) 'c' 'd' 'd',?_⟩;refine⟨_,rfl,_,rfl,_,_,rfl,rfl,JQ (m:=6) (n:=11) 'd' 'c' 'd',.inl ⟨_,_,rfl,rfl,.inl ⟨_,_,rfl,rfl,?_⟩⟩⟩;refine⟨_,_,rfl,rfl,JQ (m:=60) (n:=33) 'c' 'c' 'd',_,_,rfl,rfl,(by show(0:Int)<2147483629;decide),?_⟩;exact q _ (kS _ 'd') (kE _ 'd')
def cell(ns:xr)(k:Int):Int:=ns.getD k.toNat 0
def sI:Sp:=λvs H Q _=>∃a ns k,vs=[.ref a,.int k]/\SqL K H a (ns.map V.int)/\0<=k/\Q (.int (cell ns k)) H
def D8(B:Bl mg)(F:Fn K mg "_law_cell_at" bB ["_law_script", "_law_k"]):Def P w K mg base "_law_cell_at" 1 ["_law_script", "_law_k"] (sI (K:=K)):=by
 refine F.ok B3 (λvs H Q E h=>?_) (λf xu A outer s H vs Q E hr h=>?_)
 . obtain⟨a,ns,k,rfl,_⟩:=h;rfl
 obtain⟨a,ns,k,rfl,hS,hk,q⟩:=h
 refine⟨_,(@J0 _ _ _ _ _ (Je (Jd Yc (pv 1) (Q1 (XZ K rfl) rfl B.len PySem.boot_len (xW (pv 0) xY)) (J8 _)) (@J2 _ _ _ (J7 (J4 (J3 K rfl) (pv 0) (pv 1) (λ_ _=>rfl)))) Jg)
  (@J2 _ _ _ (J7 xX))),?_⟩
 refine⟨_,rfl,_,rfl,_,_,rfl,Zu hS,_,_,rfl,rfl,_,rfl,?_⟩;have hl:(ns.map V.int).length=ns.length:=jA _;refine Ji (λc=>?_) (λc=>?_)
 . rw[hl]at c;refine⟨_,rfl,_,rfl,.inl ⟨a,_,_,.int (cell ns k),rfl,rfl,hS,?_,q⟩⟩;have hk':k.toNat < ns.length:=by omega
   have e:k=((k.toNat:Nat):Int):=by omega
   rw[e];refine Qe ?_;rw[jD,jB hk'];show some (V.int ns[k.toNat])=some (V.int (ns.getD _ 0));rw[<- e];simp[List.getD,hk']
 . rw[hl]at c
   have e:cell ns k=0:=by
    unfold cell;rw[jL,k7 'c'];rfl
   rw[e]at q;exact q
def sJ:Sp:=λvs H Q _=>∃a b,vs=[.int a,.int b]/\0<=a/\0<=b/\Q (.int (G a b)) H
def D9(B:Bl mg)(F:Fn K mg "_law_common" bD ["_law_one", "_law_other"]):Def P w K mg base "_law_common" 1 ["_law_one", "_law_other"] sJ:=by
 refine F.ok pJ (λvs H Q E h=>?_) (λf xu A outer s H vs Q E hr h=>?_)
 . obtain⟨a,b,rfl,_⟩:=h;rfl
 obtain⟨a,b,rfl,ha,hb,q⟩:=h
 refine⟨_,(@J0 _ _ _ _ _ (lK PassesOwn.never (Jd ai (pv 1) xX (J8 _)) (@J2 _ _ _ (uU (i:=0) (j:=1) rfl pJ.nd rfl rfl 'd' rfl rfl (xW (pv 1) (xW (J5 Jv (pv 0) (pv 1)) xY)) rfl)))
  (@J2 _ _ _ (J7 (pv 0)))),?_⟩
 refine lP (λσ H'=>H'=H/\∃x y,σ=[some (.int x),some (.int y)]/\0<=x/\0<=y/\G x y=G a b)
  (λσ _=>match σ with | [_,some (.int y)]=>y.toNat|_=>0) ?_ ?_ ?_
 . exact⟨rfl,_,_,rfl,ha,hb,rfl⟩
 . rintro σ H' ⟨rfl,x,y,rfl,hx,hy,e⟩;walk_at "rd";refine Ji (λc=>?_) (λc=>?_)
   . refine⟨_,rfl,_,rfl,_,rfl,_,_,rfl,rfl,c,?_⟩;walk_at "rd";have h1:=kS x (show y≠0 by omega);have h2:=kE x c;refine⟨⟨rfl,_,_,rfl,hy,h1,(pQ hx c).trans e⟩,?_⟩;show(x % y).toNat<y.toNat;omega
   . walk_at "rd";have:=pP (b:=y) hx 'c';rw[e]at this;show Q (.int x) H';rw[<- this];exact q
 . rintro σ H' R R' m ⟨v,e,h⟩;refine⟨v,e,?_⟩;obtain⟨i,j,e1,e2,k,e3,h⟩:=h;exact⟨i,j,e1,e2,k,e3,m _ _ h⟩
def cY(K:xh):Sp:=λvs H Q _=>∃t b,vs=[.int t,.int b]/\0<=t/\0<b/\b.natAbs<2 ^ 8000/\∀p H',Same H H'->H p=none->IsD K H' (dF (Rat.divInt t b)) (.ref p)->Q (.ref p) H'
def Db(B:Bl mg)(ij:Def P w K mg base "_law_common" 1 ["_law_one", "_law_other"] sJ)(F:Fn K mg "_law_low" bE ["_law_top", "_law_bottom"]):Def P w K mg base "_law_low" 2 ["_law_top", "_law_bottom"] (cY K):=by
 refine F.ok pK (λvs H Q E h=>?_) (λf xu A outer s H vs Q E hr h=>?_)
 . obtain⟨t,b,rfl,_⟩:=h;rfl
 obtain⟨t,b,rfl,ht,hb,hz,q⟩:=h;have hb0:b≠0:=by omega
 have fr:=cw (t:=t) hb0;have gl:=gj (a:=t) hb0;have g0:=Z5 (a:=t) hb0;have gz:(G t b).natAbs<2 ^ 8000:=by omega
 unfold sg at fr;rw[qg 'c']at fr
 refine⟨_,(@J0 _ _ _ _ _ (Ja (i:=2) pK.nd rfl 'a' (J9 ij hr rfl (xW (pv 0) (xW (pv 1) xY))))
  (@J2 _ _ _ (J7 (Jq (xW (J5 aD (pv 0) (pv 2)) (xW (J5 aD (pv 1) (pv 2)) xY)))))),?_⟩
 refine⟨_,rfl,_,rfl,t,b,rfl,ht,by omega,?_⟩;walk_at "rd";refine⟨⟨by omega,XH gz 'd'⟩,?_⟩;walk_at "rd";refine⟨⟨by omega,XH gz 'd'⟩,(by show 2<=sizeLine;decide),λp hp=>q p _ (J6 hp _) hp ?_⟩;unfold dF;rw[<- fr.1,<- fr.2];exact YF J1
def Qz(c:Int):Int:=([1,3,5,7,9,11,15,17,19,21,23,25]:xr).getD (c / 26 % 12).toNat 1
def ltr(i:Int):Nat:=97+(i % 26).toNat
abbrev zro:Str:=(toString (0:Int):String)
def XR(c:Int):Nat->Str
 |0 => ""
 |j+1=>XR c j++⟨#[ltr (c / 7+j*j)]⟩
def Xo(c k:Int):Str :=
 if c / 312 % 4=0 then⟨#[ltr (c+k*Qz c)]⟩
 else if c / 312 % 4=1 then XR c (c / 1248 % 7).toNat++((⟨#[ltr (c+k*Qz c)]⟩:Str)++zro)
 else((⟨#[ltr (c+k*Qz c)]⟩:Str)++zro)++XR c (c / 1248 % 7).toNat
def sK(i:Int):atI ("abcdefghijklmnopqrstuvwxyz" : Str).cps.toList (i % 26)=some (ltr i):=by
 have h:∀n:Fin 26,atI ("abcdefghijklmnopqrstuvwxyz" : Str).cps.toList ((n.val:Nat):Int)=some (97+n.val):=by decide +kernel
 have:=h ⟨(i % 26).toNat,by omega⟩;have e:(((i % 26).toNat:Nat):Int)=i % 26:=by omega
 rw[e]at this;exact this
def Dc(c:Int):atI [V.int 1,.int 3,.int 5,.int 7,.int 9,.int 11,.int 15,.int 17,.int 19,.int 21,.int 23,.int 25] (c / 26 % 12)=some (.int (Qz c)):=by
 have h:c / 26 % 12=0\/c / 26 % 12=1\/c / 26 % 12=2\/c / 26 % 12=3\/c / 26 % 12=4\/c / 26 % 12=5\/c / 26 % 12=6\/c / 26 % 12=7\/c / 26 % 12=8\/c / 26 % 12=9\/c / 26 % 12=10\/c / 26 % 12=11:=by omega
 unfold Qz;rcases h with h|h|h|h|h|h|h|h|h|h|h|h<;>rw[h]<;>rfl
def De(c:Int):Qz c∈([1,3,5,7,9,11,15,17,19,21,23,25]:xr):=by
 have h:c / 26 % 12=0\/c / 26 % 12=1\/c / 26 % 12=2\/c / 26 % 12=3\/c / 26 % 12=4\/c / 26 % 12=5\/c / 26 % 12=6\/c / 26 % 12=7\/c / 26 % 12=8\/c / 26 % 12=9\/c / 26 % 12=10\/c / 26 % 12=11:=by omega
 unfold Qz;rcases h with h|h|h|h|h|h|h|h|h|h|h|h<;>rw[h]<;>decide
def im(a b:Str):(a++b).length=a.length+b.length:=Array.size_append ..
theorem io(c:Int):∀j,(XR c j).length=j
 |0=>rfl
 |j+1=>by show(XR c j++_).length=_;rw[im,io c j];rfl
def Df(l:Nat):Txt.slice ((⟨#[l]⟩:Str)++zro) none (some (1+if false=true then 1 else 0))=⟨#[l]⟩:=rfl
def sM:Sp:=λvs H Q _=>∃c k:Int,vs=[.int c,.int k]/\0<=k/\k<6/\∀H',Same H H'->Q (.str (Xo c k)) H'
def Dg(B:Bl mg)(F:Fn K mg "_law_name" bF ["_law_cell", "_law_k"]):Def P w K mg base "_law_name" 1 ["_law_cell", "_law_k"] sM:=by
 refine F.ok XD (λvs H Q E h=>?_) (λf xu A outer s H vs Q E hr h=>?_)
 . obtain⟨c,k,rfl,_⟩:=h;rfl
 obtain⟨c,k,rfl,k0,k5,q⟩:=h
 refine⟨_,(@J0 _ _ _ _ _ (Ja (i:=2) XD.nd rfl 'a' Jc)
  (@J0 _ _ _ _ _ (@nK _ 3 _ _ _ _ _ _ _ _ _ _ XD.nd rfl rfl (J3 K rfl) (@Jb _ _ _ _ _ xX (@Jb _ _ _ _ _ xX (@Jb _ _ _ _ _ xX (@Jb _ _ _ _ _ xX (@Jb _ _ _ _ _ xX (@Jb _ _ _ _ _ xX (@Jb _ _ _ _ _ xX (@Jb _ _ _ _ _ xX (@Jb _ _ _ _ _ xX (@Jb _ _ _ _ _ xX (@Jb _ _ _ _ _ xX (@Jb _ _ _ _ _ xX xY rfl) rfl) rfl) rfl) rfl) rfl) rfl) rfl) rfl) rfl) rfl) rfl) (J5 Jv (J5 JV (pv 0) xX) xX) (λ_ _=>rfl))
  (@J0 _ _ _ _ _ (Ja (i:=4) XD.nd rfl 'a' (J5 (Jz.or (JH.or (JI.or (JK K rfl)))) (J4 (J3 K rfl) (pv 2) (J5 Jv (J5 (Jz.or (JH.or (JI.or (JK K rfl)))) (pv 0) (J5 JP (pv 1) (pv 3))) xX) (λ_ _=>rfl)) (JU vc rfl B.str PyProof.Rows.boot_str (xW (J5 JV (pv 1) xX) xY))))
  (@J0 _ _ _ _ _ (Ja (i:=5) XD.nd rfl 'a' (J5 Jv (J5 JV (pv 0) xX) xX))
  (@J0 _ _ _ _ _ (Je (Jd (Jm.or (Jj.or (Jo.or (Jn K rfl hr.units)))) (pv 5) xX (J8 _)) (@J2 _ _ _ (J7 (QT yp (pv 4) X2 (QJ (J5 (Jz.or (JH.or (JI.or (JK K rfl)))) xX (JU Zk rfl B.int PyProof.Rows.boot_int (xW (Qb ai (pv 1) xX (J8 _)) xY))))))) Jg)
  (@J0 _ _ _ _ _ (Ja (i:=6) XD.nd rfl 'a' Jc)
  (@J0 _ _ _ _ _ (QI PassesOwn.never rfl (Zj rfl B.range (xW (J5 Jv (J5 JV (pv 0) xX) xX) xY)) (Ju (i:=7) XD.nd rfl 'a') (@J2 _ _ _ (Ja (i:=6) XD.nd rfl 'a' (J5 (Jz.or (JH.or (JI.or (JK K rfl)))) (pv 6) (J4 (J3 K rfl) (pv 2) (J5 Jv (J5 (Jz.or (JH.or (JI.or (JK K rfl)))) (J5 JV (pv 0) xX) (J5 JP (pv 7) (pv 7))) xX) (λ_ _=>rfl))))))
  (@J0 _ _ _ _ _ (Je (Jd (Jm.or (Jj.or (Jo.or (Jn K rfl hr.units)))) (pv 5) xX (J8 _)) (@J2 _ _ _ (J7 (J5 (Jz.or (JH.or (JI.or (JK K rfl)))) (pv 6) (pv 4)))) Jg)
  (@J2 _ _ _ (J7 (J5 (Jz.or (JH.or (JI.or (JK K rfl)))) (pv 4) (pv 6)))))))))))),?_⟩
 have si:=De c
 have sr:1<=Qz c/\Qz c<=25:=by
  simp only[jJ,jy,x9]at si;omega
 have k26:k / 26=0:=by omega
 refine⟨(by show 12<=sizeLine;decide),λp np=>?_⟩;have s1:=J6 np (.lst [V.int 1,.int 3,.int 5,.int 7,.int 9,.int 11,.int 15,.int 17,.int 19,.int 21,.int 23,.int 25]);walk_at "rd";refine .inl ⟨p,_,_,.int (Qz c),rfl,rfl,.of J1,Dc c,?_⟩;walk_at "rd";refine⟨JQ (m:=3) (n:=5) 'c' 'c' 'd',?_⟩;walk_at "rd";refine .inr (.inr ⟨_,_,ltr (c+k*Qz c),rfl,rfl,by decide,sK _,?_⟩);walk_at "rd";refine⟨(by rw[k26];decide),?_⟩;rw[k26];have zl:zro.length<=10:=by decide +kernel
 have big:(1000:Nat)<sizeLine:=by decide
 refine .inr (.inl ⟨_,_,rfl,rfl,(by show 1+zro.length<=sizeLine;omega),?_⟩);walk_at "rd";have nz:=q _ s1;unfold Xo at nz;refine Ji (λh0=>?_) (λh0=>nxt ?_)
 . walk_at "rd";refine⟨(by rw[im];show 1+zro.length<=sizeLine;omega),?_⟩;rw[qj (show ¬25<k by omega)];rw[qh h0,<- Df]at nz;exact nz
 . rw[qg h0]at nz;walk_at "rd";have i7:(c / 1248 % 7).toNat<=6:=by omega
   refine v6 (λi σ H'=>H'=_/\∃cj,σ=[some (.int c),some (.int k),some (.str "abcdefghijklmnopqrstuvwxyz"),some (.int (Qz c)),some (.str ((⟨#[ltr (c+k*Qz c)]⟩:Str)++zro)),some (.int (c / 312 % 4)),some (.str (XR c i)),cj]) ⟨rfl,none,rfl⟩ ?_ ?_
   . rintro i σ H' hi ⟨rfl,cj,rfl⟩;rw[Int.zero_add];have ml:=io c i;walk_at "rd";refine⟨JQ (m:=3) (n:=3) 'c' 'c' 'd',?_⟩;walk_at "rd";refine .inr (.inr ⟨_,_,ltr (c / 7+i*i),rfl,rfl,by decide,sK _,?_⟩);refine .inr (.inl ⟨_,_,rfl,rfl,(by show _+1<=sizeLine;omega),?_⟩);exact⟨rfl,_,rfl⟩
   . rintro σ H' ⟨rfl,cj,rfl⟩;have ml:=io c (c / 1248 % 7).toNat;have pl:((⟨#[ltr (c + k * Qz c)]⟩:Str) ++ zro).length<=11:=by rw[im];show 1 + zro.length<=11;omega
     walk_at "rd";refine Ji (λh1=>?_) (λh1=>nxt ?_)
     . rw[qh h1]at nz;exact⟨_,rfl,_,rfl,.inr (.inl ⟨_,_,rfl,rfl,(by omega),nz⟩)⟩
     . rw[qg h1]at nz;exact⟨_,rfl,_,rfl,.inr (.inl ⟨_,_,rfl,rfl,(by omega),nz⟩)⟩
def hid(A:List xS)(H:Hp):Hp:=λp=>if p∈A then none else H p
def cZ(A:List xS)(H:Hp):Same (hid A H) H:=λb o h=>by
 unfold hid at h;split at h
 . cases h
 . exact h
def ZX(hp:p∉A)(h:H p=some o):hid A H p=some o:=by unfold hid;rw[qg hp];exact h
def YS(s:Same H H'):Same (hid A H) (hid A H'):=λb o e=>by
 unfold hid at e ⊢;split at e
 . cases e
 . rename_i hb;rw[qg hb];exact s b o e
def iq(hp:p∈A):hid A (upd H p o)=hid A H:=funext λb=>by
 unfold hid
 by_cases h:b∈A
 . rw[qh h,qh h]
 . rw[qg h,qg h,xZ (λz:b=p=>h (by rw[z];exact hp))]
def Al(A:List xS)(H:Hp):Prop:=∀a∈A,∃o,H a=some o
def Al.not(h:Al A H)(hp:H p=none):p∉A:=λz=>by
 obtain⟨o,e⟩:=h p z;rw[e]at hp;cases hp
def Al.same(h:Al A H)(e:Same H H'):Al A H':=λa ha=>by
 obtain⟨o,q⟩:=h a ha;exact⟨o,e a o q⟩
def IsA(K:xh)(H0 H:Hp)(dd:D)(x:V):Prop:=∀A,Al A H0->IsD K (hid A H) dd x
theorem IsA.same(h:IsA K H0 H dd x)(s:Same H H'):IsA K H0 H' dd x:=λA a=>(h A a).same (YS s)
def IsA.back(h:IsA K H1 H dd x)(s:Same H0 H1):IsA K H0 H dd x:=λA a=>h A (a.same s)
def Dh(H:Hp):hid [] H=H:=funext λb=>by unfold hid;rw[qg (λz=>nomatch z)]
def IsA.plain(h:IsA K H0 H dd x):IsD K H dd x:=by
 have:=h [] (λ_ z=>nomatch z)
 rwa [Dh]at this
def Qr(s:Same H0 H1)(np:H1 p=none)(h:∀A,Al A H0->IsDs K (hid A H1) ds xs):IsA K H0 (upd H1 p (.tup xs)) (.tup ds) (.ref p):=λA a=>by
 have hp:p∉A:=(a.same s).not np;exact⟨p,xs,rfl,.of (ZX hp J1),(h A a).same (YS (J6 np _))⟩
def Di{ix:xq}{wi:TI}{te:TE}{g:TG}{D:Ends}(h:wi σ H (Q5 ix te σ λx H1=>g x σ H1 D.nx)):QH (Qv ix wi Q7 te) g D σ H:=h
theorem sN{P:V->Prop}:∀{l:List Unit}{ys:List V},Paired (λ_ v=>P v) l ys->(∀y∈ys,P y)/\ys.length=l.length
 |_,_,.nil=>⟨λ_ h=>(nomatch h),rfl⟩
 |_,_,.cons h t=>by
  obtain⟨h1,h2⟩:=sN t;exact⟨λy hy=>(jJ.mp hy).elim (λe=>e ▸ h) (h1 y),by rw[jV,jV,h2]⟩
def sO(P:Hp->V->Prop)(mono:∀{H H':Hp}{v:V},Same H H'->P H v->P H' v)(hz:n<=sizeLine)
 (step:∀(i:Nat) (Da:xS) (H':Hp) (R:VK),i<n->Same H H'->H Da=none->(∃o,H' Da=some o)->(∀y xw,Same H' xw->P (Q8 Da xw) y->R y xw)->te (some (.int (0+(i:Nat)))::cap ix σ) H' R)
 (fin:∀p H' ys,Same H H'->H p=none->H' p=some (.lst ys)->ys.length=n->(∀y∈ys,P H' y)->Q (.ref p) H'):Q5 ix te σ Q (Itr 0 n) H :=
 Yo (α:=Unit) (λH _ v=>P H v) (λs h=>mono s h) n (λi => .int (0+(i:Nat))) (List.replicate n ()) (List.length_replicate ..) hz (λ_ _=>jE _) (λi H' hi sm=>⟨hi,λx xw hy=>⟨hy.2,hy.1⟩⟩) (λi _ Da H' R hi _ sm nD oD hR=>step i Da H' R hi sm nD oD hR)
  λp H' ys s1 np e pr=>by
   obtain⟨h1,h2⟩:=sN pr;exact fin p H' ys s1 np e (by rw[h2,List.length_replicate]) h1
theorem ir:∀{ys:List V},(∀y∈ys,∃n:Int,y=.int n/\lo<=n/\n<=hi)->∃ws:xr,ys=ws.map V.int/\∀w∈ws,lo<=w/\w<=hi
 | [],_=>⟨[],rfl,λ_ h=>(nomatch h)⟩
 |y::ys,h=>by
  obtain⟨n,rfl,n0,n1⟩:=h _ (jO ..);obtain⟨ws,rfl,h1⟩:=ir (ys:=ys) λz hz=>h z (jN _ hz);exact⟨n::ws,rfl,λw hw=>(jJ.mp hw).elim (λe=>e ▸ ⟨n0,n1⟩) (h1 w)⟩
theorem sP:∀{ds:List D}{xs:List V},IsDs K H ds xs->IsDs K H ds.reverse xs.reverse
 | [],_,h=>by rw[show _=[] from h];rfl
 |d::ds,_,⟨x,r,e,h1,h2⟩=>by
  rw[e,List.reverse_cons,List.reverse_cons];exact(sP h2).append ⟨x,[],rfl,h1,rfl⟩
structure Lf (nm:xp) (e:Ex) (h n:Nat):Prop where
 ok:e.ok
 high:e.high<=h
 few:e.rds.length<=n
 sub:∀x∈e.rds,x∈nm
def sQ(K:xh):Sp:=λvs H Q _=>∃(c:Int) (l:xS) (nm:xp),vs=[.int c,.ref l]/\0<=c/\c<2147483629/\SqL K H l (nm.map V.str)/\nm.length<=63/\nm≠[]/\∀(p:xS) (e:Ex) (H':Hp),Same H H'->IsA K H H' (dE e) (.ref p)->Lf nm e 0 1->Q (.ref p) H'
def Dj(B:Bl mg)(F:Fn K mg "_law_leaf" bG ["_law_cell", "_law_names"]):Def P w K mg base "_law_leaf" 1 ["_law_cell", "_law_names"] (sQ K):=by
 refine F.ok B4 (λvs H Q E h=>?_) (λf xu A outer s H vs Q E hr h=>?_)
 . obtain⟨c,l,nm,rfl,_⟩:=h;rfl
 obtain⟨c,l,nm,rfl,c0,c1,ql,l63,hne,q⟩:=h
 refine⟨_,(@J0 _ _ _ _ _ (Je (Jd (Jm.or (Jj.or (Jo.or (Jn K rfl hr.units)))) (J5 Jv (pv 0) xX) xX (J8 _)) (@J0 _ _ _ _ _ (Je (Jd (Jm.or (Jj.or (Jo.or (Jn K rfl hr.units)))) (J5 Jv (J5 JV (pv 0) xX) xX) xX (J8 _)) (@J2 _ _ _ (J7 (Jq (xW Jc (xW (J5 Jv (J5 Yb (pv 0) xX) (J5 Yb xX xX)) xY))))) Jg)
  (@J2 _ _ _ (J7 (Jq (xW Jc (xW (J5 Jv (J5 JV (pv 0) xX) xX) xY)))))) Jg)
  (@J2 _ _ _ (J7 (Jq (xW Jc (xW (J4 (J3 K rfl) (pv 1) (J5 Jv (J5 JV (pv 0) xX) (Q1 (XZ K rfl) rfl B.len PySem.boot_len (xW (pv 1) xY))) (λ_ _=>rfl)) xY)))))),?_⟩
 have num:∀(n:Int) (H1:Hp),Same H H1->∀p,H1 p=none->Q (.ref p) (upd H1 p (.tup [.str "num",.int n])):=λn H1 s1 p np =>
  q p (.num n) _ (s1.trans (J6 np _)) (Qr s1 np λA a=>⟨_,_,rfl,rfl,_,_,rfl,rfl,rfl⟩) ⟨trivial,jE _,jT _,λ_ h=>(nomatch h)⟩
 refine⟨_,rfl,_,_,rfl,rfl,(by show(0:Int)<4;decide),.inl ⟨_,_,rfl,rfl,_,rfl,Ji (λ_=>?_) (λ_=>nxt ?_)⟩⟩
 . refine⟨_,rfl,_,_,rfl,rfl,⟨by decide,by decide⟩,_,_,rfl,rfl,(by show(0:Int) < 8;decide),.inl ⟨_,_,rfl,rfl,_,rfl,Ji (λh=>?_) (λh=>nxt ?_)⟩⟩
   . exact⟨_,rfl,_,_,rfl,rfl,⟨by decide,by decide,by omega⟩,_,_,rfl,rfl,⟨by decide,by decide,by decide⟩,_,_,rfl,rfl,(by show(0:Int)<10 ^ 60;decide),(by show 2<=sizeLine;decide),λp np=>num _ H (Same.refl _) p np⟩
   . exact⟨_,rfl,_,_,rfl,rfl,⟨by decide,by decide⟩,_,_,rfl,rfl,(by show(0:Int)<3;decide),(by show 2<=sizeLine;decide),λp np=>num _ H (Same.refl _) p np⟩
 . have lp:0 < nm.length:=List.length_pos_iff.mpr hne;have i0:=kS (c / 4) (show(nm.length:Int)≠0 by omega);have i1:=kE (c / 4) (show(0:Int) < (nm.length:Int) by omega);obtain⟨j,hj,ej⟩:∃j:Nat,j < nm.length/\c / 4 % (nm.length:Int)=(j:Int):=⟨(c / 4 % (nm.length:Int)).toNat,by omega,by omega⟩
   have at_:atI (nm.map V.str) (c / 4 % ((nm.map V.str).length:Int))=some (.str nm[j]):=by
    rw[jA,ej];exact Qe (by rw[jD,jB hj];rfl)
   have hm:=jX hj;generalize nm[j]=n at at_ hm;refine⟨_,rfl,_,rfl,_,_,rfl,rfl,⟨by decide,by decide⟩,_,rfl,_,_,rfl,Zu ql,_,_,rfl,rfl,(by rw[jA];omega),.inl ⟨l,_,_,.str n,rfl,rfl,ql,at_,(by show 2<=sizeLine;decide),λp np=>?_⟩⟩;exact q p (.nam n) _ (J6 np _) (Qr (Same.refl _) np λA a=>⟨_,_,rfl,rfl,_,_,rfl,rfl,rfl⟩) ⟨trivial,jE _,jE _,λx hx=>by rw[jP.mp hx];exact hm⟩
def Dk(x:Int):∃s:Str,atI [V.str "",.str "not",.str "+",.str "-",.str "<",.str "=",.str "and",.str "or",.str "pick",.str "="] (x / 7 % 10)=some (.str s)/\(s = "" \/ s = "not" \/ s = "pick" \/ ∃g:Sg,g.two=true/\s=g.str):=by
 have h:x / 7 % 10=0\/x / 7 % 10=1\/x / 7 % 10=2\/x / 7 % 10=3\/x / 7 % 10=4\/x / 7 % 10=5\/x / 7 % 10=6\/x / 7 % 10=7\/x / 7 % 10=8\/x / 7 % 10=9:=by omega
 rcases h with h|h|h|h|h|h|h|h|h|h<;>rw[h]
 . exact⟨_,rfl,.inl rfl⟩
 . exact⟨_,rfl,.inr (.inl rfl)⟩
 . exact⟨_,rfl,.inr (.inr (.inr ⟨.add,rfl,rfl⟩))⟩
 . exact⟨_,rfl,.inr (.inr (.inr ⟨.sub,rfl,rfl⟩))⟩
 . exact⟨_,rfl,.inr (.inr (.inr ⟨.lt,rfl,rfl⟩))⟩
 . exact⟨_,rfl,.inr (.inr (.inr ⟨.eq,rfl,rfl⟩))⟩
 . exact⟨_,rfl,.inr (.inr (.inr ⟨.conj,rfl,rfl⟩))⟩
 . exact⟨_,rfl,.inr (.inr (.inr ⟨.disj,rfl,rfl⟩))⟩
 . exact⟨_,rfl,.inr (.inr (.inl rfl))⟩
 . exact⟨_,rfl,.inr (.inr (.inr ⟨.eq,rfl,rfl⟩))⟩
def sR{g:Sg}(h:g.two=true):g.str ≠ "" /\ g.str ≠ "not" /\ g.str ≠ "pick" := by
 cases g<;>first|exact⟨by decide +kernel,by decide +kernel,by decide +kernel⟩|(cases h)
def sS(K:xh):Sp:=λvs H Q _=>∃(c:Int) (l:xS) (nm:xp),vs=[.int c,.ref l]/\SqL K H l (nm.map V.str)/\nm.length<=63/\nm≠[]/\∀(p:xS) (e:Ex) (H':Hp),Same H H'->IsA K H H' (dE e) (.ref p)->Lf nm e 2 3->Q (.ref p) H'
def Dl(x:Int):∃g:Sg,g.two=true/\atI [V.str "+",.str "-",.str "and",.str "<"] (x / 33 % 4)=some (.str g.str):=by
 have h:x / 33 % 4=0\/x / 33 % 4=1\/x / 33 % 4=2\/x / 33 % 4=3:=by omega
 rcases h with h|h|h|h<;>rw[h]
 . exact⟨.add,rfl,rfl⟩
 . exact⟨.sub,rfl,rfl⟩
 . exact⟨.conj,rfl,rfl⟩
 . exact⟨.lt,rfl,rfl⟩
def Dm(B:Bl mg)(Qh:Def P w K mg base "_law_mixed" 1 ["_law_cell", "_law_k"] cX)(YT:Def P w K mg base "_law_leaf" 1 ["_law_cell", "_law_names"] (sQ K))(F:Fn K mg "_law_expression" bH ["_law_cell", "_law_names"]):Def P w K mg base "_law_expression" 2 ["_law_cell", "_law_names"] (sS K):=by
 refine F.ok YB (λvs H Q E h=>?_) (λf xu A outer s H vs Q E hr h=>?_)
 . obtain⟨c,l,nm,rfl,_⟩:=h;rfl
 obtain⟨c,l,nm,rfl,ql,l63,hne,q⟩:=h
 refine⟨_,(@J0 _ _ _ _ _ (Ja (i:=2) YB.nd rfl 'a' (J9 YT hr rfl (xW (J9 Qh hr rfl (xW (pv 0) (xW xX xY))) (xW (pv 1) xY))))
  (@J0 _ _ _ _ _ (Ja (i:=3) YB.nd rfl 'a' (J9 YT hr rfl (xW (J9 Qh hr rfl (xW (pv 0) (xW xX xY))) (xW (pv 1) xY))))
  (@J0 _ _ _ _ _ (Ja (i:=4) YB.nd rfl 'a' (J9 YT hr rfl (xW (J9 Qh hr rfl (xW (pv 0) (xW xX xY))) (xW (pv 1) xY))))
  (@J0 _ _ _ _ _ (@nK _ 5 _ _ _ _ _ _ _ _ _ _ YB.nd rfl rfl (J3 K rfl) (@Jb _ _ _ _ _ Jc (@Jb _ _ _ _ _ Jc (@Jb _ _ _ _ _ Jc (@Jb _ _ _ _ _ Jc (@Jb _ _ _ _ _ Jc (@Jb _ _ _ _ _ Jc (@Jb _ _ _ _ _ Jc (@Jb _ _ _ _ _ Jc (@Jb _ _ _ _ _ Jc (@Jb _ _ _ _ _ Jc xY rfl) rfl) rfl) rfl) rfl) rfl) rfl) rfl) rfl) rfl) (J5 Jv (J5 JV (J9 Qh hr rfl (xW (pv 0) (xW xX xY))) xX) xX) (λ_ _=>rfl))
  (@J0 _ _ _ _ _ (Je (Jd (Jm.or (Jj.or (Jo.or (Jn K rfl hr.units)))) (pv 5) Jc (J8 _)) (@J2 _ _ _ (J7 (pv 2))) Jg)
  (@J0 _ _ _ _ _ (Je (Jd (Jm.or (Jj.or (Jo.or (Jn K rfl hr.units)))) (pv 5) Jc (J8 _)) (@J2 _ _ _ (J7 (Jq (xW Jc (xW (pv 2) xY))))) Jg)
  (@J0 _ _ _ _ _ (Je (Jd (Jm.or (Jj.or (Jo.or (Jn K rfl hr.units)))) (pv 5) Jc (J8 _)) (@J2 _ _ _ (J7 (Jq (xW Jc (xW (pv 2) (xW (pv 3) (xW (pv 4) xY))))))) Jg)
  (@J0 _ _ _ _ _ (Je (Jd (Jm.or (Jj.or (Jo.or (Jn K rfl hr.units)))) (J5 Jv (J5 JV (J9 Qh hr rfl (xW (pv 0) (xW xX xY))) xX) xX) xX (J8 _)) (@J2 _ _ _ (J7 (Jq (xW (pv 5) (xW (pv 2) (xW (Jq (xW (J4 (J3 K rfl) (QB (xW Jc (xW Jc (xW Jc (xW Jc xY))))) (J5 Jv (J5 JV (J9 Qh hr rfl (xW (pv 0) (xW xX xY))) xX) xX) (λ_ _=>rfl)) (xW (pv 3) (xW (pv 4) xY)))) xY)))))) Jg)
  (@J2 _ _ _ (J7 (Jq (xW (pv 5) (xW (pv 2) (xW (pv 3) xY)))))))))))))),?_⟩
 refine⟨_,rfl,c,1,rfl,by decide,by decide,λr r0 r1=>⟨_,rfl,r,l,nm,rfl,r0,r1,ql,l63,hne,λp1 e1 H1 s1 a1 f1=>?_⟩⟩;refine⟨_,rfl,c,2,rfl,by decide,by decide,λr r0 r1=>⟨_,rfl,r,l,nm,rfl,r0,r1,s1.seq ql,l63,hne,λp2 e2 H2 s2 a2 f2=>?_⟩⟩;have s12:=s1.trans s2;refine⟨_,rfl,c,4,rfl,by decide,by decide,λr r0 r1=>⟨_,rfl,r,l,nm,rfl,r0,r1,s12.seq ql,l63,hne,λp4 e4 H4 s4 a4 f4=>?_⟩⟩;have s14:=s12.trans s4;have a1':=(a1.same s2).same s4;have a2':=(a2.back s1).same s4;have a4':=a4.back s12;refine⟨(by show 10<=sizeLine;decide),λp np=>?_⟩;refine⟨_,rfl,c,3,rfl,by decide,by decide,λr r0 r1=>?_⟩;obtain⟨sg,sa,cs⟩:=Dk r;have u:=J6 np (.lst [V.str "",.str "not",.str "+",.str "-",.str "<",.str "=",.str "and",.str "or",.str "pick",.str "="]);have s3:=s14.trans u;have b1:=a1'.same u;have b2:=a2'.same u;have b4:=a4'.same u;refine⟨_,_,rfl,rfl,⟨by decide,by decide⟩,_,_,rfl,rfl,(by show(0:Int)<10;decide),.inl ⟨p,_,_,.str sg,rfl,rfl,.of J1,sa,?_⟩⟩;generalize upd H4 p (.lst [V.str "",.str "not",.str "+",.str "-",.str "<",.str "=",.str "and",.str "or",.str "pick",.str "="])=H3 at s3 b1 b2 b4;clear a1 a2 a4 a1' a2' a4' s1 s2 s12 s4 s14 u np sa;have t1:=f1.few;have t2:=f2.few;have t4:=f4.few;have g1:=f1.high;have g2:=f2.high;have g4:=f4.high;rcases cs with rfl|rfl|rfl|⟨g,gt,rfl⟩
 . refine⟨_,rfl,.inr (.inl ⟨_,_,rfl,rfl,_,rfl,Ji (λ_=>?_) (λc=>absurd rfl c)⟩)⟩;exact⟨_,rfl,q p1 e1 H3 s3 b1 ⟨f1.ok,by omega,by omega,f1.sub⟩⟩
 . refine⟨_,rfl,.inr (.inl ⟨_,_,rfl,rfl,_,rfl,Ji (λc=>absurd c (by decide +kernel)) (λ_=>nxt ?_)⟩)⟩;refine⟨_,rfl,.inr (.inl ⟨_,_,rfl,rfl,_,rfl,Ji (λ_=>?_) (λc=>absurd rfl c)⟩)⟩;refine⟨_,rfl,(by show 2<=sizeLine;decide),λp np=>q p (.un e1) _ (s3.trans (J6 np _)) (Qr s3 np λA a=>⟨_,_,rfl,rfl,_,_,rfl,b1 A a,rfl⟩) ⟨f1.ok,?_,?_,f1.sub⟩⟩
   . show e1.high+1<=2;omega
   . show e1.rds.length<=3;omega
 . refine⟨_,rfl,.inr (.inl ⟨_,_,rfl,rfl,_,rfl,Ji (λc=>absurd c (by decide +kernel)) (λ_=>nxt ?_)⟩)⟩;refine⟨_,rfl,.inr (.inl ⟨_,_,rfl,rfl,_,rfl,Ji (λc=>absurd c (by decide +kernel)) (λ_=>nxt ?_)⟩)⟩;refine⟨_,rfl,.inr (.inl ⟨_,_,rfl,rfl,_,rfl,Ji (λ_=>?_) (λc=>absurd rfl c)⟩)⟩;refine⟨_,rfl,_,rfl,_,rfl,(by show 4<=sizeLine;decide),λp np=>?_⟩;refine q p (.pick e1 e2 e4) _ (s3.trans (J6 np _)) (Qr s3 np λA a=>⟨_,_,rfl,rfl,_,_,rfl,b1 A a,_,_,rfl,b2 A a,_,_,rfl,b4 A a,rfl⟩) ⟨⟨f1.ok,f2.ok,f4.ok⟩,?_,?_,?_⟩
   . show max e1.high (max e2.high e4.high)+1<=2;omega
   . show(e1.rds++(e2.rds++e4.rds)).length<=3;rw[jU,jU];omega
   . exact λx hx=>(je.mp hx).elim (f1.sub x) λhx=>(je.mp hx).elim (f2.sub x) (f4.sub x)
 . obtain⟨n1,n2,n3⟩:=sR gt;refine⟨_,rfl,.inr (.inl ⟨_,_,rfl,rfl,_,rfl,Ji (λc=>absurd c n1) (λ_=>nxt ?_)⟩)⟩;refine⟨_,rfl,.inr (.inl ⟨_,_,rfl,rfl,_,rfl,Ji (λc=>absurd c n2) (λ_=>nxt ?_)⟩)⟩;refine⟨_,rfl,.inr (.inl ⟨_,_,rfl,rfl,_,rfl,Ji (λc=>absurd c n3) (λ_=>nxt ?_)⟩)⟩;refine⟨_,rfl,c,5,rfl,by decide,by decide,λr5 r50 r51=>⟨_,_,rfl,rfl,⟨by decide,by decide⟩,_,_,rfl,rfl,(by show(0:Int) < 3;decide),.inl ⟨_,_,rfl,rfl,_,rfl,Ji (λ_=>?_) (λ_=>nxt ?_)⟩⟩⟩
   . refine⟨_,rfl,_,rfl,(by show 4<=sizeLine;decide),λp np=>?_⟩;refine⟨_,rfl,c,5,rfl,by decide,by decide,λr6 r60 r61=>?_⟩;obtain⟨g',gt',at_⟩:=Dl r6;have u5:=J6 np (.lst [V.str "+",.str "-",.str "and",.str "<"]);refine⟨_,_,rfl,rfl,⟨by decide,by decide⟩,_,_,rfl,rfl,(by show(0:Int) < 4;decide),.inl ⟨p,_,_,.str g'.str,rfl,rfl,.of J1,at_,_,rfl,_,rfl,(by show 3<=sizeLine;decide),λp6 np6=>⟨(by show 3<=sizeLine;decide),λp7 np7=>?_⟩⟩⟩;have s5:=s3.trans u5;have u6:=J6 np6 (.tup [V.str g'.str,.ref p2,.ref p4]);have i6:IsA K H _ (dE (.bi g' e2 e4)) (.ref p6):=Qr s5 np6 λA a=>⟨_,_,rfl,rfl,_,_,rfl,b2.same u5 A a,_,_,rfl,b4.same u5 A a,rfl⟩;refine q p7 (.bi g e1 (.bi g' e2 e4)) _ ((s5.trans u6).trans (J6 np7 _)) (Qr (s5.trans u6) np7 λA a=>⟨_,_,rfl,rfl,_,_,rfl,(b1.same u5).same u6 A a,_,_,rfl,i6 A a,rfl⟩) ⟨⟨gt,f1.ok,gt',f2.ok,f4.ok⟩,?_,?_,?_⟩
     . show max e1.high (max e2.high e4.high+1)+1<=2;omega
     . show(e1.rds++(e2.rds++e4.rds)).length<=3;rw[jU,jU];omega
     . exact λx hx=>(je.mp hx).elim (f1.sub x) λhx=>(je.mp hx).elim (f2.sub x) (f4.sub x)
   . refine⟨_,rfl,_,rfl,_,rfl,(by show 3<=sizeLine;decide),λp np=>q p (.bi g e1 e2) _ (s3.trans (J6 np _)) (Qr s3 np λA a=>⟨_,_,rfl,rfl,_,_,rfl,b1 A a,_,_,rfl,b2 A a,rfl⟩) ⟨⟨gt,f1.ok,f2.ok⟩,?_,?_,?_⟩⟩
     . show max e1.high e2.high+1<=2;omega
     . show(e1.rds++e2.rds).length<=3;rw[jU];omega
     . exact λx hx=>(je.mp hx).elim (f1.sub x) (f2.sub x)
def OcQ(K:xh)(H0 H:Hp)(o:Int×Rat)(y:V):Prop:=∃(c c2:xS),y=.ref c/\H c=some (.tup [.int o.1,.ref c2])/\IsD K H (dF o.2) (.ref c2)/\H0 c=none/\H0 c2=none
def sU(h:IsD K H (dF r) (.ref p))(g:∀o,H p=some o->H' p=some o):IsD K H' (dF r) (.ref p):=by
 obtain⟨p',ys,e,sq,xy⟩:=h
 cases e
 refine⟨p,ys,rfl,?_,?_⟩
 . rcases sq with (h | ⟨o,h⟩) | h
   . exact .inl (.inl (g _ h))
   . exact .inl (.inr ⟨o,g _ h⟩)
   . exact .inr h
 . obtain⟨_,_,rfl,rfl,_,_,rfl,rfl,rfl⟩:=xy;exact⟨_,_,rfl,rfl,_,_,rfl,rfl,rfl⟩
theorem sV:∀{l:List (Int×Rat)}{ys:List V},Paired (OcQ K H0 H) l ys->∀A,Al A H0->IsDs K (hid A H) (dOs l) ys
 | [],_,.nil=>λ_ _=>rfl
 |p::l,_,.cons h t=>by
  obtain⟨c,c2,rfl,h1,h2,n1,n2⟩:=h;exact λA al=>⟨_,_,rfl,⟨c,_,rfl,.of (ZX (al.not n1) h1),_,_,rfl,rfl,_,_,rfl,sU h2 (λo e=>ZX (al.not n2) e),rfl⟩,sV t A al⟩
theorem iu:∀{l:xr}{n:Int},(∀x∈l,0<=x)->n∈l->n<=l.sum
 |a::l,n,h,hn=>by
  have h0:=h a (jO ..)
  have hs:0<=l.sum:=by
   clear hn
   have:∀l:xr,(∀x∈l,0<=x)->0<=l.sum:=λl=>by
    induction l with
    |nil=>intro _;exact Int.le_refl _
    |cons b l ih =>
     intro h;rw[List.sum_cons];have:=h b (jO ..);have:=ih λx hx=>h x (jN _ hx);omega
   exact this l λx hx=>h x (jN _ hx)
  rw[List.sum_cons];rcases jJ.mp hn with e|hn
  . omega
  . have:=iu (λx hx=>h x (jN _ hx)) hn;omega
theorem sW:∀{l:xr},(∀x∈l,x<=hi)->l.sum<=hi*(l.length:Int)
 | [],_=>by simp
 |a::l,h=>by
  have:=h a (jO ..);have:=sW (l:=l) λx hx=>h x (jN _ hx);rw[List.sum_cons,jV];have e:hi*((l.length+1:Nat):Int)=hi*(l.length:Int)+hi:=by push_cast;rw[Int.mul_add,Int.mul_one]
  omega
def Dn{w W:Int}(h0:0<=w)(h1:w<=W)(h2:1<=W)(h3:W<=12):Bd 27720 27720 (Rat.divInt w W):=by
 obtain⟨t,ht,tp⟩:∃t:Int,W*t=27720/\0<t:=by
  have:W=1\/W=2\/W=3\/W=4\/W=5\/W=6\/W=7\/W=8\/W=9\/W=10\/W=11\/W=12:=by omega
  rcases this with rfl|rfl|rfl|rfl|rfl|rfl|rfl|rfl|rfl|rfl|rfl|rfl
  . exact⟨27720,by decide,by decide⟩
  . exact⟨13860,by decide,by decide⟩
  . exact⟨9240,by decide,by decide⟩
  . exact⟨6930,by decide,by decide⟩
  . exact⟨5544,by decide,by decide⟩
  . exact⟨4620,by decide,by decide⟩
  . exact⟨3960,by decide,by decide⟩
  . exact⟨3465,by decide,by decide⟩
  . exact⟨3080,by decide,by decide⟩
  . exact⟨2772,by decide,by decide⟩
  . exact⟨2520,by decide,by decide⟩
  . exact⟨2310,by decide,by decide⟩
 have hw:0<=w*t:=Int.mul_nonneg h0 'c';have hw2:w*t<=27720:=by rw[<- ht];exact Int.mul_le_mul_of_nonneg_right h1 'c'
 refine⟨(w*t).toNat,by omega,?_⟩;rw[Int.toNat_of_nonneg hw,show((27720:Nat):Int)=W*t from ht.symm,Rat.divInt_mul_right 'c']
def prq(st:Int)(ws:xr)(W:Int):List (Int×Rat):=(List.range ws.length).map λk=>(st+(0+(k:Nat)),Rat.divInt (ws.getD k 0) W)
structure OsJ (D0:Nat) (os:List (Int×Rat)):Prop where
 one:1<=os.length
 few:os.length<=3
 bd:∀o∈os,Bd D0 D0 o.2
 pos:∀o∈os,0<o.2
def t5{w W:Int}(h:1<=w)(h2:1<=W):(0:Rat)<Rat.divInt w W:=by
 rw[Rat.divInt_eq_div];refine(Rat.lt_div_iff (by exact_mod_cast (show(0:Int)<W by omega))).mpr ?_;rw[Rat.zero_mul]
 exact_mod_cast (show(0:Int)<w by omega)
def Do{w W:Int}(h0:0<=w)(h1:w<=W)(h2:1<=W):Bd W.toNat W.toNat (Rat.divInt w W):=by
 refine⟨w.toNat,by omega,?_⟩;rw[Int.toNat_of_nonneg h0,Int.toNat_of_nonneg 'c']
def iw(K:xh):Sp:=λvs H Q _=>∃(c m:Int) (b:Bool),vs=[.int c,.int m,.bl b]/\1<=m/\m<=3/\∀(p:xS) (os:List (Int×Rat)) (H':Hp) (D0:Nat),Same H H'->IsA K H H' (.lst (dOs os)) (.ref p)->OsJ D0 os->os.length=m.toNat->D0k D0->(b=false->D0=27720)->Q (.ref p) H'
def Dp(B:Bl mg)(Qh:Def P w K mg base "_law_mixed" 1 ["_law_cell", "_law_k"] cX)(Xp:Def P w K mg base "_law_low" 2 ["_law_top", "_law_bottom"] (cY K))(F:Fn K mg "_law_outcomes" bK ["_law_cell", "_law_many", "_law_far"]):Def P w K mg base "_law_outcomes" 3 ["_law_cell", "_law_many", "_law_far"] (iw K):=by
 refine F.ok Z3 (λvs H Q E h=>?_) (λf xu A outer s H vs Q E hr h=>?_)
 . obtain⟨c,m,b,rfl,_⟩:=h;rfl
 obtain⟨c,m,b,rfl,m1,m6,q⟩:=h;have big:(100000:Nat)<sizeLine:=by decide
 refine⟨_,(@J0 _ _ _ _ _ (Ja (i:=3) Z3.nd rfl 'a' (J5 ag (J5 Jv (J5 JV (pv 0) xX) xX) xX))
  (@J0 _ _ _ _ _ (Je (Jd (Jm.or (Jj.or (Jo.or (Jn K rfl hr.units)))) (J5 Jv (J5 JV (pv 0) xX) xX) xX (J8 _)) (@J2 _ _ _ (Ja (i:=3) Z3.nd rfl 'a' (J5 JP (J5 Jv (J5 Yb (J9 Qh hr rfl (xW (pv 0) (xW xX xY))) xX) (J5 Yb xX xX)) (J5 ag xX (J5 JP xX (J5 Jv (J5 JV (pv 0) xX) xX)))))) Jg)
  (@J0 _ _ _ _ _ (Ja (i:=4) Z3.nd rfl 'a' (QL (CompOk.of (x := "_law_k") (M:=["_law_cell"]) (ix:=[0]) rfl rfl (by decide +kernel) (by decide +kernel) rfl ⟨rfl,trivial⟩ 'e' ⟨⟨rfl,rfl,rfl,rfl⟩,trivial⟩) rfl (by decide +kernel) (Zj rfl B.range (xW (pv 1) xY)) (λ_ _ _ _ _=>Qf) (λ_ _ _ _ _=>(J5 (Jz.or (JH.or (JI.or (JK K rfl)))) xX (J5 Jv (J5 JV (J9 Qh hr rfl (xW (pv 1) (xW (J5 (Jz.or (JH.or (JI.or (JK K rfl)))) xX (pv 0)) xY))) xX) xX)))))
  (@J0 _ _ _ _ _ (Je (Y4 (pv 2)) (@J2 _ _ _ (Ja (i:=4) Z3.nd rfl 'a' (QL (CompOk.of (x := "_law_k") (M:=["_law_cell"]) (ix:=[0]) rfl rfl (by decide +kernel) (by decide +kernel) rfl ⟨rfl,trivial⟩ 'e' ⟨⟨rfl,rfl,rfl,rfl⟩,trivial⟩) rfl (by decide +kernel) (Zj rfl B.range (xW (pv 1) xY)) (λ_ _ _ _ _=>Qf) (λ_ _ _ _ _=>(J5 (Jz.or (JH.or (JI.or (JK K rfl)))) xX (J5 Jv (J9 Qh hr rfl (xW (pv 1) (xW (J5 (Jz.or (JH.or (JI.or (JK K rfl)))) xX (pv 0)) xY))) (J5 Yb xX xX))))))) Jg)
  (@J0 _ _ _ _ _ (Ja (i:=5) Z3.nd rfl 'a' (Q1 (yU K rfl rfl) rfl B.sum PyProof.Rows.boot_sum (xW (pv 4) xY)))
  (@J0 _ _ _ _ _ (fh (j:=6) Z3.nd rfl rfl (CompOk.of (x := "_law_k") (M:=["_law_start", "_law_whole", "_law_weights"]) (ix:=[3,5,4]) rfl rfl (by decide +kernel) (by decide +kernel) rfl ⟨rfl,⟨rfl,⟨rfl,trivial⟩⟩⟩ 'e' ⟨⟨rfl,rfl,rfl,rfl⟩,⟨⟨rfl,rfl,rfl,rfl⟩,⟨⟨rfl,rfl,rfl,rfl⟩,trivial⟩⟩⟩) rfl (by decide +kernel) (Zj rfl B.range (xW (pv 1) xY)) (λ_ _ _ _ _=>Qf) (λ_ _ _ _ _=>(Jq (xW (J5 (Jz.or (JH.or (JI.or (JK K rfl)))) (pv 1) (pv 0)) (xW (J9 Xp hr rfl (xW (J4 (J3 K rfl) (pv 3) (pv 0) (λ_ _=>rfl)) (xW (pv 2) xY))) xY)))))
  (@J0 _ _ _ _ _ (Je (Jd (Jm.or (Jj.or (Jo.or (Jn K rfl hr.units)))) (J5 Jv (J9 Qh hr rfl (xW (pv 0) (xW xX xY))) xX) xX (J8 _)) (@J2 _ _ _ (J7 (yD K rfl rfl rfl B.list PyProof.Rows.boot_list rfl B.reversed PyProof.Rows.boot_reversed (pv 6)))) Jg)
  (@J2 _ _ _ (J7 (pv 6)))))))))),?_⟩
 refine⟨_,rfl,_,_,rfl,rfl,⟨by decide,by decide⟩,_,_,rfl,rfl,(by show(0:Int)<5;decide),_,_,rfl,rfl,?_⟩;refine⟨_,rfl,_,_,rfl,rfl,⟨by decide,by decide⟩,_,_,rfl,rfl,(by show(0:Int)<8;decide),.inl ⟨_,_,rfl,rfl,_,rfl,BO (λσ H'=>H'=H/\∃st:Int,σ=[some (.int c),some (.int m),some (.bl b),some (.int st),none,none,none]) ?_ (λ_ R hR=>?_) (λ_ R hR=>hR _ _ ⟨rfl,_,rfl⟩)⟩⟩
 rotate_left
 . refine⟨_,rfl,c,3,rfl,by decide,by decide,λr r0 r1=>?_⟩;refine⟨_,_,rfl,rfl,⟨by decide,by decide,by omega⟩,_,_,rfl,rfl,⟨by decide,by decide,by decide⟩,_,_,rfl,rfl,(by show(0:Int)<10 ^ 59;decide),?_⟩;have e0:=kS (r ^ Int.toNat 7) (show(10:Int) ^ Int.toNat 59≠0 by decide);have e1:=kE (r ^ Int.toNat 7) (show(0:Int)<10 ^ Int.toNat 59 by decide);generalize r ^ Int.toNat 7 % 10 ^ Int.toNat 59=z at e0 e1;have e2:(10:Int) ^ Int.toNat 59=10 ^ 59:=rfl;rw[e2]at e1;refine⟨_,rfl,_,_,rfl,rfl,⟨by decide,by decide⟩,_,_,rfl,rfl,(by show(0:Int)<2;decide),_,_,rfl,rfl,JQ (m:=3) (n:=3) 'd' 'c' 'd',_,_,rfl,rfl,_,_,rfl,rfl,JQ (m:=200) (n:=3) 'c' 'c' 'd',hR _ _ ⟨rfl,_,rfl⟩⟩
 rintro σ H' ⟨rfl,st,rfl⟩;have mN:m.toNat<=3/\1<=m.toNat:=by omega
 -- weights
 refine aH ⟨_,rfl,m,rfl,by omega,by omega,?_⟩;refine sO (λ_ y=>∃n:Int,y=.int n/\1<=n/\n<=4) (λ_ h=>h) 'c' (λi Da H1 R hi s1 _ _ hR=>?_) (λwa H1 ys s1 nwa ewa lys hys=>?_)
 . refine⟨_,rfl,_,rfl,.inl ⟨_,_,rfl,rfl,c,_,rfl,by omega,by omega,λr r0 r1=>⟨_,_,rfl,rfl,⟨by decide,by decide⟩,_,_,rfl,rfl,(by show(0:Int)<4;decide),.inl ⟨_,_,rfl,rfl,hR _ _ (Same.refl _) ⟨_,rfl,by omega,by omega⟩⟩⟩⟩⟩
 obtain⟨ws,rfl,hws⟩:=ir hys;rw[jA]at lys;dsimp only[Jh];refine rE (λσ H2=>Same H' H2/\∃(wa:xS) (ws:xr) (hi:Int),σ=[some (.int c),some (.int m),some (.bl b),some (.int st),some (.ref wa),none,none]/\H2 wa=some (.lst (ws.map V.int))/\ws.length=m.toNat/\(∀n∈ws,1<=n/\n<=hi)/\1<=hi/\hi<=10 ^ 8/\(b=false->hi=4)) (λR hR=>?_) ?_
 . refine⟨_,rfl,?_⟩
   cases b with
   |false=>exact⟨_,rfl,Xc (hR _ _ ⟨s1,wa,ws,4,rfl,ewa,lys,hws,by decide,by decide,λ_=>rfl⟩)⟩
   |true =>
    refine⟨_,rfl,Xv (Di ⟨_,rfl,m,rfl,by omega,by omega,?_⟩)⟩;refine sO (λ_ y=>∃n:Int,y=.int n/\1<=n/\n<=10 ^ 8) (λ_ h=>h) 'c' (λi Da H1 R hi s1 _ _ hR=>?_) (λwa2 H2 ys2 s2 nwa2 ewa2 lys2 hys2=>?_)
    . refine⟨_,rfl,_,rfl,.inl ⟨_,_,rfl,rfl,c,_,rfl,by omega,by omega,λr r0 r1=>⟨_,_,rfl,rfl,⟨by decide,by decide,by decide⟩,_,_,rfl,rfl,(by show(0:Int) < 10 ^ 8;decide),.inl ⟨_,_,rfl,rfl,hR _ _ (Same.refl _) ⟨_,rfl,?_,?_⟩⟩⟩⟩⟩
      . have:=kS r (show(10:Int) ^ Int.toNat 8≠0 by decide);omega
      . have:=kE r (show(0:Int)<10 ^ Int.toNat 8 by decide);have e:(10:Int) ^ Int.toNat 8=10 ^ 8:=rfl;omega
    obtain⟨ws2,rfl,hws2⟩:=ir hys2;rw[jA]at lys2;exact hR _ _ ⟨s1.trans s2,wa2,ws2,10 ^ 8,rfl,ewa2,lys2,hws2,by decide,by decide,λz=>nomatch z⟩
 clear hws lys ewa nwa s1 hys;rintro σ H1 ⟨s1,wa,ws,hi,rfl,ewa,lws,hws,hi1,hi8,hib⟩;have nwa:True:=trivial
 have s4:ws.sum<=hi*3:=by
  have:=sW (l:=ws) λn hn=>(hws n hn).2;rw[lws]at this;have h3:(m.toNat:Int)<=3:=by omega
  exact Int.le_trans this (Int.mul_le_mul_of_nonneg_left h3 'c')
 have sp:1<=ws.sum:=by
  match ws,lws,hws with
  | [],h,_=>rw[kF]at h;omega
  |a::r,_,hw =>
   have h1:=(hw a (jO ..)).1;have h2:=iu (l:=a::r) (λn hn=>by have:=(hw n hn).1;omega) (jO ..);omega
 refine⟨_,rfl,wa,ws,rfl,.of ewa,(λn hn=>⟨by have:=(hws n hn).1;omega,by have:=(hws n hn).2;omega⟩),by omega,?_⟩;obtain⟨W,eW⟩:∃W,W=ws.sum:=⟨_,rfl⟩;rw[<- eW]at sp s4 ⊢;dsimp only[Jh];refine aH ⟨_,rfl,m,rfl,by omega,by omega,?_⟩;have lp:(prq st ws W).length=m.toNat:=by unfold prq;rw[jA,kP];exact lws
 refine Yo (OcQ K H') (fun {H2 H3 p v} sm ⟨c,c2,h1,h2,h3,h4⟩=>⟨c,c2,h1,sm _ _ h2,h3.same sm,h4⟩) m.toNat (λi => .int (0+(i:Nat))) (prq st ws W) lp 'c' (λ_ _=>jE _) (λi H' hi sm=>⟨hi,λx xw hy=>⟨hy.2,hy.1⟩⟩) (λi pq Da H2 R hi ei s2 nD oD hR=>?_) (λpa H2 ys s2 npa epa prd=>?_)
 . obtain⟨o,eD⟩:=oD;have hi':i < ws.length:=by omega
   have epq:pq=(st+(0+(i:Nat)),Rat.divInt ws[i] W):=by
    unfold prq at ei;rw[jD,List.getElem?_range hi']at ei;have ei:=(Option.some.inj ei).symm;dsimp only at ei;rw[jL,jB hi']at ei;exact ei
   subst epq;have at_:atI (ws.map V.int) (0+(i:Nat))=some (.int ws[i]):=by rw[Int.zero_add];exact Qe (by rw[jD,jB hi'];rfl)
   have hw:=hws _ (jX hi');refine⟨_,rfl,_,rfl,.inl ⟨_,_,rfl,rfl,_,rfl,_,rfl,.inl ⟨wa,_,_,.int ws[i],rfl,rfl,.of (s2 _ _ ewa),at_,_,rfl,ws[i],W,rfl,by omega,by omega,jd (show W.natAbs<=300000000 by omega) (by decide +kernel),λp2 H3 s3 np2 e2=>⟨(by show 2<=sizeLine;decide),λp3 np3=>?_⟩⟩⟩⟩;have s4:=J6 np3 (.tup [V.int (st+(0+(i:Nat))),.ref p2]);have nD2:p2≠Da:=λz=>by rw[z,eD]at np2;cases np2
   have nD3:p3≠Da:=λz=>by rw[z,s3 _ _ eD]at np3;cases np3
   refine hR _ _ (s3.trans s4) ⟨p3,p2,rfl,?_,?_,(s1.trans s2).free (s3.free np3),(s1.trans s2).free np2⟩
   . rw[aS nD3,J1]
   . exact sU (e2.same s4) λo e=>by rw[aS nD2];exact e
 have oz:=sV prd
 have og:∃D0,OsJ D0 (prq st ws W)/\D0k D0/\(b=false->D0=27720):=by
  have each:∀o∈prq st ws W,∃w:Int,o.2=Rat.divInt w W/\1<=w/\w<=W:=λo ho=>by
   unfold prq at ho;obtain⟨i,hi,rfl⟩:=jG.mp ho;have hi:=kh.mp hi;have e:ws.getD i 0=ws[i]:=by rw[jL,jB hi];rfl
   have hm:=jX hi;have hw:=hws _ hm;have:=iu (l:=ws) (λn hn=>by have:=(hws n hn).1;omega) hm;exact⟨ws[i],by show Rat.divInt (ws.getD i 0) W=_;rw[e],by omega,by omega⟩
  cases b with
  |false =>
   have:=hib rfl;refine⟨27720,⟨by omega,by omega,λo ho=>?_,λo ho=>?_⟩,⟨by decide,by decide⟩,λ_=>rfl⟩
   . obtain⟨w,e,h1,h2⟩:=each o ho;rw[e];exact Dn 'c' h2 'c' 'c'
   . obtain⟨w,e,h1,h2⟩:=each o ho;rw[e];exact t5 h1 'c'
  |true =>
   refine⟨W.toNat,⟨by omega,by omega,λo ho=>?_,λo ho=>?_⟩,⟨by omega,by omega⟩,λz=>nomatch z⟩
   . obtain⟨w,e,h1,h2⟩:=each o ho;rw[e];exact Do 'c' h2 'c'
   . obtain⟨w,e,h1,h2⟩:=each o ho;rw[e];exact t5 h1 'c'
 obtain⟨D0,og,d0,db⟩:=og;have npH:H' pa=none:=s1.free npa;generalize prq st ws W=os at oz og lp;refine⟨_,rfl,c,5,rfl,by decide,by decide,λr r0 r1=>⟨_,_,rfl,rfl,(by show(0:Int)<2;decide),.inl ⟨_,_,rfl,rfl,_,rfl,Ji (λ_=>?_) (λ_=>nxt ?_)⟩⟩⟩
 . refine⟨_,rfl,pa,_,rfl,.of epa,λl nl=>?_⟩;have sL:=J6 nl (.lst ys.reverse);exact q l os.reverse _ D0 ((s1.trans s2).trans sL) (λA al=>⟨l,_,rfl,.of (ZX (al.not ((s1.trans s2).free nl)) J1),by unfold dOs;rw[List.map_reverse];exact(sP (oz A al)).same (YS sL)⟩) ⟨by rw[List.length_reverse];exact og.one,by rw[List.length_reverse];exact og.few,λo ho=>og.bd o (List.mem_reverse.mp ho),λo ho=>og.pos o (List.mem_reverse.mp ho)⟩ (by rw[List.length_reverse];exact lp) d0 db
 . exact⟨_,rfl,q pa os _ D0 (s1.trans s2) (λA al=>⟨pa,_,rfl,.of (ZX (al.not npH) epa),oz A al⟩) og lp d0 db⟩
def iy:Sp:=λvs H Q _=>∃(g:Sg) (a b:Int),vs=[.str g.str,.int a,.int b]/\g.two=true/\Q (.int (rkL g [a,b])) H
def Dq(B:Bl mg)(F:Fn K mg "_law_by_two" bJ ["_law_sign", "_law_here", "_law_there"]):Def P w K mg base "_law_by_two" 1 ["_law_sign", "_law_here", "_law_there"] iy:=by
 refine F.ok B5 (λvs H Q E h=>?_) (λf xu A outer s H vs Q E hr h=>?_)
 . obtain⟨g,a,b,rfl,_⟩:=h;rfl
 obtain⟨g,a,b,rfl,ht,q⟩:=h
 refine⟨_,(@J0 _ _ _ _ _ (Je (Jd (Jm.or (Jj.or (Jo.or (Jn K rfl hr.units)))) (pv 0) Jc (J8 _)) (@J2 _ _ _ (J7 (J5 (Jz.or (JH.or (JI.or (JK K rfl)))) (pv 1) (pv 2)))) Jg)
  (@J0 _ _ _ _ _ (Je (Jd (Jm.or (Jj.or (Jo.or (Jn K rfl hr.units)))) (pv 0) Jc (J8 _)) (@J2 _ _ _ (J7 (J5 ag (pv 1) (pv 2)))) Jg)
  (@J0 _ _ _ _ _ (Je (Jd (Jm.or (Jj.or (Jo.or (Jn K rfl hr.units)))) (pv 0) Jc (J8 _)) (@J2 _ _ _ (J7 (JU Zk rfl B.int PyProof.Rows.boot_int (xW (Qb Yc (pv 1) (pv 2) (J8 _)) xY)))) Jg)
  (@J0 _ _ _ _ _ (Je (Jd (Jm.or (Jj.or (Jo.or (Jn K rfl hr.units)))) (pv 0) Jc (J8 _)) (@J2 _ _ _ (J7 (JU Zk rfl B.int PyProof.Rows.boot_int (xW (Qb (Jm.or (Jj.or (Jo.or (Jn K rfl hr.units)))) (pv 1) (pv 2) (J8 _)) xY)))) Jg)
  (@J0 _ _ _ _ _ (Je (Jd (Jm.or (Jj.or (Jo.or (Jn K rfl hr.units)))) (pv 0) Jc (J8 _)) (@J2 _ _ _ (J7 (JU Zk rfl B.int PyProof.Rows.boot_int (xW (eh (Qb (QE.or (Qk.or (QW.or (Ql K rfl hr.units)))) (pv 1) xX (J8 _)) (Y5 (Qb (QE.or (Qk.or (QW.or (Ql K rfl hr.units)))) (pv 2) xX (J8 _)))) xY)))) Jg)
  (@J2 _ _ _ (J7 (JU Zk rfl B.int PyProof.Rows.boot_int (xW (lG (Qb (QE.or (Qk.or (QW.or (Ql K rfl hr.units)))) (pv 1) xX (J8 _)) (Y5 (Qb (QE.or (Qk.or (QW.or (Ql K rfl hr.units)))) (pv 2) xX (J8 _)))) xY))))))))),?_⟩
 cases g with
 |neg=>cases ht
 |pick=>cases ht
 |add =>
  walk_at "rd";exact q
 |sub =>
  walk_at "rd";exact q
 |lt =>
  walk_at "rd";exact q
 |eq =>
  walk_at "rd";exact q
 |conj =>
  walk_at "rd";refine QF (λc=>?_) (λc=>?_)
  . have e:rkL .conj [a,b]=b2n (!decide (b=0)):=by show b2n (decide (a≠0) && decide (b≠0))=_;rw[rB,qi c,Bool.true_and]
    rw[e]at q;exact⟨_,rfl,.inl ⟨_,_,rfl,rfl,.inr ⟨_,rfl,q⟩⟩⟩
  . have e:rkL .conj [a,b]=b2n false:=by show b2n (decide (a≠0) && decide (b≠0))=_;rw[qj (λh:a≠0=>h c),Bool.false_and]
    rw[e]at q;exact .inr ⟨false,rfl,q⟩
 |disj =>
  walk_at "rd";refine QF (λc=>?_) (λc=>?_)
  . have e:rkL .disj [a,b]=b2n true:=by show b2n (decide (a≠0) || decide (b≠0))=_;rw[qi c,Bool.true_or]
    rw[e]at q;exact .inr ⟨true,rfl,q⟩
  . have e:rkL .disj [a,b]=b2n (!decide (b=0)):=by show b2n (decide (a≠0) || decide (b≠0))=_;rw[rB,qj (λh:a≠0=>h c),Bool.false_or]
    rw[e]at q;exact⟨_,rfl,.inl ⟨_,_,rfl,rfl,.inr ⟨_,rfl,q⟩⟩⟩
def Dr(d:Nat)(B:Bl mg)(F:Fn K mg "_law_worth" Yx ["_law_e", "_law_book"])(ZY:Def P w K mg base "_law_by_two" 1 ["_law_sign", "_law_here", "_law_there"] iy)(ZZ:Def P w K mg base "_law_worth" (d+2) ["_law_e", "_law_book"] (XN K d)):Def P w K mg base "_law_worth" (d+3) ["_law_e", "_law_book"] (XN K (d+1)):=by
 have hjk:d+2<=d+2:=jE _;have hj_l_by_two:1<=d+2:=by omega
 refine F.ok gh (λvs H Q E h=>?_) (λf xu A outer s H vs Q E hr h=>?_)
 . obtain⟨e,x,pb,kvs,ρ,rfl,_⟩:=h;rfl
 obtain⟨e,x,pb,kvs,ρ,rfl,ho,hv,hh,dx,hB,q⟩:=h
 refine⟨_,(@J0 _ _ _ _ _ (Je (Jd (Jm.or (Jj.or (Jo.or (Jn K rfl hr.units)))) (J4 (J3 K rfl) (pv 0) xX (λ_ _=>rfl)) Jc (J8 _)) (@J2 _ _ _ (J7 (J4 (J3 K rfl) (pv 0) xX (λ_ _=>rfl)))) Jg)
  (@J0 _ _ _ _ _ (Je (Jd (Jm.or (Jj.or (Jo.or (Jn K rfl hr.units)))) (J4 (J3 K rfl) (pv 0) xX (λ_ _=>rfl)) Jc (J8 _)) (@J2 _ _ _ (J7 (Yi (QV hr) (pv 1) (J4 (J3 K rfl) (pv 0) xX (λ_ _=>rfl)) (λ_ _=>rfl)))) Jg)
  (@J0 _ _ _ _ _ (fh (j:=2) gh.nd rfl rfl (CompOk.of (x := "_law_one") (M:=["_law_book"]) (ix:=[1]) rfl rfl (by decide +kernel) (by decide +kernel) rfl ⟨rfl,trivial⟩ 'e' ⟨⟨rfl,rfl,rfl,rfl⟩,trivial⟩) rfl (by decide +kernel) (Y7 (QT ((Xw K rfl).or (Xx K rfl)) (pv 0) (QJ xX) X2)) (λ_ _ _ _ _=>Qf) (λ_ _ _ _ _=>(J9 ZZ hr rfl (xW (pv 0) (xW (pv 1) xY)) (hjk:=hjk))))
  (@J0 _ _ _ _ _ (Je (Jd (Jm.or (Jj.or (Jo.or (Jn K rfl hr.units)))) (J4 (J3 K rfl) (pv 0) xX (λ_ _=>rfl)) Jc (J8 _)) (@J2 _ _ _ (J7 (JU Zk rfl B.int PyProof.Rows.boot_int (xW (Qb (Jm.or (Jj.or (Jo.or (Jn K rfl hr.units)))) (J4 (J3 K rfl) (pv 2) xX (λ_ _=>rfl)) xX (J8 _)) xY)))) Jg)
  (@J0 _ _ _ _ _ (Je (Jd (Jm.or (Jj.or (Jo.or (Jn K rfl hr.units)))) (J4 (J3 K rfl) (pv 0) xX (λ_ _=>rfl)) Jc (J8 _)) (@J2 _ _ _ (J7 (XW (Jd (QE.or (Qk.or (QW.or (Ql K rfl hr.units)))) (J4 (J3 K rfl) (pv 2) xX (λ_ _=>rfl)) xX (J8 _)) (J4 (J3 K rfl) (pv 2) xX (λ_ _=>rfl)) (J4 (J3 K rfl) (pv 2) xX (λ_ _=>rfl))))) Jg)
  (@J2 _ _ _ (J7 (J9 ZY hr rfl (xW (J4 (J3 K rfl) (pv 0) xX (λ_ _=>rfl)) (xW (J4 (J3 K rfl) (pv 2) xX (λ_ _=>rfl)) (xW (J4 (J3 K rfl) (pv 2) xX (λ_ _=>rfl)) xY))) (hjk:=hj_l_by_two))))))))),?_⟩
 rcases Ex.node ρ _ e ho hv with ⟨n,rfl⟩|⟨n,rfl⟩|⟨sg,cs,ed,ee,hl,hc⟩
 . obtain⟨t,xs,rfl,qt,_,_,rfl,rfl,_,_,rfl,rfl,rfl⟩:=dx;walk_at "rd";exact q H (Same.refl _)
 . obtain⟨t,xs,rfl,qt,_,_,rfl,rfl,_,_,rfl,rfl,rfl⟩:=dx;walk_at "rd";have e:some (V.int (ρ n))=Jr kvs (.inr n):=Eq.symm hv;exact⟨pb,_,rfl,.inl ⟨kvs,.inr n,.inl hB,rfl,e⟩,q H (Same.refl _)⟩
 . rw[ed]at dx;obtain⟨t,xs,rfl,qt,y,ys,rfl,ey,dys⟩:=dx;obtain rfl:y = .str sg.str:=ey;have xD:atI (.str sg.str :: ys) 0=some (.str sg.str):=Qe (j:=0) rfl;refine⟨_,rfl,.inr (.inl ⟨t,_,_,_,rfl,rfl,qt,xD,.inr (.inl ⟨_,_,rfl,rfl,_,rfl,Ji (λc=>absurd c (gq sg)) λ_=>nxt ?_⟩)⟩)⟩;refine⟨_,rfl,.inr (.inl ⟨t,_,_,_,rfl,rfl,qt,xD,.inr (.inl ⟨_,_,rfl,rfl,_,rfl,Ji (λc=>absurd c (gv sg)) λ_=>nxt ?_⟩)⟩)⟩
   have one:¬(HT.sIx (V.str sg.str::ys).length 0 (some 1)=0/\HT.sIx (V.str sg.str::ys).length (V.str sg.str::ys).length none=(V.str sg.str::ys).length):=λh=>by
    have:=h.1;simp[HT.sIx]at this
   dsimp only;refine aH ⟨_,rfl,_,rfl,.inr ⟨t,_,rfl,qt,one,λp1 hp1=>⟨p1,rfl,⟨_,.of J1⟩,?_⟩⟩⟩;have ecut:JB (V.str sg.str::ys) (some 1) none=ys:=aF _ 1;rw[ecut];have s1:Same H (upd H p1 (.tup ys)):=J6 hp1 _;have yl:=dys.length;rw[jA]at yl;have lm:cs.length<=3:=by rw[hl];cases sg<;>decide
   refine Ym (K:=K) (xs:=ys) ((cs.map (ev ρ)).map D.int) (.of J1) (by simp[yl]) (by rw[yl];exact kG (XX 'c')) (Xd _) (λi x z H' R hx hd sm hR=>?_) (λp2 H2 zs sm2 e2 dz=>?_)
   . have hi:i < cs.length:=by have:=(jF.mp hx).1;omega
     obtain⟨y,ey,dy⟩:=dys.get (i:=i) (d:=dE cs[i]) (by rw[jD,jB hi];rfl);obtain rfl:x=y:=by rw[hx]at ey;exact Option.some.inj ey
     rw[jD,jD,jB hi]at hd;obtain rfl:z=D.int (ev ρ cs[i]):=(Option.some.inj hd).symm;obtain⟨c1,c2,c3⟩:=hc _ (jX hi);exact⟨_,rfl,_,rfl,cs[i],x,pb,kvs,ρ,rfl,c1,c2,by omega,dy.same (s1.trans sm),(s1.trans sm) _ _ hB,λxw sm''=>hR _ _ sm'' rfl⟩
   . rw[QX dz]at e2;have q2:=q _ (s1.trans sm2);rw[ee]at q2;have qt2:=(s1.trans sm2).tupq qt;have hl2:(cs.map (ev ρ)).length=sg.many:=by rw[jA];exact hl
     generalize cs.map (ev ρ)=ns at e2 q2 hl2;dsimp only[Jh,List.set,L2.JD];clear hc dys hh ed
     by_cases ht:sg.two=true
     . obtain⟨_,n2,n3⟩:=sR ht;have m2:sg.many=2:=by cases sg<;>first | rfl | cases ht
       obtain⟨a,b,rfl⟩:=QZ (hl2.trans m2);refine⟨_,rfl,.inr (.inl ⟨t,_,_,_,rfl,rfl,qt2,xD,.inr (.inl ⟨_,_,rfl,rfl,_,rfl,Ji (λc=>absurd c n2) (λ_=>nxt ?_)⟩)⟩)⟩;refine⟨_,rfl,.inr (.inl ⟨t,_,_,_,rfl,rfl,qt2,xD,.inr (.inl ⟨_,_,rfl,rfl,_,rfl,Ji (λc=>absurd c n3) (λ_=>nxt ?_)⟩)⟩)⟩;exact⟨_,rfl,.inr (.inl ⟨t,_,_,_,rfl,rfl,qt2,xD,_,rfl,.inl ⟨p2,_,_,.int a,rfl,rfl,.of e2,rfl,_,rfl,.inl ⟨p2,_,_,.int b,rfl,rfl,.of e2,rfl,sg,a,b,rfl,ht,q2⟩⟩⟩)⟩
     . cases sg with
       |neg =>
        match ns,hl2 with
        | [a],_ =>
         refine⟨_,rfl,.inr (.inl ⟨t,_,_,_,rfl,rfl,qt2,xD,.inr (.inl ⟨_,_,rfl,rfl,_,rfl,Ji (λ_=>?_) (λc=>absurd rfl c)⟩)⟩)⟩;exact⟨_,rfl,.inl ⟨p2,_,_,.int a,rfl,rfl,.of e2,rfl,.inl ⟨_,_,rfl,rfl,.inr ⟨_,rfl,q2⟩⟩⟩⟩
       |pick =>
        match ns,hl2 with
        | [a,b,c],_ =>
         refine⟨_,rfl,.inr (.inl ⟨t,_,_,_,rfl,rfl,qt2,xD,.inr (.inl ⟨_,_,rfl,rfl,_,rfl,Ji (λc=>absurd c (by decide +kernel)) (λ_=>nxt ?_)⟩)⟩)⟩;refine⟨_,rfl,.inr (.inl ⟨t,_,_,_,rfl,rfl,qt2,xD,.inr (.inl ⟨_,_,rfl,rfl,_,rfl,Ji (λ_=>?_) (λc=>absurd rfl c)⟩)⟩)⟩;refine⟨_,rfl,.inl ⟨p2,_,_,.int a,rfl,rfl,.of e2,rfl,.inl ⟨_,_,rfl,rfl,_,rfl,QF (λz=>?_) (λz=>?_)⟩⟩⟩
         . rw[show rkL .pick [a,b,c]=b from qh z]at q2;exact⟨_,rfl,.inl ⟨p2,_,_,.int b,rfl,rfl,.of e2,rfl,q2⟩⟩
         . rw[show rkL .pick [a,b,c]=c from qg (λh=>h z)]at q2;exact⟨_,rfl,.inl ⟨p2,_,_,.int c,rfl,rfl,.of e2,rfl,q2⟩⟩
       |add=>exact absurd rfl ht
       |sub=>exact absurd rfl ht
       |lt=>exact absurd rfl ht
       |eq=>exact absurd rfl ht
       |conj=>exact absurd rfl ht
       |disj=>exact absurd rfl ht
theorem t6(B:Bl mg)(F:Fn K mg "_law_worth" Yx ["_law_e", "_law_book"])(ZY:Def P w K mg base "_law_by_two" 1 ["_law_sign", "_law_here", "_law_there"] iy):∀d,Def P w K mg base "_law_worth" (d+2) ["_law_e", "_law_book"] (XN K d)
 |0=>by
  refine F.ok gh (λvs H Q E h=>?_) (λf xu A outer s H vs Q E hr h=>?_)
  . obtain⟨e,x,pb,kvs,ρ,rfl,_⟩:=h;rfl
  . obtain⟨e,x,pb,kvs,ρ,rfl,_,_,hh,_⟩:=h;exact absurd hh (Nat.not_lt_zero _)
 |d+1=>Dr d B F ZY (t6 B F ZY d)
def EntQ(K:xh)(H:Hp)(p:K2×Rat)(e:KE):Prop:=p.1=e.1/\IsD K H (dF p.2) e.2.2
abbrev KR:=K2×Rat
def Xq(L:List KR)(k:K2)(x:Rat):List KR:=if (L.any λp=>decide (p.1=k))=true then L.map λp=>if p.1=k then(p.1,p.2+x) else p else L++[(k,x)]
def Jt(ql:List (Key×Int)):K2:=ql.map λp => .inr [p.1,.inl p.2]
theorem t7:∀{a b:Key},kLt a b=true->kLt b a=true->False
 |.inl i,.inl j,h1,h2=>by
  have h1:=qm h1;have h2:=qm h2;omega
 |.inr _,.inr _,h1,h2=>List.lt_irrefl _ (List.lt_trans (qm h1) (qm h2))
theorem iz(k:K2):∀{L:List KR}{ks:List KE},Paired (EntQ K H) L ks->(Jw ks k=none/\∀p∈L,p.1≠k)\/∃r v,Jw ks k=some v/\IsD K H (dF r) v/\∃p∈L,p.1=k/\p.2=r/\∀q∈L,q.1=k->(L.map (·.1)).Nodup->q.2=r
 |_,_,.nil => .inl ⟨rfl,λ_ h=>nomatch h⟩
 |p::L,e::ks,.cons h t=>by
  unfold Jw;rw[jv,<- h.1]
  by_cases c:p.1=k
  . rw[qi c];refine .inr ⟨p.2,e.2.2,rfl,h.2,p,jO,c,rfl,λq hq eq nd=>?_⟩;rcases jJ.mp hq with rfl | hq
    . rfl
    . rw[jM,jm]at nd;exact absurd (jG.mpr ⟨q,hq,eq.trans c.symm⟩) nd.1
  . rw[qj c];rcases iz k t with ⟨h1,h2⟩ | ⟨r,v,h1,h2,q,hq,h3,h4,h5⟩
    . exact .inl ⟨h1,λx hx=>(jJ.mp hx).elim (λz=>z ▸ c) (h2 x)⟩
    . refine .inr ⟨r,v,h1,h2,q,jN _ hq,h3,h4,λx hx ex nd=>?_⟩;rw[jM,jm]at nd;rcases jJ.mp hx with rfl | hx
      . exact absurd ex c
      . exact h5 x hx ex nd.2
theorem Ze:∀{L:List KR}{ks:List KE},Paired (EntQ K H) L ks->L.map (·.1)=ks.map (·.1)
 |_,_,.nil=>rfl
 |_,_,.cons h t=>by rw[jM,jM,Ze t,h.1]
theorem JY(m:∀r v,IsD K H (dF r) v->IsD K H' (dF r) v):∀{L:List KR}{ks:List KE},Paired (EntQ K H) L ks->Paired (EntQ K H') L ks
 |_,_,.nil => .nil
 |_,_,.cons h t => .cons ⟨h.1,m _ _ h.2⟩ (JY m t)
theorem t8{k:K2}{v:V}{z:Rat}(d:IsD K H (dF z) v){f:KR->KR}:∀{L:List KR}{ks:List KE},Paired (EntQ K H) L ks->(∀p∈L,p.1=k->f p=(p.1,z))->(∀p∈L,p.1≠k->f p=p)->Paired (EntQ K H) (L.map f) (ks.map λp=>if p.1=k then(p.1,p.2.1,v) else p)
 |_,_,.nil,_,_ => .nil
 |p::L,e::ks,.cons h t,h1,h2=>by
  rw[jM,jM];refine .cons ?_ (t8 d t (λp hp=>h1 p (jN _ hp)) λp hp=>h2 p (jN _ hp))
  by_cases c:p.1=k
  . rw[h1 p jO c,qh (by rw[<- h.1];exact c)];exact⟨h.1,d⟩
  . rw[h2 p jO c,qg (by rw[<- h.1];exact c)];exact h
theorem t9{p:KR}{e:KE}(h:EntQ K H p e):∀{L:List KR}{ks:List KE},Paired (EntQ K H) L ks->Paired (EntQ K H) (L++[p]) (ks++[e])
 |_,_,.nil => .cons h .nil
 |_,_,.cons h1 t => .cons h1 (t9 h t)
def Ds{k:K2}{v:V}{x:Rat}{L:List KR}{ks:List KE}(q:Paired (EntQ K H) L ks)(nd:(ks.map (·.1)).Nodup)(d:∀r,((Jw ks k=none/\r=0)\/∃u,Jw ks k=some u/\∃p∈L,p.1=k/\p.2=r)->IsD K H (dF (r+x)) v) :
 Paired (EntQ K H) (Xq L k x) (Qn ks k a v):=by
 rcases iz k q with ⟨h1,h2⟩|⟨r,u,h1,h2,p,hp,h3,h4,h5⟩
 . unfold Xq Qn;rw[qg (λz=>by obtain⟨p,hp,e⟩:=kB.mp z;exact h2 p hp (qm e)),h1,qg 'f'];have:=d 0 (.inl ⟨h1,rfl⟩);rw[Rat.zero_add]at this;exact t9 ⟨rfl,this⟩ q
 . unfold Xq Qn;rw[qh (kB.mpr ⟨p,hp,qi h3⟩),h1,qh (show(some u).isSome=true from rfl)];rw[<- Ze q]at nd;refine t8 (d r (.inr ⟨u,h1,p,hp,h3,h4⟩)) q (λg hg eg=>?_) λg hg ng=>?_
   . rw[qh eg,h5 g hg eg nd]
   . rw[qg ng]
theorem tf:∀{ql:List (Key×Int)}{xs:List V},'h'=ql.length->(∀(i:Nat) (x:V) (kv:Key×V),xs[i]?=some x->(ql.map λp=>(p.1,V.int p.2))[i]?=some kv->Qw H x kv)->Paired (kiAt H) (Jt ql) xs
 | [],[],_,_ => .nil
 |p::ql,x::xs,hl,h=>by
  refine .cons ?_ (tf (by simpa using hl) λi x kv e1 e2=>h (i+1) x kv (by simpa using e1) (by simpa using e2));obtain⟨c,e,hc⟩:=h 0 x (p.1,.int p.2) rfl rfl;exact⟨c,e,hc⟩
def Y0(K:xh)(w:xU):Sp:=λvs H Q _=>∃(d b p:xS) (ks:List KE) (L:List KR) (kvs:List (Key×V)) (ql:List (Key×Int)) (T:String) (x y:Int),vs=[.ref d,.ref b,.ref p]/\D2 w H d none ks/\Paired (EntQ K H) L ks/\H b=some (.dK kvs)/\(ql.map λp=>(p.1,V.int p.2)).Perm kvs/\ql.Pairwise (λp q=>kLt p.1 q.1=true)/\(∀kv∈kvs,kTy kv.1=T)/\(∀q∈ql,ZC q.1=true)/\kvs.length<64 /\
 SqT K H p [.int x,.int y]/\0<=x/\0<y/\x.natAbs<2 ^ 4000/\y.natAbs<2 ^ 4000/\(∀g∈L,sz g.2/\0<=g.2.num)/\ks.length<1000 /\
 ∀(H':Hp) (xE:List KE),SmA d H H'->D2 w H' d none xE->Paired (EntQ K H') (Xq L (Jt ql) (Rat.divInt x y)) xE->Q .non H'
def Dt(B:Bl mg)(Xp:Def P w K mg base "_law_low" 2 ["_law_top", "_law_bottom"] (cY K))(F:Fn K mg "_law_add" bL ["_law_now", "_law_book", "_law_part"]):Def P w K mg base "_law_add" 3 ["_law_now", "_law_book", "_law_part"] (Y0 K w):=by
 refine F.ok cn (λvs H Q E h=>?_) (λf xu A outer s H vs Q E hr h=>?_)
 . obtain⟨d,b,p,ks,L,kvs,ql,T,x,y,rfl,_⟩:=h;rfl
 obtain⟨d,b,p,ks,L,kvs,ql,T,x,y,rfl,dd,pr,hb,pm,pw,hom,okq,few,qp,x0,y0,xz,yz,zL,k10,q⟩:=h
 refine⟨_,(@J0 _ _ _ _ _ (Ja (i:=3) cn.nd rfl 'a' (JU (nH K rfl) rfl B.tuple PyProof.Rows.boot_tuple (xW (AU rfl (ZB hr) rfl B.sorted PyProof.Rows.boot_sorted (pv 1)) xY)))
  (@J0 _ _ _ _ _ (uS (AB w rfl (Qx hr) (pv 0) (pv 3) (Jq (xW xX (xW xX xY))) ⟨rfl,rfl,rfl,rfl⟩) (Xb rfl (JZ (Ju (i:=4) cn.nd rfl 'a') (JZ (Ju (i:=5) cn.nd rfl 'a') Xa))))
  (@J2 _ _ _ (Ay w rfl (Qx hr) (pv 0) (pv 3) (J9 Xp hr rfl (xW (J5 (Jz.or (JH.or (JI.or (JK K rfl)))) (J5 JP (pv 4) (J4 (J3 K rfl) (pv 2) xX (λ_ _=>rfl))) (J5 JP (J4 (J3 K rfl) (pv 2) xX (λ_ _=>rfl)) (pv 5))) (xW (J5 JP (pv 5) (J4 (J3 K rfl) (pv 2) xX (λ_ _=>rfl))) xY))) rfl)))),?_⟩
 have big:(10000:Nat)<sizeLine:=by decide
 refine⟨_,rfl,b,kvs,T,rfl,hb,few,hom,λH1 l qs xs pmq pwq s1 fl el xl pa=>?_⟩;have eq:qs=ql.map λp=>(p.1,V.int p.2):=List.Perm.eq_of_pairwise (λ_ _ _ _ h1 h2=>(t7 h1 h2).elim) pwq (by rw[jq];exact pw) (pmq.trans pm.symm);subst eq;refine⟨l,xs,rfl,.of el,λt o ft od=>?_⟩;have s2:=J6 ft (.frz o (.tup xs));have zt:TupZ (upd H1 t (.frz o (.tup xs))) t xs:=⟨o,J1,od⟩;dsimp only[Jh,List.set,L2.JD];generalize upd H1 t (.frz o (.tup xs))=H2 at s2 zt ⊢;have s12:=s1.trans s2
 have kt:K2At H2 (Jt ql) t:=⟨xs,zt,tf (by rw[xl,jA]) (λi x kv e1 e2=>by
  obtain⟨c,h1,h2⟩:=pa i x kv e1 e2
  exact⟨c,h1,s2 _ _ h2⟩),List.all_eq_true.mpr λk hk=>by
   obtain⟨g,hg,rfl⟩:=jG.mp hk;show [g.1,Sum.inl g.2].all ZC=true;rw[List.all_cons,okq g hg];rfl⟩
 refine⟨_,rfl,d,rfl,⟨none,ks,dd.same s12⟩,_,rfl,by show 2<=sizeLine;decide,λdp fp=>?_⟩;have s3:=J6 fp (.tup [V.int 0,.int 1]);have ep:(upd H2 dp (.tup [V.int 0,.int 1])) dp=some (.tup [V.int 0,.int 1]):=J1;generalize upd H2 dp (.tup [V.int 0,.int 1])=H3 at s3 ep ⊢;have s13:=s12.trans s3;have dd3:=dd.same s13;have pr3:Paired (EntQ K H3) L ks:=JY (λr v h=>h.same s13) pr;have kt3:K2At H3 (Jt ql) t:=kt.same (λb xs e=>s3 _ _ e) λb xs e=>e.same s3;refine⟨t,none,ks,Jt ql,rfl,dd3,kt3,?_⟩
 obtain⟨r,v,ev,dw,rl,rr⟩:∃(r:Rat) (v:V),(Jw ks (Jt ql)).getD (.ref dp)=v/\IsD K H3 (dF r) v/\(sz r/\0<=r.num)/\∀r',((Jw ks (Jt ql)=none/\r'=0)\/∃u,Jw ks (Jt ql)=some u/\∃p∈L,p.1=Jt ql/\p.2=r')->r'=r:=by
  rcases iz (Jt ql) pr3 with ⟨h1,h2⟩|⟨r,v,h1,h2,g,hg,h3,h4,h5⟩
  . refine⟨0,.ref dp,by rw[h1];rfl,⟨dp,_,rfl,.of ep,_,_,rfl,rfl,_,_,rfl,rfl,rfl⟩,⟨⟨Nat.pow_pos 'd',Nat.one_lt_two_pow 'd'⟩,by decide⟩,λr' h=>?_⟩;rcases h with ⟨_,h⟩ | ⟨u,h,_⟩
    . exact h
    . rw[h1]at h;cases h
  . refine⟨r,v,by rw[h1];rfl,h2,by rw[<- h4];exact zL g hg,λr' h=>?_⟩;rcases h with ⟨h,_⟩ | ⟨u,_,g',hg',e1,e2⟩
    . rw[h1]at h;cases h
    . rw[<- e2];exact h5 g' hg' e1 (by rw[Ze pr3];exact dd.nd)
 rw[ev];obtain⟨wp,rfl,sw⟩:=JS dw;refine⟨wp,_,rfl,sw,rfl,_,_,rfl,_,_,rfl,rfl,?_⟩;obtain⟨⟨zn,zd⟩,rn0⟩:=rl;have zdI:((r.den:Nat):Int).natAbs<2 ^ 2000:=by rw[kq];exact zd
 have rdp:(0:Int)<(r.den:Int):=by have:=r.den_pos;omega
 have qp3:=s13.tupq qp;refine⟨_,rfl,_,rfl,.inr (.inl ⟨p,_,1,.int y,rfl,rfl,qp3,Q4,_,_,rfl,rfl,JQ zn yz 'd',?_⟩)⟩;refine⟨_,rfl,.inr (.inl ⟨p,_,0,.int x,rfl,rfl,qp3,JG,_,rfl,_,_,rfl,rfl,JQ xz zdI 'd',.inl ⟨_,_,rfl,rfl,?_⟩⟩)⟩;refine⟨_,rfl,_,rfl,.inr (.inl ⟨p,_,1,.int y,rfl,rfl,qp3,Q4,_,_,rfl,rfl,JQ zdI yz 'd',?_⟩)⟩
 have zz:((r.den:Int)*y).natAbs<2 ^ 8000:=by
  rw[Int.natAbs_mul];have h1:=Nat.mul_lt_mul'' zdI yz;rw[<- Nat.pow_add]at h1;exact jS h1 (ju 'd' 'd')
 have esum:Rat.divInt (r.num*y+x*(r.den:Int)) ((r.den:Int)*y)=r+Rat.divInt x y:=by
  conv=>rhs;rw[<- j7 r]
  rw[Rat.divInt_add_divInt _ _ 'c' 'c']
 refine⟨_,_,rfl,Int.add_nonneg (Int.mul_nonneg rn0 'c') (Int.mul_nonneg x0 'c'),qB rdp y0,zz,λnp H4 s4 fnp dn=>?_⟩;rw[esum]at dn;have s14:=s13.trans s4;have dd4:=dd.same s14;have kt4:K2At H4 (Jt ql) t:=kt3.same (λb xs e=>s4 _ _ e) λb xs e=>e.same s4;refine⟨_,rfl,_,rfl,d,t,ks,Jt ql,rfl,rfl,dd4,kt4,by omega,?_⟩;have dd5:=dd4.put (v := .ref np) kt4 'c'
 have up:∀r v,IsD K H4 (dF r) v->IsD K (upd H4 d (k2HO w d (Qn ks (Jt ql) t (.ref np)))) (dF r) v:=λr v h=>by
  obtain⟨a,rfl,qa⟩:=JS h;have:=dd4.at_;refine⟨a,_,rfl,?_,_,_,rfl,rfl,_,_,rfl,rfl,rfl⟩;rcases qa with (h|⟨o,h⟩)|h
  . exact .inl (.inl (by rw[xZ (Qs h this (λz=>nomatch z))];exact h))
  . exact .inl (.inr ⟨o,by rw[xZ (Qs h this (λz=>nomatch z))];exact h⟩)
  . exact .inr h
 have pr4:Paired (EntQ K H4) L ks:=JY (λr v h=>h.same s14) pr;refine q _ _ (λb u n h=>by rw[xZ n];exact s14 _ _ h) dd5 (JY up (Ds pr4 dd.nd λr' h=>?_));rw[rr r' h];exact dn
def iA{α β:Type}{f:α->β}(inj:∀a b,f a=f b->a=b){l:List α}(h:l.Nodup):(l.map f).Nodup:=by
 unfold List.Nodup at *;rw[jq];exact h.imp λn e=>n (inj _ _ e)
structure BkA (kvs:List (Key×V)) (N:xp) (g:Str->Int):Prop where
 nd:(kvs.map (·.1)).Nodup
 mem:∀k v,(k,v)∈kvs↔∃n∈N,k=.inr n/\v=.int (g n)
def bkQ(N:xp)(g:Str->Int):List (Key×Int):=(srt N).map λn=>(.inr n,g n)
def tu{kvs:List (Key×V)}(nd:(kvs.map (·.1)).Nodup){k:Key}{v:V}(h:(k,v)∈kvs):Jr kvs k=some v:=by
 induction kvs with
 |nil=>cases h
 |cons a r ih =>
  rw[jM,jm]at nd;rcases jJ.mp h with e|h
  . rw[<- e,Qt rfl]
  . rw[Qu (λz=>nd.1 (z ▸ jG.mpr ⟨_,h,rfl⟩))];exact ih nd.2 h
def tD{kvs:List (Key×V)}{k:Key}{v:V}(h:Jr kvs k=some v):(k,v)∈kvs:=by
 induction kvs with
 |nil=>cases h
 |cons a r ih =>
  by_cases e:a.1=k
  . rw[Qt e]at h
    cases h
    rw[<- e];exact jO
  . rw[Qu e]at h;exact jN _ (ih h)
def BkA.val(b:BkA kvs N g)(h:n∈N):Jr kvs (.inr n)=some (.int (g n)):=tu b.nd ((b.mem _ _).mpr ⟨n,h,rfl,rfl⟩)
def BkA.perm(b:BkA kvs N g):((bkQ N g).map λp=>(p.1,V.int p.2)).Perm kvs:=by
 have e:((bkQ N g).map λp=>(p.1,V.int p.2))=(srt N).map λn=>((Sum.inr n:Key),V.int (g n)):=by unfold bkQ;rw[jb];rfl
 rw[e];refine(List.perm_ext_iff_of_nodup ?_ ?_).mpr λp=>?_
 . exact iA (λa b e=>Sum.inr.inj (Prod.mk.inj e).1) (XJ (QO N))
 . exact(List.Pairwise.of_map _ (λ_ _ h e=>h (by rw[e])) b.nd)
 . obtain⟨k,v⟩:=p;rw[b.mem,jG];exact⟨λ⟨n,hn,e⟩=>⟨n,JW.mp hn,(Prod.mk.inj e).1.symm,(Prod.mk.inj e).2.symm⟩,λ⟨n,hn,e1,e2⟩=>⟨n,JW.mpr hn,by rw[e1,e2]⟩⟩
def Du(N:xp)(g:Str->Int):(bkQ N g).Pairwise λp q=>kLt p.1 q.1=true:=by
 unfold bkQ;rw[jq];exact(QO N).imp λh=>qi h
def BkA.ty(b:BkA kvs N g):∀kv∈kvs,kTy kv.1 = "str" := λkv h=>by
 obtain⟨n,_,e,_⟩:=(b.mem kv.1 kv.2).mp h;rw[e];rfl
def BkA.len(b:BkA kvs N g)(nd:N.Nodup):kvs.length<=N.length:=by
 have h:=b.perm.length_eq;rw[jA]at h;unfold bkQ at h;rw[jA]at h;have:=List.Nodup.length_le_of_subset (XJ (QO N)) λn hn=>JW.mp hn;omega
theorem BkA.put(b:BkA kvs N g)(x:Str)(z:Int):BkA (Jf kvs (.inr x) (.int z)) (adN N x) λn=>if n=x then z else g n:=by
 have nd:((Jf kvs (.inr x) (.int z)).map (·.1)).Nodup:=by
  unfold Jf;split
  . rw[jb]
    have e:kvs.map ((λp:Key×V=>p.1) ∘ λkv=>if kv.1=.inr x then(kv.1,V.int z) else kv)=kvs.map (·.1):=ji λp _=>by
     show(if p.1=Sum.inr x then(p.1,V.int z) else p).1=p.1;split<;>rfl
    rw[e];exact b.nd
  . rename_i c;rw[jh,kD];refine⟨b.nd,by simp,λa ha d hd e=>?_⟩;obtain⟨p,hp,rfl⟩:=jG.mp ha;have hd:d = .inr x:=by simpa using hd
    exact c (kB.mpr ⟨p,hp,qi (e.trans hd)⟩)
 refine⟨nd,λk v=>⟨λh=>?_,λ⟨n,hn,e1,e2⟩=>tD ?_⟩⟩
 . have hv:=tu nd h;rw[mI]at hv
   by_cases c:k=.inr x
   . rw[qh c]at hv
     cases hv
     exact⟨x,X8.mpr (.inr rfl),c,by rw[qh rfl]⟩
   . rw[qg c]at hv;obtain⟨n,hn,e1,e2⟩:=(b.mem k v).mp (tD hv);refine⟨n,X8.mpr (.inl hn),e1,?_⟩;rw[qg (λy=>c (by rw[e1,y]))];exact e2
 . rw[e1,e2,mI]
   by_cases c:n=x
   . rw[qh (by rw[c]),qh c]
   . rw[qg (λy=>c (Sum.inr.inj y)),qg c];exact b.val ((X8.mp hn).elim id λy=>absurd y c)
def tE(N:xp)(g:Str->Int):BkA (JJ [] ((bkQ N g).map λp=>(p.1,V.int p.2))) N g:=by
 have e:((bkQ N g).map λp=>(p.1,V.int p.2))=(srt N).map λn=>((Sum.inr n:Key),V.int (g n)):=by unfold bkQ;rw[jb];rfl
 rw[e];have nd:=XJ (QO N)
 have go:∀(l:xp) (acc:List (Key×V)),(acc.map (·.1)++l.map (Sum.inr:Str->Key)).Nodup->JJ acc (l.map λn=>((Sum.inr n:Key),V.int (g n)))=acc++l.map λn=>((Sum.inr n:Key),V.int (g n)):=by
  intro l
  induction l with
  |nil=>intro acc _;show acc=acc++[];rw[jk]
  |cons a l ih =>
   intro acc h
   have hp:Jf acc (.inr a) (.int (g a))=acc++[(.inr a,.int (g a))]:=by
    unfold Jf
    rw[qg (λz=>by
     obtain⟨p,hp,e⟩:=kB.mp z;rw[jM,kD]at h;exact h.2.2 _ (jG.mpr ⟨p,hp,rfl⟩) _ jO (qm e))]
   show JJ (Jf acc (.inr a) (.int (g a))) _=_;rw[hp,ih _ (by rw[jh,jz];exact h),jz];rfl
 rw[go (srt N) [] (by rw[List.map_nil,kT];exact iA (λa b e=>Sum.inr.inj e) nd),kT];refine⟨by rw[jb];exact iA (λa b e=>Sum.inr.inj e) nd,λk v=>?_⟩;rw[jG];exact⟨λ⟨n,hn,e⟩=>⟨n,JW.mp hn,(Prod.mk.inj e).1.symm,(Prod.mk.inj e).2.symm⟩,λ⟨n,hn,e1,e2⟩=>⟨n,JW.mpr hn,by rw[e1,e2]⟩⟩
def kf(ns:xp)(v:xr):K2:=Jt (bkQ ns (bk ns v))
def nowL(S:SL):List KR:=S.w.map λp=>(kf S.ns p.1,p.2)
def Dv(hN:∀n,n∈N↔n∈ns)(hg:∀n∈N,g n=bk ns v n):Jt (bkQ N g)=kf ns v:=by
 unfold kf bkQ;rw[Bx hN];exact qG Jt (ji λn hn=>by rw[hg n ((hN n).mpr (JW.mp hn))])
def Dw(nd:ns.Nodup)(h:v.length=ns.length)(h':v'.length=ns.length)(e:kf ns v=kf ns v'):v=v':=by
 have hm:∀n∈ns,bk ns v n=bk ns v' n:=λn hn=>by
  unfold kf Jt bkQ at e;rw[jb,jb]at e;have:=List.map_inj_left.mp e n (JW.mpr hn);simpa using this
 have e1:=cQ nd h;have e2:=cQ nd h';rw[<- e1,<- e2];exact ji hm
def kmp(ns:xp)(l:List (xr×Rat)):List KR:=l.map λp=>(kf ns p.1,p.2)
def tF{f:xr->K2}(inj:∀p∈acc,f p.1=f v->p.1=v)(kn:(acc.map (·.1)).Nodup)(x:Rat):Xq (acc.map λp=>(f p.1,p.2)) (f v) x=(Js acc v x).map λp=>(f p.1,p.2):=by
 have iff_:∀p∈acc,f p.1=f v↔p.1=v:=λp hp=>⟨inj p hp,λe=>by rw[e]⟩
 by_cases c:∃p∈acc,p.1=v
 . obtain⟨p,hp,e⟩:=c;have h1:((acc.map λp=>(f p.1,p.2)).any λq=>decide (q.1=f v))=true:=kB.mpr ⟨(f p.1,p.2),jG.mpr ⟨p,hp,rfl⟩,qi (by rw[e])⟩;have h2:(acc.any λq=>decide (q.1=v))=true:=kB.mpr ⟨p,hp,qi e⟩
   have h3:Qq acc v=some p.2:=by
    unfold Qq;clear h1 h2 iff_ inj
    induction acc with
    |nil=>cases hp
    |cons a r ih =>
     rw[jM,jm]at kn;rw[jv];rcases jJ.mp hp with z|hp
     . rw[<- z,qi e];rfl
     . rw[qj (λz:a.1=v=>kn.1 (jG.mpr ⟨p,hp,e.trans z.symm⟩))];exact ih kn.2 hp
   unfold Xq Js JT;rw[qh h1,qh h2,h3];rw[jb,jb];refine ji λq hq=>?_;show(if f q.1=f v then(f q.1,q.2+x) else(f q.1,q.2))=_
   by_cases c:q.1=v
   . have:q=p:=by
      have hn:=hX kn
      have:∀{l:List (xr×Rat)},(l.map (·.1)).Nodup->∀{a b},a∈l->b∈l->a.1=b.1->a=b:=fun {l}=>by
       induction l with
       |nil=>intro _ a b h;cases h
       |cons y l ih =>
        intro nd a b h1 h2 e;rw[jM,jm]at nd;rcases jJ.mp h1 with rfl|h1
        . rcases jJ.mp h2 with rfl | h2
          . rfl
          . exact absurd (jG.mpr ⟨b,h2,e.symm⟩) nd.1
        . rcases jJ.mp h2 with z | h2
          . exact absurd (jG.mpr ⟨a,h1,e.trans (by rw[z])⟩) nd.1
          . exact ih nd.2 h1 h2 e
      exact this kn hq hp (c.trans e.symm)
     subst this;rw[qh ((iff_ q hq).mpr c)];show _=(f (if q.1=v then(q.1,q.2+x) else q).1,(if q.1=v then(q.1,q.2+x) else q).2);rw[qh c]
   . rw[qg (λz=>c ((iff_ q hq).mp z))];show _=(f (if q.1=v then(q.1,p.2+x) else q).1,(if q.1=v then(q.1,p.2+x) else q).2);rw[qg c]
 . have hne:∀p∈acc,p.1≠v:=λp hp e=>c ⟨p,hp,e⟩;rw[rZ hne];unfold Xq
   rw[qg (λz=>by
    obtain⟨q,hq,e⟩:=kB.mp z;obtain⟨p,hp,rfl⟩:=jG.mp hq;exact hne p hp ((iff_ p hp).mp (qm e)))]
   rw[jh];rfl
def Dx(nd:ns.Nodup)(ha:∀p∈acc,p.1.length=ns.length)(kn:(acc.map (·.1)).Nodup)(hv:v.length=ns.length)(x:Rat):Xq (kmp ns acc) (kf ns v) x=kmp ns (Js acc v x) :=
 tF (f:=kf ns) (λp hp e=>Dw nd (ha p hp) hv e) kn x
theorem iB:∀{ql:List (Key×Int)}{xs:List V},Paired (kiAt H) (Jt ql) xs->Paired (Qw H) xs (ql.map λp=>(p.1,V.int p.2))
 | [],_,.nil => .nil
 |p::ql,_,.cons h t=>by
  obtain⟨b,e,hb⟩:=h;exact .cons ⟨b,e,hb⟩ (iB t)
def Bu(d:xS)(H H':Hp):Prop:=∀b u,b≠d->H b=some u->H' b=some u
def Bu.trans(h:Bu d H H')(s:Same H' xw):Bu d H xw:=λb u n e=>s _ _ (h b u n e)
def tG(e:H d=some u)(nt:∀xs,u ≠ .tup xs)(nf:∀o xs,u ≠ .frz o (.tup xs))(s:Bu d H H')(h:SqT K H a xs):SqT K H' a xs:=by
 rcases h with (h|⟨o,h⟩)|h
 . exact .inl (.inl (s _ _ (λz=>by rw[z,e]at h;exact nt _ (Option.some.inj h)) h))
 . exact .inl (.inr ⟨o,s _ _ (λz=>by rw[z,e]at h;exact nf _ _ (Option.some.inj h)) h⟩)
 . exact .inr h
def Xr(e:H d=some u)(nt:∀xs,u ≠ .tup xs)(nf:∀o xs,u ≠ .frz o (.tup xs))(s:Bu d H H')(h:IsD K H (dF r) v):IsD K H' (dF r) v:=by
 obtain⟨a,rfl,qa⟩:=JS h;exact⟨a,_,rfl,tG e nt nf s qa,_,_,rfl,rfl,_,_,rfl,rfl,rfl⟩
def YU(e:H d=some u)(nt:∀xs,u ≠ .tup xs)(nf:∀o xs,u ≠ .frz o (.tup xs))(s:Bu d H H')(h:K2At H k a):K2At H' k a :=
 h.same (λb xs q=>s _ _ (λz=>by rw[z,e]at q;exact nt _ (Option.some.inj q)) q) λb xs h=>by
  obtain⟨o,q,z0⟩:=h;have q:H b=some (.frz o (.tup xs)):=q;exact⟨o,s _ _ (λz=>by rw[z,e]at q;exact nf _ _ (Option.some.inj q)) q,z0⟩
def QQ(e:H d=some u)(nt:∀xs,u ≠ .tup xs)(nf:∀o xs,u ≠ .frz o (.tup xs))(n:t≠d)(s:Bu d H H')(h:D2 w H t fz ks):D2 w H' t fz ks :=
 ⟨s _ _ n h.at_,h.nd,h.len,λp hp=>YU e nt nf s (h.key p hp)⟩
def da(h:D2 w H d fz ks)(s:Bu d H H')(e:H' d=some (frzO fz' (k2HO w d ks))):D2 w H' d fz' ks:=by
 have nt:∀xs,frzO fz (k2HO w d ks) ≠ .tup xs:=λxs z=>by cases fz<;>cases z
 have nf:∀o xs,frzO fz (k2HO w d ks) ≠ .frz o (.tup xs):=λo xs z=>by cases fz<;>cases z
 exact⟨e,h.nd,h.len,λp hp=>YU h.at_ nt nf s (h.key p hp)⟩
def dc(e:H d=some (frzO fz (k2HO w d ks)))(s:Bu d H H')(h:SqL K H a xs):SqL K H' a xs:=by
 rcases h with (h|⟨o,h⟩)|h
 . exact .inl (.inl (s _ _ (λz=>by rw[z,e]at h;cases fz<;>cases h) h))
 . exact .inl (.inr ⟨o,s _ _ (λz=>by rw[z,e]at h;cases fz<;>cases h) h⟩)
 . exact .inr h
def iC(e:H d=some (frzO fz (k2HO w d ks)))(s:Bu d H H')(h:SqT K H a xs):SqT K H' a xs :=
 tG e (λxs z=>by cases fz<;>cases z) (λo xs z=>by cases fz<;>cases z) s h
mutual
theorem XT{d:xS}{H H':Hp}{w:xU}{ks:List KE}{fz:Option Obj}(e:H d=some (frzO fz (k2HO w d ks)))(s:Bu d H H'):∀{dd:D}{x:V},IsD K H dd x->IsD K H' dd x
 |.non,_,h=>h
 |.bl _,_,h=>h
 |.int _,_,h=>h
 |.str _,_,h=>h
 |.tup _,_,⟨a,xs,h1,h2,h3⟩=>⟨a,xs,h1,iC e s h2,di e s h3⟩
 |.lst _,_,⟨a,xs,h1,h2,h3⟩=>⟨a,xs,h1,dc e s h2,di e s h3⟩
theorem di{d:xS}{H H':Hp}{w:xU}{ks:List KE}{fz:Option Obj}(e:H d=some (frzO fz (k2HO w d ks)))(s:Bu d H H'):∀{ds:List D}{xs:List V},IsDs K H ds xs->IsDs K H' ds xs
 | [],_,h=>h
 |_::_,_,⟨x,r,h1,h2,h3⟩=>⟨x,r,h1,XT e s h2,di e s h3⟩
end
theorem dj:∀{ks:List KE}{i:Nat}{p:KE},(ks.map (·.1)).Nodup->ks[i]?=some p->Jw ks p.1=some p.2.2
 |a::ks,0,p,_,h=>by
  cases h
  unfold Jw;rw[jv,qi rfl];rfl
 |a::ks,i+1,p,nd,h=>by
  rw[jM,jm]at nd;rw[kN]at h;have:=dj nd.2 h;unfold Jw at this ⊢;rw[jv,qj (λz:a.1=p.1=>nd.1 (jG.mpr ⟨p,jZ h,z.symm⟩))];exact this
def RowQ(S:SL):Wr->Prop
 |.draw x os=>PySem.PyData.strOk x=true/\os.length<=3/\(∀o∈os,sz o.2/\0<=o.2.num)/\∀i,∀g∈gaR [] ((Jk S.ns S.w x os).take i),sz g.2/\0<=g.2.num
 |.lett x e=>PySem.PyData.strOk x=true/\X6 e/\(∀n∈e.rds,n∈S.ns)/\∀i,∀g∈gaR [] ((JX S.ns S.w x e).take i),sz g.2/\0<=g.2.num
 |.seen e=>X6 e/\(∀n∈e.rds,n∈S.ns)/\∀i,∀g∈gaR [] ((Qa S.ns S.w e).take i),sz g.2/\0<=g.2.num
 |_=>False
structure BhOk (r:Wr) (S:SL):Prop where
 nd:S.ns.Nodup
 len:∀p∈S.w,p.1.length=S.ns.length
 ok:∀n∈S.ns,PySem.PyData.strOk n=true
 nms:S.ns.length<=60
 z:∀p∈S.w,sz p.2/\0<=p.2.num
 few:S.w.length<=100
 row:RowQ S r
def Dy(h:∀p∈l,p.1.length=n):∀p∈gaR [] l,p.1.length=n:=λp hp=>by
 obtain⟨r,hr,e⟩:=jG.mp (Zd.mp (jG.mpr ⟨p,hp,rfl⟩));rw[<- e];exact h r hr
def tH(l:List (xr×Rat))(v:xr)(x:Rat):gaR [] (l++[(v,x)])=Js (gaR [] l) v x:=by
 unfold gaR;rw[kQ];rfl
def iD{Pq:xr×Rat->Prop}(h:∀i,∀g∈gaR [] (l.take i),Pq g)(p:l1 <+: l):∀g∈gaR [] l1,Pq g:=by
 have:=h l1.length
 rwa [<- List.prefix_iff_eq_take.mp p]at this
def iE(ns:xp)(y:Str):(adN ns y).length<=ns.length+1:=by
 unfold adN;split
 . omega
 . rw[jU,List.length_singleton];exact jE _
def dm{z:Int}(h:v.length=ns.length):(repl v (ns.idxOf y) z).length=(adN ns y).length:=by
 rw[<- Xn,ZU (by rw[h];exact List.idxOf_le_length),ZU List.idxOf_le_length,h]
theorem tI(nd:ns.Nodup)(h:v.length=ns.length):∀n∈adN ns y,bk (adN ns y) (repl v (ns.idxOf y) z) n=if n=y then z else bk ns v n:=λn hn=>by
 have hi:=List.idxOf_le_length (a:=y) (l:=ns)
 have key:∀j,(repl v (ns.idxOf y) z).getD j 0=if j=ns.idxOf y then z else v.getD j 0:=λj=>by
  unfold repl;rw[jL,jL,jz];have lt:(v.take (ns.idxOf y)).length=ns.idxOf y:=by rw[jW];omega
  rcases Nat.lt_trichotomy j (ns.idxOf y) with c|c|c
  . rw[kU 'c',qg 'c',List.getElem?_take_of_lt c]
  . rw[j3 'c',qh c,lt,c,Nat.sub_self];rfl
  . rw[j3 'c',qg 'c',lt];obtain⟨m,rfl⟩:∃m,j=ns.idxOf y+1+m:=⟨j - (ns.idxOf y+1),by omega⟩;rw[show ns.idxOf y+1+m - ns.idxOf y=m+1 by omega,List.singleton_append,kN,List.getElem?_drop]
 have ia:(adN ns y).idxOf n=if n=y then ns.idxOf y else ns.idxOf n:=by
  unfold adN
  by_cases c:y∈ns
  . rw[qh c];split
    . rename_i e;rw[e]
    . rfl
  . rw[qg c]
    by_cases e:n=y
    . rw[qh e,e,List.idxOf_append,qg c,List.idxOf_eq_length c,List.idxOf_cons_self,Nat.zero_add]
    . have hm:n∈ns:=(X8.mp hn).elim id λz=>absurd z e;rw[qg e,List.idxOf_append,qh hm]
 show(repl v (ns.idxOf y) z).getD ((adN ns y).idxOf n) 0=_;rw[key,ia]
 by_cases e:n=y
 . rw[qh e,qh rfl,qh e]
 . rw[qg e,qg e];have hm:n∈ns:=(X8.mp hn).elim id λz=>absurd z e;have hl:=jx.mpr hm
   rw[qg (λz=>e (by
    have z:ns.idxOf n=ns.idxOf y:=z;have h1:=ki hl;have h2:=ki (x:=y) (xs:=ns) 'c';rw[<- h1,<- h2];congr 1))]
   rfl
def iF
 (dt:D2 w H t none ks) (pr:Paired (EntQ K H) (kmp ns (gaR [] l)) ks) (hb:H b=some (.dK kvs)) (bk_:BkA kvs ns g) (nd:ns.Nodup) (n6:ns.length<=61) (okn:∀n∈ns,PySem.PyData.strOk n=true) (hl:∀p∈l,p.1.length=ns.length) (hv:v.length=ns.length) (hg:∀n∈ns,g n=bk ns v n)
 (qp:SqT K H p [.int x,.int y]) (x0:0<=x) (y0:0<y) (xz:x.natAbs<2 ^ 4000) (yz:y.natAbs<2 ^ 4000) (eq:Rat.divInt x y=q) (zz:∀g∈gaR [] l,sz g.2/\0<=g.2.num) (k9:l.length<1000)
 (k:∀(H':Hp) (xE:List KE),SmA t H H'->D2 w H' t none xE->Paired (EntQ K H') (kmp ns (gaR [] (l++[(v,q)]))) xE->Q .non H'):Y0 K w [.ref t,.ref b,.ref p] H Q E:=by
 have kl:ks.length=(gaR [] l).length:=by
  have:=qG List.length (Ze pr);unfold kmp at this;rw[jA,jA,jA]at this;exact this.symm
 have gl:=Za l [];rw[kF,Nat.zero_add]at gl;refine⟨t,b,p,ks,kmp ns (gaR [] l),kvs,bkQ ns g, "str",x,y,rfl,dt,pr,hb,bk_.perm,Du _ _,bk_.ty,λq hq=>?_,by have:=bk_.len nd;omega,qp,x0,y0,xz,yz,λg hg=>?_,by omega,λH' xE s d' pr'=>k H' xE s d' ?_⟩
 . unfold bkQ at hq;obtain⟨n,hn,rfl⟩:=jG.mp hq;exact okn n (JW.mp hn)
 . obtain⟨r,hr,rfl⟩:=jG.mp hg;exact zz r hr
 . rw[tH,<- Dx nd (Dy hl) (Xm l) hv,<- Dv (N:=ns) (g:=g) (λn=>Iff.rfl) hg,<- eq];exact pr'
def iG(K:xh)(w:xU):Sp:=λvs H Q _=>∃(x:V) (d:xS) (r:Wr) (S:SL) (ks:List KE),vs=[x,.ref d]/\IsD K H (dW r) x/\D2 w H d none ks/\Paired (EntQ K H) (nowL S) ks/\BhOk r S /\
 ∀(td:xS) (xE:List KE) (H':Hp),Same H H'->H td=none->D2 w H' td none xE->Paired (EntQ K H') (nowL (wk1 r S)) xE->Q (.ref td) H'
theorem Dz(B:Bl mg)(Xs:Def P w K mg base "_law_add" 3 ["_law_now", "_law_book", "_law_part"] (Y0 K w))(ZZ:Def P w K mg base "_law_worth" 12 ["_law_e", "_law_book"] (XN K 10))(F:Fn K mg "_law_behind" bM ["_law_row_here", "_law_now"]):Def P w K mg base "_law_behind" 13 ["_law_row_here", "_law_now"] (iG K w):=by
 refine F.ok ZG (λvs H Q E h=>?_) (λf xu A outer s H vs Q E hr h=>?_)
 . obtain⟨x,d,r,S,ks,rfl,_⟩:=h;rfl
 obtain⟨x,d,r,S,ks,rfl,dx,dd,pr,ok,q⟩:=h
 refine⟨_,(@J0 _ _ _ _ _ (Ja (i:=2) ZG.nd rfl 'a' (fZ w rfl))
  (@J0 _ _ _ _ _ (Yu w rfl (QI PassesOwn.never rfl (Yt w rfl (pv 1)) (Ju (i:=3) ZG.nd rfl 'a') (@J0 _ _ _ _ _ (Ja (i:=4) ZG.nd rfl 'a' (JU (g8 rfl) rfl B.dict PyProof.Rows.boot_dict (xW (pv 3) xY)))
  (@J2 _ _ _ (Je (Jd Jj (J4 (J3 K rfl) (pv 0) xX (λ_ _=>rfl)) Jc (J8 _)) (@J2 _ _ _ (QI PassesOwn.never rfl (Qj (J4 (J3 K rfl) (pv 0) xX (λ_ _=>rfl))) (Xb rfl (JZ (Ju (i:=5) ZG.nd rfl 'a') (JZ (Ju (i:=6) ZG.nd rfl 'a') Xa))) (@J0 _ _ _ _ _ (aA (QV hr) (pv 4) (J4 (J3 K rfl) (pv 0) xX (λ_ _=>rfl)) (pv 5) rfl)
  (@J2 _ _ _ (Qi (J9 Xs hr rfl (xW (pv 2) (xW (pv 4) (xW (Jq (xW (J5 JP (J4 (J3 K rfl) (QY w rfl (Qx hr) (pv 1) (pv 3) (λ_ _=>rfl)) xX (λ_ _=>rfl)) (J4 (J3 K rfl) (pv 6) xX (λ_ _=>rfl))) (xW (J5 JP (J4 (J3 K rfl) (QY w rfl (Qx hr) (pv 1) (pv 3) (λ_ _=>rfl)) xX (λ_ _=>rfl)) (J4 (J3 K rfl) (pv 6) xX (λ_ _=>rfl))) xY))) xY))))))))) (@J2 _ _ _ (Je (Jd Jj (J4 (J3 K rfl) (pv 0) xX (λ_ _=>rfl)) Jc (J8 _)) (@J0 _ _ _ _ _ (aA (QV hr) (pv 4) (J4 (J3 K rfl) (pv 0) xX (λ_ _=>rfl)) (J9 ZZ hr rfl (xW (J4 (J3 K rfl) (pv 0) xX (λ_ _=>rfl)) (xW (pv 4) xY))) rfl)
  (@J2 _ _ _ (Qi (J9 Xs hr rfl (xW (pv 2) (xW (pv 4) (xW (QY w rfl (Qx hr) (pv 1) (pv 3) (λ_ _=>rfl)) xY))))))) (@J2 _ _ _ (Je (Jd QE (J9 ZZ hr rfl (xW (J4 (J3 K rfl) (pv 0) xX (λ_ _=>rfl)) (xW (pv 4) xY))) xX (J8 _)) (@J2 _ _ _ (Qi (J9 Xs hr rfl (xW (pv 2) (xW (pv 4) (xW (QY w rfl (Qx hr) (pv 1) (pv 3) (λ_ _=>rfl)) xY)))))) Jg)))))))))
  (@J2 _ _ _ (J7 (pv 2))))),?_⟩
 refine λtd ft=>?_;have s1:=J6 ft (k2HO w td []);have dt:D2 w (upd H td (k2HO w td [])) td none []:=D2.new;dsimp only[Jh,List.set,L2.JD];generalize upd H td (k2HO w td [])=H1 at s1 dt ⊢;have ntd:td≠d:=λz=>by rw[z,dd.at_]at ft;cases ft
 have dd1:=dd.same s1;have pr1:Paired (EntQ K H1) (nowL S) ks:=JY (λr v h=>h.same s1) pr
 have kl:ks.length=S.w.length:=by
  have:=qG List.length (Ze pr);unfold nowL at this;rw[jA,jA,jA]at this;exact this.symm
 refine⟨d,ks,dd1.at_,_,rfl,d,ks,rfl,dd1.at_,λo=>?_⟩;have sb:Bu d H (upd H1 d (.frz o (k2HO w d ks))):=λb u n e=>by rw[xZ n];exact s1 _ _ e
 refine b9 (λi σ H'=>Bu d H H'/\H' d=some (.frz o (k2HO w d ks))/\∃(xE:List KE) (c3 c4 c5 c6:Option V),σ=[some x,some (.ref d),some (.ref td),c3,c4,c5,c6]/\D2 w H' td none xE/\Paired (EntQ K H') (nowL (wk1 r ⟨S.ns,S.w.take i⟩)) xE) ⟨sb,J1,[],none,none,none,none,rfl,?_,?_⟩ (λi σ H' _ h=>h.2.1) ?_ ?_
 . exact QQ dd1.at_ (λxs z=>by cases z) (λo xs z=>by cases z) ntd (λb u n e=>by rw[xZ n];exact e) dt
 . cases r with
   |draw x os=>exact .nil
   |lett x e=>exact .nil
   |seen e=>exact .nil
   |_=>exact ok.row.elim
 . rintro i pe σ H' hpe ⟨bu,ef,xE,c3,c4,c5,c6,rfl,dt',pr'⟩;have hi:i < S.w.length:=by have:=(jF.mp hpe).1;omega
   obtain⟨pw,epw⟩:∃pw,pw=S.w[i]:=⟨_,rfl⟩;have hpm:pw∈S.w:=by rw[epw];exact jX hi
   have etk:S.w.take (i+1)=S.w.take i++[pw]:=by rw[ja hi,epw]
   have hk:(nowL S)[i]?=some (kf S.ns pw.1,pw.2):=by unfold nowL;rw[jD,jB hi,epw];rfl
   obtain⟨pe',e1,ek,dk⟩:=X3 pr hk;obtain rfl:pe=pe':=by rw[hpe]at e1;exact Option.some.inj e1
   have ddn:D2 w H' d (some o) ks:=da dd bu ef;have ka:=ddn.key pe (jZ hpe);rw[<- ek]at ka;have dk':IsD K H' (dF pw.2) pe.2.2:=XT (fz:=none) dd.at_ bu dk
   have vk:Jw ks (kf S.ns pw.1)=some pe.2.2:=by
    have:=dj dd.nd hpe
    rwa [<- ek]at this
   have xx:=ok.len pw hpm;obtain⟨zs,zn⟩:=ok.z pw hpm;obtain⟨xs,zt,kp,_⟩:=id ka
   have kl2:(bkQ S.ns (bk S.ns pw.1)).length<=60:=by
    unfold bkQ;rw[jA];have:=List.Nodup.length_le_of_subset (XJ (QO S.ns)) λn hn=>JW.mp hn;have:=ok.nms;omega
   have big:(1000:Nat)<sizeLine:=by decide
   dsimp only[Jh,List.set];refine⟨_,rfl,pe.2.1,xs,_,rfl,zt,iB kp,by rw[jA];omega,λbp fb=>?_⟩;have bkA:=tE S.ns (bk S.ns pw.1);have s2:=J6 fb (.dK (JJ [] ((bkQ S.ns (bk S.ns pw.1)).map λp=>(p.1,V.int p.2))));have eb:(upd H' bp (.dK (JJ [] ((bkQ S.ns (bk S.ns pw.1)).map λp=>(p.1,V.int p.2))))) bp=some (.dK (JJ [] ((bkQ S.ns (bk S.ns pw.1)).map λp=>(p.1,V.int p.2)))):=J1;generalize JJ [] ((bkQ S.ns (bk S.ns pw.1)).map λp=>(p.1,V.int p.2))=kvs at bkA s2 eb ⊢;have ntb:bp≠td:=λz=>by rw[z,dt'.at_]at fb;cases fb
   have ndb:bp≠d:=λz=>by rw[z,ef]at fb;cases fb
   dsimp only[Jh,List.set];generalize upd H' bp (.dK kvs)=H2 at s2 eb ⊢;have bu2:Bu d H H2:=bu.trans s2;have ef2:=s2 _ _ ef;have dt2:=dt'.same s2;have dd2:D2 w H2 d (some o) ks:=ddn.same s2;have pr2:Paired (EntQ K H2) (nowL (wk1 r ⟨S.ns,S.w.take i⟩)) xE:=JY (λr v h=>h.same s2) pr';have dx2:=XT (fz:=none) dd.at_ bu2 dx;have ka2:K2At H2 (kf S.ns pw.1) pe.2.1:=ka.same (λb xs e=>s2 _ _ e) λb xs e=>e.same s2;have dk2:=dk'.same s2
   cases r with
   |draw y os =>
    obtain⟨oy,o3,oz,gz⟩:=ok.row;have zs_:=zs;obtain⟨tr,ys,rfl,qr,_,_,rfl,rfl,_,_,rfl,rfl,_,_,rfl,⟨ol,zs,rfl,qo,dzs⟩,rfl⟩:=id dx;have hz3:=dzs.length;unfold dOs at hz3;rw[jA]at hz3;have hnow:∀l,nowL (wk1 (.draw y os) ⟨S.ns,l⟩)=kmp (adN S.ns y) (gaR [] (Jk S.ns l y os)):=λl=>by rw[<- Xn];unfold nowL wk1;rfl
    rw[hnow]at pr2;have qr2:=iC (fz:=none) dd.at_ bu2 qr
    have tk:Jk S.ns (S.w.take (i+1)) y os=Jk S.ns (S.w.take i) y os++drO S.ns y os pw:=by
     unfold Jk;rw[etk,List.flatMap_append,List.flatMap_cons,List.flatMap_nil,jk]
    have whole:Jk S.ns S.w y os=Jk S.ns (S.w.take (i+1)) y os++Jk S.ns (S.w.drop (i+1)) y os:=by
     unfold Jk;rw[<- List.flatMap_append,kI]
    refine⟨_,rfl,.inr (.inl ⟨tr,_,0,.str "draw",rfl,rfl,qr2,JG,_,_,rfl,rfl,_,rfl,ZQ rfl ?_⟩)⟩;refine⟨_,rfl,.inr (.inl ⟨tr,_,2,.ref ol,rfl,rfl,qr2,Zb,ol,rfl,⟨_,dc (fz:=none) dd.at_ bu2 qo⟩,?_⟩)⟩
    refine X1 (K:=K) (xs:=zs) (λj σ H5=>Bu d H H5/\H5 d=some (.frz o (k2HO w d ks))/\K2At H5 (kf S.ns pw.1) pe.2.1/\∃(xE:List KE) (c5 c6:Option V) (kvs':List (Key×V)) (N:xp) (g:Str->Int),σ=[some (.ref tr),some (.ref d),some (.ref td),some (.ref pe.2.1),some (.ref bp),c5,c6]/\D2 w H5 td none xE/\H5 bp=some (.dK kvs')/\BkA kvs' N g/\N.Nodup/\adN N y=adN S.ns y/\(∀n,n≠y->g n=bk S.ns pw.1 n)/\Paired (EntQ K H5) (kmp (adN S.ns y) (gaR [] (Jk S.ns (S.w.take i) y os++(drO S.ns y os pw).take j))) xE)
     ⟨bu2,ef2,ka2,xE,_,_,kvs,S.ns,_,rfl,dt2,eb,bkA,ok.nd,rfl,λ_ _=>rfl,by rw[List.take_zero,jk];exact pr2⟩ (λj σ H5 _ h=>dc (fz:=none) dd.at_ h.1 qo) ?_ ?_
    . rintro j z σ H5 hz ⟨bu5,ef5,ka5,ks5,c5,c6,kvs5,N,g,rfl,dt5,eb5,bk5,ndN,eN,gN,pr5⟩;have hj:j < os.length:=by have:=(jF.mp hz).1;omega
      obtain⟨z',ez,dz⟩:=(di (fz:=none) dd.at_ bu5 dzs).get (i:=j) (d := .tup [.int os[j].1,dF os[j].2]) (by unfold dOs;rw[jD,jB hj];rfl);obtain rfl:z=z':=by rw[hz]at ez;exact Option.some.inj ez
      obtain⟨c,zz,rfl,qc,_,_,rfl,rfl,v2,_,rfl,d2,rfl⟩:=dz;refine⟨c,_,rfl,qc,rfl,_,_,rfl,_,_,rfl,rfl,?_⟩;have kv6:=bk5.len ndN
      have kl5:N.length<=61:=by
       have h1:=iE S.ns y
       have h2:N.length<=(adN N y).length:=by
        unfold adN;split
        . exact jE _
        . rw[jU];omega
       have h3:=ok.nms;rw[eN]at h2;omega
      refine⟨_,rfl,_,rfl,_,rfl,.inr (.inl ⟨tr,_,1,.str y,rfl,rfl,iC (fz:=none) dd.at_ bu5 qr,Q4,bp,_,rfl,DPut.k (k := .inr y) eb5 'c',?_⟩)⟩;have bkB:=bk5.put y os[j].1
      have fbH:H bp=none:=by
       cases e0:H bp with
       |none=>rfl
       |some u=>rw[bu bp u ndb e0]at fb;cases fb
      have ub:Bu bp H5 (upd H5 bp (.dK (Jf kvs5 (.inr y) (.int os[j].1)))):=λb u n h=>by rw[xZ n];exact h
      have nt:∀xs,HO.dK kvs5 ≠ .tup xs:=λxs z=>by cases z
      have nf:∀o xs,HO.dK kvs5 ≠ .frz o (.tup xs):=λo xs z=>by cases z
      have dt6:=QQ eb5 nt nf ntb.symm ub dt5;have dd6:D2 w (upd H5 bp (.dK (Jf kvs5 (.inr y) (.int os[j].1)))) d (some o) ks:=QQ eb5 nt nf ndb.symm ub (da dd bu5 ef5);have ka6:=YU eb5 nt nf ub ka5;have pr6:Paired (EntQ K (upd H5 bp (.dK (Jf kvs5 (.inr y) (.int os[j].1))))) _ ks5:=JY (λr v h=>Xr eb5 nt nf ub h) pr5;have dv6:=Xr eb5 nt nf ub d2;have bu6:Bu d H (upd H5 bp (.dK (Jf kvs5 (.inr y) (.int os[j].1)))):=λb u n h=>by rw[xZ (λz=>by rw[z,fbH]at h;cases h)];exact bu5 b u n h
      have ef6:(upd H5 bp (.dK (Jf kvs5 (.inr y) (.int os[j].1)))) d=some (.frz o (k2HO w d ks)):=by rw[xZ ndb.symm];exact ef5
      have eb6:(upd H5 bp (.dK (Jf kvs5 (.inr y) (.int os[j].1)))) bp=some (.dK (Jf kvs5 (.inr y) (.int os[j].1))):=J1;have dk6:IsD K (upd H5 bp (.dK (Jf kvs5 (.inr y) (.int os[j].1)))) (dF pw.2) pe.2.2:=XT (fz:=none) dd.at_ bu6 dk;dsimp only[Jh,List.set];generalize upd H5 bp (.dK (Jf kvs5 (.inr y) (.int os[j].1)))=H6 at dt6 dd6 ka6 pr6 dv6 bu6 ef6 eb6 dk6 ⊢;rw[eN]at bkB;obtain⟨pv0,epv,qpv⟩:=JS dk6;obtain⟨pv1,rfl,qp1⟩:=JS dv6;obtain⟨oz1,oz2⟩:=oz _ (jX hj)
      have pz:∀{a b:Int},a.natAbs<2 ^ 2000->b.natAbs<2 ^ 2000->(a*b).natAbs<2 ^ 4000:=fun {a b} h1 h2=>by
       rw[Int.natAbs_mul,show(4000:Nat)=2000+2000 from rfl,Nat.pow_add];exact Nat.mul_lt_mul'' h1 h2
      have dz1:(pw.2.den:Int).natAbs<2 ^ 2000:=by rw[kq];exact zs_.2
      have dz2:((os[j].2).den:Int).natAbs<2 ^ 2000:=by rw[kq];exact oz1.2
      refine⟨_,rfl,_,rfl,_,rfl,_,rfl,d,pe.2.1,some o,ks,kf S.ns pw.1,pe.2.2,rfl,rfl,dd6,ka6,vk,.inr (.inl ⟨pv0,_,0,.int pw.2.num,epv,rfl,qpv,JG,_,rfl,.inr (.inl ⟨pv1,_,0,.int (os[j].2).num,rfl,rfl,qp1,JG,_,_,rfl,rfl,JQ zs_.1 oz1.1 'd',?_⟩)⟩)⟩;refine⟨_,rfl,_,rfl,d,pe.2.1,some o,ks,kf S.ns pw.1,pe.2.2,rfl,rfl,dd6,ka6,vk,.inr (.inl ⟨pv0,_,1,.int pw.2.den,epv,rfl,qpv,Q4,_,rfl,.inr (.inl ⟨pv1,_,1,.int (os[j].2).den,rfl,rfl,qp1,Q4,_,_,rfl,rfl,JQ dz1 dz2 'd',?_⟩)⟩)⟩;refine⟨by show(2:Nat)<=sizeLine;decide,λpn fn=>?_⟩;dsimp only[JA,jk,kL,kT];have s7:=J6 fn (.tup [.int (pw.2.num*(os[j].2).num),.int (pw.2.den*(os[j].2).den)]);have q7:SqT K (upd H6 pn (.tup [.int (pw.2.num*(os[j].2).num),.int (pw.2.den*(os[j].2).den)])) pn [.int (pw.2.num*(os[j].2).num),.int (pw.2.den*(os[j].2).den)] := .of J1;generalize upd H6 pn (.tup [.int (pw.2.num*(os[j].2).num),.int (pw.2.den*(os[j].2).den)])=H7 at s7 q7 ⊢;have hd:j<(drO S.ns y os pw).length:=by unfold drO;rw[jA];exact hj
      have tj:(drO S.ns y os pw).take (j+1)=(drO S.ns y os pw).take j++[(repl pw.1 (S.ns.idxOf y) os[j].1,pw.2*os[j].2)]:=by
       have:(drO S.ns y os pw)[j]?=some (repl pw.1 (S.ns.idxOf y) os[j].1,pw.2*os[j].2):=by unfold drO;rw[jD,jB hj];rfl
       rw[kj,this];rfl
      refine iF (v:=repl pw.1 (S.ns.idxOf y) os[j].1) (q:=pw.2*os[j].2) (dt6.same s7) (JY (λr v h=>h.same s7) pr6) (s7 _ _ eb6) bkB (YN ok.nd) (by have h1:=iE S.ns y;have h2:=ok.nms;omega) (λn hn=>(X8.mp hn).elim (ok.ok n) λz=>z ▸ oy) ?_ (dm xx) ?_ q7 (Int.mul_nonneg zn oz2) ?_ (pz zs_.1 oz1.1) (pz dz1 dz2) ?_ (iD gz ?_) ?_ λH8 ks8 s8 d8 p8=>?_
      . intro p hp
        have hp:p∈Jk S.ns S.w y os:=by
         rw[whole,tk];rcases je.mp hp with h|h
         . exact jw _ (jw _ h)
         . exact jw _ (jY _ (jj h))
        obtain⟨r0,hr0,hp⟩:=List.mem_flatMap.mp hp;obtain⟨r1,_,rfl⟩:=jG.mp hp;exact dm (ok.len r0 hr0)
      . intro n hn;rw[tI ok.nd xx n hn];split
        . rfl
        . rename_i c;exact gN n c
      . exact qB (by have:=pw.2.den_pos;omega) (by have:=(os[j].2).den_pos;omega)
      . rw[<- Rat.divInt_mul_divInt,j7,j7]
      . rw[whole,tk,jz];exact(List.prefix_append_right_inj _).mpr ((List.take_prefix _ _).trans (List.prefix_append _ _))
      . have h1:(Jk S.ns (S.w.take i) y os ++ (drO S.ns y os pw).take j).length<=(i + 1) * 3:=by
         have:∀l:List (xr×Rat),(Jk S.ns l y os).length=l.length*os.length:=λl=>by
          induction l with
          |nil=>unfold Jk;rw[List.flatMap_nil,kF,Nat.zero_mul]
          |cons a l ih=>unfold Jk at ih ⊢;unfold drO at ih ⊢;rw[List.flatMap_cons,jU,ih,jA,jV,Nat.add_mul,Nat.one_mul,Nat.add_comm]
         rw[jU,this,jW,jW,Nat.min_eq_left 'c'];have:=Nat.mul_le_mul_left i o3;omega
        have:=ok.few;omega
      . have n1:bp≠td:=ntb;refine⟨λb u n h=>s8 _ _ (λz=>by rw[z,ft]at h;cases h) (s7 _ _ (bu6 b u n h)),s8 _ _ ntd.symm (s7 _ _ ef6),?_,ks8,_,_,_,_,_,rfl,d8,s8 _ _ ntb (s7 _ _ eb6),bkB,YN ok.nd,?_,λn c=>?_,?_⟩
        . exact YU (dt6.same s7).at_ (λxs z=>by cases z) (λo xs z=>by cases z) (λb u n h=>s8 _ _ n h) (ka6.same (λb xs e=>s7 _ _ e) (λb xs e=>e.same s7))
        . unfold adN;split
          . rename_i h;first|rfl|rw[qh h]
          . rw[qh (jY _ (jP.mpr rfl))]
        . rw[qg c];exact gN n c
        . rw[tj,<- jz];exact p8
    . rintro σ H5 ⟨bu5,ef5,ka5,ks5,c5,c6,kvs5,N,g,rfl,dt5,eb5,bk5,ndN,eN,gN,pr5⟩;have e:(drO S.ns y os pw).take zs.length=drO S.ns y os pw:=j4 (by unfold drO;rw[jA];omega);rw[e,<- tk]at pr5;refine⟨bu5,ef5,ks5,_,_,_,_,rfl,dt5,?_⟩;rw[hnow];exact pr5
   |lett y e =>
    obtain⟨oy,eo,en,gz⟩:=ok.row;obtain⟨tr,ys,rfl,qr,_,_,rfl,rfl,_,_,rfl,rfl,ev_,_,rfl,de,rfl⟩:=id dx2
    have elt:JX S.ns (S.w.take (i+1)) y e=JX S.ns (S.w.take i) y e++[(repl pw.1 (S.ns.idxOf y) (ev (bk S.ns pw.1) e),pw.2)]:=by
     unfold JX;rw[etk,jh];rfl
    have hnow:∀l,nowL (wk1 (.lett y e) ⟨S.ns,l⟩)=kmp (adN S.ns y) (gaR [] (JX S.ns l y e)):=λl=>by rw[<- Xn];unfold nowL wk1;rfl
    rw[hnow]at pr2;refine⟨_,rfl,.inr (.inl ⟨tr,_,0,.str "let",rfl,rfl,qr,JG,_,_,rfl,rfl,_,rfl,Ji (λc=>absurd c (by show("let" : Str) ≠ "draw";decide)) (λ_=>?_)⟩)⟩;refine⟨_,rfl,.inr (.inl ⟨tr,_,0,.str "let",rfl,rfl,qr,JG,_,_,rfl,rfl,_,rfl,ZQ rfl ?_⟩)⟩;refine⟨_,rfl,.inr (.inl ⟨tr,_,2,ev_,rfl,rfl,qr,Zb,_,rfl,e,ev_,bp,kvs,bk S.ns pw.1,rfl,eo.1,(X0 e).mpr λn hn=>bkA.val (en n hn),eo.2.1,de,eb,λH3 s3=>?_⟩)⟩;have kv6:=bkA.len ok.nd;have n6:=ok.nms;refine⟨_,rfl,_,rfl,.inr (.inl ⟨tr,_,1,.str y,rfl,rfl,s3.tupq qr,Q4,bp,_,rfl,DPut.k (k := .inr y) (s3 _ _ eb) 'c',?_⟩)⟩;have bu3:Bu d H H3:=bu2.trans s3;have bkB:=bkA.put y (ev (bk S.ns pw.1) e)
    have fbH:H bp=none:=by
     cases e0:H bp with
     |none=>rfl
     |some u=>rw[bu bp u ndb e0]at fb;cases fb
    have eb3:H3 bp=some (.dK kvs):=s3 _ _ eb;have ub:Bu bp H3 (upd H3 bp (.dK (Jf kvs (.inr y) (.int (ev (bk S.ns pw.1) e))))):=λb u n h=>by rw[xZ n];exact h
    have nt:∀xs,HO.dK kvs ≠ .tup xs:=λxs z=>by cases z
    have nf:∀o xs,HO.dK kvs ≠ .frz o (.tup xs):=λo xs z=>by cases z
    have dt4:=QQ eb3 nt nf ntb.symm ub (dt2.same s3);have dd4:=QQ eb3 nt nf ndb.symm ub (dd2.same s3);have ka4:=YU eb3 nt nf ub (ka2.same (λb xs e=>s3 _ _ e) (λb xs e=>e.same s3));have dk4:=Xr eb3 nt nf ub (dk2.same s3);have pr4:Paired (EntQ K _) (kmp (adN S.ns y) (gaR [] (JX S.ns (S.w.take i) y e))) xE:=JY (λr v h=>Xr eb3 nt nf ub (h.same s3)) pr2;have bu4:Bu d H (upd H3 bp (.dK (Jf kvs (.inr y) (.int (ev (bk S.ns pw.1) e))))):=λb u n h=>by rw[xZ (λz=>by rw[z,fbH]at h;cases h)];exact bu3 b u n h
    have ef4:(upd H3 bp (.dK (Jf kvs (.inr y) (.int (ev (bk S.ns pw.1) e))))) d=some (.frz o (k2HO w d ks)):=by rw[xZ ndb.symm];exact s3 _ _ ef2
    have eb4:(upd H3 bp (.dK (Jf kvs (.inr y) (.int (ev (bk S.ns pw.1) e))))) bp=some (.dK (Jf kvs (.inr y) (.int (ev (bk S.ns pw.1) e)))):=J1;generalize upd H3 bp (.dK (Jf kvs (.inr y) (.int (ev (bk S.ns pw.1) e))))=H4 at dt4 dd4 ka4 dk4 pr4 bu4 ef4 eb4 ⊢;obtain⟨pv0,epv,qpv⟩:=JS dk4;refine⟨_,rfl,_,rfl,_,rfl,_,rfl,d,pe.2.1,some o,ks,kf S.ns pw.1,pe.2.2,rfl,rfl,dd4,ka4,vk,?_⟩;rw[epv];dsimp only[JA,jk,kL,kT];refine iF (q:=pw.2) (v:=repl pw.1 (S.ns.idxOf y) (ev (bk S.ns pw.1) e)) dt4 pr4 eb4 bkB (YN ok.nd) ?_ (λn hn=>(X8.mp hn).elim (ok.ok n) λz=>z ▸ oy) ?_ ?_ ?_ qpv zn (by have:=pw.2.den_pos;omega) (jS zs.1 (ju 'd' 'd')) (jS (by rw[kq];exact zs.2) (ju 'd' 'd')) (j7 _) (iD gz ?_) ?_ λH5 ks5 s5 d5 p5=>?_
    . have:=iE S.ns y;omega
    . intro p hp;obtain⟨r0,hr0,rfl⟩:=jG.mp hp;exact dm (ok.len r0 (jj hr0))
    . exact dm xx
    . exact λn hn=>(tI ok.nd xx n hn).symm
    . unfold JX;exact(List.take_prefix i S.w).map _
    . unfold JX;rw[jA,jW];have:=ok.few;omega
    . refine⟨λb u n h=>s5 _ _ (λz=>by rw[z,ft]at h;cases h) (bu4 b u n h),s5 _ _ ntd.symm ef4,ks5,_,_,_,_,rfl,d5,?_⟩;rw[hnow,elt];exact p5
   |seen e =>
    obtain⟨eo,en,gz⟩:=ok.row;obtain⟨tr,ys,rfl,qr,_,_,rfl,rfl,ev_,_,rfl,de,rfl⟩:=id dx2;refine⟨_,rfl,.inr (.inl ⟨tr,_,0,.str "seen",rfl,rfl,qr,JG,_,_,rfl,rfl,_,rfl,Ji (λc=>absurd c (by show("seen" : Str) ≠ "draw";decide)) (λ_=>?_)⟩)⟩;refine⟨_,rfl,.inr (.inl ⟨tr,_,0,.str "seen",rfl,rfl,qr,JG,_,_,rfl,rfl,_,rfl,Ji (λc=>absurd c (by show("seen" : Str) ≠ "let";decide)) (λ_=>?_)⟩)⟩;refine⟨_,rfl,.inr (.inl ⟨tr,_,1,ev_,rfl,rfl,qr,Q4,_,rfl,e,ev_,bp,kvs,bk S.ns pw.1,rfl,eo.1,(X0 e).mpr λn hn=>bkA.val (en n hn),eo.2.1,de,eb,λH3 s3=>?_⟩)⟩
    have esn:Qa S.ns (S.w.take (i+1)) e=Qa S.ns (S.w.take i) e++(if decide (ev (bk S.ns pw.1) e≠0)=true then [pw] else []):=by
     unfold Qa;rw[etk,List.filter_append,List.filter_cons,List.filter_nil]
    have hnow:∀l,nowL (wk1 (.seen e) ⟨S.ns,l⟩)=kmp S.ns (gaR [] (Qa S.ns l e)):=λl=>by unfold nowL wk1;rfl
    rw[hnow]at pr2;have bu3:Bu d H H3:=bu2.trans s3;have ef3:=s3 _ _ ef2;have dt3:=dt2.same s3;have pr3:Paired (EntQ K H3) (kmp S.ns (gaR [] (Qa S.ns (S.w.take i) e))) xE:=JY (λr v h=>h.same s3) pr2;refine⟨_,_,rfl,rfl,_,rfl,QF (λc=>?_) (λc=>?_)⟩
    . obtain⟨pv0,epv,qpv⟩:=JS (dk2.same s3);refine⟨_,rfl,_,rfl,_,rfl,_,rfl,d,pe.2.1,some o,ks,kf S.ns pw.1,pe.2.2,rfl,rfl,dd2.same s3,ka2.same (λb xs e=>s3 _ _ e) (λb xs e=>e.same s3),vk,?_⟩;rw[epv];dsimp only[JA,jk,kL,kT];refine iF (q:=pw.2) dt3 pr3 (s3 _ _ eb) bkA ok.nd (by have:=ok.nms;omega) ok.ok (λp hp=>ok.len p (jj (kR.mp hp).1)) xx (λ_ _=>rfl) qpv zn (by have:=pw.2.den_pos;omega) (jS zs.1 (ju 'd' 'd')) (jS (by rw[kq];exact zs.2) (ju 'd' 'd')) (j7 _) (iD gz ?_) ?_ λH4 ks4 s4 d4 p4=>?_
      . unfold Qa;exact(List.take_prefix i S.w).filter _
      . have h1:(Qa S.ns (S.w.take i) e).length<=(S.w.take i).length:=List.length_filter_le _ _;have h2:=ok.few;rw[jW]at h1;omega
      . refine⟨λb u n h=>s4 _ _ (λz=>by rw[z,ft]at h;cases h) (bu3 b u n h),s4 _ _ ntd.symm ef3,ks4,_,_,_,_,rfl,d4,?_⟩;rw[hnow,esn,qh (qi c)];exact p4
    . refine nxt ⟨bu3,ef3,xE,_,_,_,_,rfl,dt3,?_⟩;rw[hnow,esn,qg (by simp[c]),jk];exact pr3
   |_=>exact ok.row.elim
 . rintro σ H' ⟨bu,ef,xE,c3,c4,c5,c6,rfl,dt',pr'⟩;rw[kl,jr]at pr';refine⟨o,ef,_,rfl,?_⟩;have bu9:Bu d H' (upd H' d (k2HO w d ks)):=λb u n e=>by rw[xZ n];exact e
   refine q td xE _ (λb u h=>?_) ft (QQ ef (λxs z=>by cases z) (λo xs z=>by cases z) ntd bu9 dt') (JY (λr v h=>Xr ef (λxs z=>by cases z) (λo xs z=>by cases z) bu9 h) pr')
   by_cases z:b=d
   . rw[z,dd.at_]at h;rw[z,J1];exact h
   . rw[xZ z];exact bu b u z h
def DA(nm pool:xp)(S:SL):Wr->Prop
 |.draw x os=>x∈pool/\OsJ 27720 os/\os.length<=3/\1<=os.length/\(wk1 (.draw x os) S).w.length<=8
 |.lett x e=>x∈pool/\Lf nm e 2 3
 |.seen e=>Lf nm e 3 3
 |_=>False
def tJ(K:xh)(w:xU):Sp:=λvs H Q _=>∃(c:Int) (nl pl d:xS) (nm pool:xp) (S:SL) (ks:List KE),vs=[.int c,.ref nl,.ref pl,.ref d]/\SqL K H nl (nm.map V.str)/\nm.length<=63/\nm≠[]/\SqL K H pl (pool.map V.str)/\pool≠[]/\pool.length<=10/\D2 w H d none ks/\Paired (EntQ K H) (nowL S) ks /\
 (∀e,Lf nm e 2 3->BhOk (.seen e) S)/\(∀x∈pool,∀os,OsJ 27720 os->os.length<=3->BhOk (.draw x os) S) /\
 ∀(p:xS) (r:Wr) (H':Hp),Same H H'->IsA K H H' (dW r) (.ref p)->DA nm pool S r->Q (.ref p) H'
def DB(B:Bl mg)(Qh:Def P w K mg base "_law_mixed" 1 ["_law_cell", "_law_k"] cX)(iH:Def P w K mg base "_law_expression" 2 ["_law_cell", "_law_names"] (sS K))(Y1:Def P w K mg base "_law_outcomes" 3 ["_law_cell", "_law_many", "_law_far"] (iw K))(XU:Def P w K mg base "_law_behind" 13 ["_law_row_here", "_law_now"] (iG K w))(F:Fn K mg "_law_row" bN ["_law_cell", "_law_names", "_law_pool", "_law_now"]):Def P w K mg base "_law_row" 14 ["_law_cell", "_law_names", "_law_pool", "_law_now"] (tJ K w):=by
 refine F.ok cq (λvs H Q E h=>?_) (λf xu A outer s H vs Q E hr h=>?_)
 . obtain⟨c,nl,pl,d,nm,pool,S,ks,rfl,_⟩:=h;rfl
 obtain⟨c,nl,pl,d,nm,pool,S,ks,rfl,qn,n63,nne,qp,pne,p10,dd,pr,hs,hdr,q⟩:=h
 refine⟨_,(@J0 _ _ _ _ _ (Ja (i:=4) cq.nd rfl 'a' (J4 (J3 K rfl) (pv 2) (J5 Jv (J9 Qh hr rfl (xW (pv 0) (xW xX xY))) (Q1 (XZ K rfl) rfl B.len PySem.boot_len (xW (pv 2) xY))) (λ_ _=>rfl)))
  (@J0 _ _ _ _ _ (Ja (i:=5) cq.nd rfl 'a' (J9 iH hr rfl (xW (J5 JV (pv 0) xX) (xW (pv 1) xY))))
  (@J0 _ _ _ _ _ (Je (Jd (Jm.or (ba w rfl hr.units)) (J5 Jv (pv 0) xX) xX (J8 _)) (@J0 _ _ _ _ _ (Je (PW.pt (lE (Jd (Jm.or (ba w rfl hr.units)) (J9 XU hr rfl (xW (Jq (xW Jc (xW (pv 5) xY))) (xW (pv 3) xY))) aB (J8 _)) (lD (Jd ai (J5 Jv (J5 JV (pv 0) xX) xX) xX (J8 _))))) (@J2 _ _ _ (J7 (Jq (xW Jc (xW (Jq (xW Jc (xW (pv 5) xY))) xY))))) Jg)
  (@J2 _ _ _ (J7 (Jq (xW Jc (xW (pv 5) xY)))))) Jg)
  (@J0 _ _ _ _ _ (Je (Jd Yc (J5 Jv (pv 0) xX) xX (J8 _)) (@J0 _ _ _ _ _ (Ja (i:=6) cq.nd rfl 'a' (Jq (xW Jc (xW (pv 4) (xW (J9 Y1 hr rfl (xW (pv 0) (xW (J5 (Jz.or (JH.or (JI.or (JK K rfl)))) xX (J5 Jv (J5 JV (pv 0) xX) xX)) (xW aa xY)))) xY)))))
  (@J2 _ _ _ (Je (Jd va (Q1 (AC w rfl) rfl B.len PySem.boot_len (xW (J9 XU hr rfl (xW (pv 6) (xW (pv 3) xY))) xY)) xX (J8 _)) (@J2 _ _ _ (J7 (pv 6))) Jg))) Jg)
  (@J2 _ _ _ (J7 (Jq (xW Jc (xW (pv 4) (xW (pv 5) xY)))))))))),?_⟩
 have big:(10000:Nat)<sizeLine:=by decide
 have lp:0<pool.length:=List.length_pos_iff.mpr pne;refine⟨_,rfl,_,rfl,c,9,rfl,by decide,by decide,λr r0 r1=>?_⟩;have i0:=kS r (show(pool.length:Int)≠0 by omega);have i1:=kE r (show(0:Int)<(pool.length:Int) by omega);obtain⟨j,hj,ej⟩:∃j:Nat,j<pool.length/\r % (pool.length:Int)=(j:Int):=⟨(r % (pool.length:Int)).toNat,by omega,by omega⟩
 have at_:atI (pool.map V.str) (r % ((pool.map V.str).length:Int))=some (.str pool[j]):=by
  rw[jA,ej];exact Qe (by rw[jD,jB hj];rfl)
 have hm:=jX hj;generalize pool[j]=xn at at_ hm;refine⟨_,rfl,_,_,rfl,Zu qp,_,_,rfl,rfl,(by rw[jA];omega),.inl ⟨pl,_,_,.str xn,rfl,rfl,qp,at_,?_⟩⟩;dsimp only[Jh,List.set,L2.JD];refine⟨_,rfl,_,_,rfl,rfl,⟨by decide,by decide⟩,_,rfl,_,nl,nm,rfl,qn,by omega,nne,λpe e H2 s2 a2 f2=>?_⟩;dsimp only[Jh,List.set];have pr2:Paired (EntQ K H2) (nowL S) ks:=JY (λr v h=>h.same s2) pr;have dd2:=dd.same s2;have z2:(2:Nat)<=sizeLine:=by decide
 have z3:(3:Nat)<=sizeLine:=by decide
 refine⟨_,rfl,_,_,rfl,rfl,(by show(0:Int)<9;decide),.inl ⟨_,_,rfl,rfl,_,rfl,Ji (λh8=>?_) (λh8=>nxt ?_)⟩⟩
 . refine BN (λ_=>True) (λQ' hQ=>?_) (λH4 s4 _=>?_) (λH4 s4 _=>nxt ?_)
   . refine⟨_,rfl,z2,λp3 n3=>⟨_,rfl,?_⟩⟩;have u3:=J6 n3 (.tup [.str "seen",.ref pe]);have i3:IsA K H _ (dW (.seen e)) (.ref p3):=Qr s2 n3 λA a=>⟨_,_,rfl,rfl,_,_,rfl,a2 A a,rfl⟩;refine⟨_,d,.seen e,S,ks,rfl,i3.plain,dd2.same u3,JY (λr v h=>h.same u3) pr2,hs e f2,λtd xE H5 s5 ft d5 p5=>?_⟩;refine λp6 n6 => .inr ⟨td,p6,xE,rfl,rfl,d5.same (J6 n6 _),J1,_,rfl,?_⟩;have s6:=u3.trans (s5.trans (J6 n6 (.dK [])));refine Ji (λ_=>?_) λ_=>hQ _ _ s6 trivial;exact⟨_,rfl,_,_,rfl,rfl,⟨by decide,by decide⟩,_,_,rfl,rfl,(by show(0:Int)<4;decide),_,_,rfl,rfl,_,rfl,hQ _ _ s6 trivial⟩
   . refine⟨_,rfl,z2,λp5 n5=>⟨z2,λp6 n6=>?_⟩⟩;have s24:=s2.trans s4;have a5:IsA K H _ (dE (.un e)) (.ref p5):=Qr s24 n5 λA a=>⟨_,_,rfl,rfl,_,_,rfl,a2.same s4 A a,rfl⟩;have s5:=s24.trans (J6 n5 (.tup [.str "not",.ref pe]));refine q p6 (.seen (.un e)) _ (s5.trans (J6 n6 _)) (Qr s5 n6 λA a=>⟨_,_,rfl,rfl,_,_,rfl,a5 A a,rfl⟩) ⟨f2.ok,?_,f2.few,f2.sub⟩;have:=f2.high;show e.high+1<=3;omega
   . have s24:=s2.trans s4;exact⟨_,rfl,z2,λp5 n5=>q p5 (.seen e) _ (s24.trans (J6 n5 _)) (Qr s24 n5 λA a=>⟨_,_,rfl,rfl,_,_,rfl,a2.same s4 A a,rfl⟩) ⟨f2.ok,by have:=f2.high;omega,f2.few,f2.sub⟩⟩
 . refine⟨_,rfl,_,_,rfl,rfl,(by show(0:Int) < 9;decide),_,_,rfl,rfl,_,rfl,Ji (λh4=>?_) (λh4=>nxt ?_)⟩
   . refine⟨_,rfl,_,rfl,_,rfl,_,_,rfl,rfl,⟨by decide,by decide⟩,_,_,rfl,rfl,(by show(0:Int) < 3;decide),.inl ⟨_,_,rfl,rfl,c,_,false,rfl,by omega,by omega,λpo os H3 D0 s3 a3 oj ol dk df=>⟨z3,λp4 n4=>?_⟩⟩⟩;obtain rfl:=df rfl;have s23:=s2.trans s3;have u4:=J6 n4 (.tup [.str "draw",.str xn,.ref po]);have s34:=s3.trans u4;have i4:IsA K H _ (dW (.draw xn os)) (.ref p4):=Qr s23 n4 λA a=>⟨_,_,rfl,rfl,_,_,rfl,rfl,_,_,rfl,a3.back s2 A a,rfl⟩;dsimp only[Jh,List.set];refine rp (λb=>b=true->(wk1 (.draw xn os) S).w.length<=8) (λQ' hQ=>?_) (λH5 s5 h5=>?_) (λH5 s5 h5=>nxt ?_)
     . refine⟨_,rfl,_,rfl,_,d,.draw xn os,S,ks,rfl,i4.plain,dd2.same s34,JY (λr v h=>h.same s34) pr2,hdr xn hm os oj oj.few,λtd xE H5 s5 ft d5 p5=>⟨td,none,xE,rfl,d5,_,_,rfl,rfl,_,rfl,hQ _ _ s5 λhb=>?_⟩⟩;have:=qG List.length (Ze p5);unfold nowL at this;rw[jA,jA,jA]at this;have hb:=qm hb;omega
     . exact⟨_,rfl,q p4 (.draw xn os) _ (s2.trans (s34.trans s5)) (i4.same s5) ⟨hm,oj,oj.few,oj.one,h5 rfl⟩⟩
     . have s25:=s2.trans (s34.trans s5);exact⟨_,rfl,_,rfl,z3,λp6 n6=>q p6 (.lett xn e) _ (s25.trans (J6 n6 _)) (Qr s25 n6 λA a=>⟨_,_,rfl,rfl,_,_,rfl,rfl,_,_,rfl,(a2.same s34).same s5 A a,rfl⟩) ⟨hm,f2⟩⟩
   . exact⟨_,rfl,_,rfl,z3,λp6 n6=>q p6 (.lett xn e) _ (s2.trans (J6 n6 _)) (Qr s2 n6 λA a=>⟨_,_,rfl,rfl,_,_,rfl,rfl,_,_,rfl,a2 A a,rfl⟩) ⟨hm,f2⟩⟩
def tK(K:xh):Sp:=λvs H Q _=>∃(t pl rl al:xS) (ys:List V) (rs:List Wr) (ss:xp),vs=[.ref t]/\SqT K H t [.ref pl,.ref rl,.ref al]/\SqL K H al (ss.map V.str)/\SqL K H pl []/\SqL K H rl ys/\IsDs K H (dWs rs) ys/\hiW rs<6/\AddOk 500 [] [([],1)]/\fts 500 rs ⟨[],[([],1)]⟩/\SOk (wks rs ⟨[],[([],1)]⟩)/\(wks rs ⟨[],[([],1)]⟩).w=[]/\(wks rs ⟨[],[([],1)]⟩).ns.Nodup /\
 (∀n∈ss,n∈(wks rs ⟨[],[([],1)]⟩).ns)/\ss.length<=4/\(∃D M,TBd D (60*M))/\∀H',Same H H'->Q (.bl true) H'
def DC(B:Bl mg)(iI:NmC mg "TooMany" YV)(ZW:NmC mg "CannotBe" xJ)(iJ:NmC mg "DrawError" Zf)(xn:PySem.W.exmOne K (.ref xJ) (.ref YV)=some false)(xm1:PySem.W.exmOne K (.ref xJ) (.ref xJ)=some true)(iK:ExcIs K xJ)(kt1:PySem.W.kitOne K (.ref xJ) (.ref Zf)=some true)
 (iL:DefD P w K mg base "walked" 34 ["program", "most"] (.int 500) (cV K xJ)) (F:Fn K mg "_law_cannot" bP ["_law_program"]):Def P w K mg base "_law_cannot" 35 ["_law_program"] (tK K):=by
 refine F.ok YC (λvs H Q E h=>?_) (λf xu A outer s H vs Q E hr h=>?_)
 . obtain⟨t,pl,rl,al,ys,rs,ss,rfl,_⟩:=h;rfl
 obtain⟨t,pl,rl,al,ys,rs,ss,rfl,qt,qa,qpl,qr,dr,hi,ao,ft,so,em,nd,sub,s4,⟨D,M,tb⟩,q⟩:=h
 refine⟨_,(@J0 _ _ _ _ _ (Ja (i:=1) YC.nd rfl 'a' Jc)
  (@J0 _ _ _ _ _ (zY rfl rfl rfl (zS (zU (zW iL hr rfl (xW (pv 0) xY)))) (zR rfl iI.mg (λ_=>(@J2 _ _ _ (Ja (i:=1) YC.nd rfl 'a' Jc))) (zP (i:=2) YC.nd rfl rfl rfl ZW.mg (λ_=>(@J2 _ _ _ (Ja (i:=1) YC.nd rfl 'a' (XW (Y4 (Q1 (zH K rfl) rfl B.isinstance PyProof.Rows.boot_isinstance (xW (pv 2) (xW (uI (v := .ref Zf) rfl iJ.mg rfl) xY)))) Jc Jc)))) zN)))
  (@J2 _ _ _ (J7 (Qb Jj (pv 1) Jc (J8 _)))))),?_⟩
 refine⟨_,rfl,t,pl,rl,al,500,ys,rs,ss,rfl,qt,qa,qpl,qr,dr,hi,ao,ft,so,by rw[em];exact jT _,nd,sub,s4,⟨D,M,tb,λp hp=>by rw[em]at hp;cases hp⟩,λ_ H1 s1=>?_,λc=>absurd em c⟩;refine⟨xJ,rfl,.inr ⟨xn,.inl ⟨xm1,λe fe=>?_⟩⟩⟩;have s2:=s1.trans (J6 fe (Xe xJ e none));have ee:upd H1 e (Xe xJ e none) e=some (Xe xJ e none):=J1;generalize upd H1 e (Xe xJ e none)=H2 at s2 ee ⊢;refine⟨_,rfl,e,.ref Zf,xJ,none,true,rfl,rfl,ee,iK,kt1,_,rfl,Xv ?_⟩;exact⟨_,rfl,_,_,rfl,rfl,q H2 s2⟩
def Pln:Wr->Prop
 |.draw _ _=>True
 |.lett _ _=>True
 |.seen _=>True
 |_=>False
theorem tL:∀{ds:List D}{ys:List V},Paired (λd v=>IsD K H d v) ds ys->IsDs K H ds ys
 |_,_,.nil=>rfl
 |_,_,.cons h t=>⟨_,_,rfl,h,tL t⟩
def tM(K:xh):Sp:=λvs H Q _=>∃(t pl rl al:xS) (ys:List V) (rs:List Wr) (ss:xp),vs=[.ref t]/\SqT K H t [.ref pl,.ref rl,.ref al]/\SqL K H al (ss.map V.str)/\SqL K H rl ys/\IsDs K H (dWs rs) ys/\ss.length<=4/\ys.length<=60/\(∀r∈rs,∀x os,r=.draw x os->os.length<=3)/\(∀r∈rs,Pln r) /\
 ∀(t' pl' rl' al':xS) (ys':List V) (H':Hp),Same H H'->H t'=none->H' t'=some (.tup [.ref pl',.ref rl',.ref al'])->H' pl'=some (.lst [])->H' rl'=some (.lst ys')->IsDs K H' (dWs rs) ys'->H' al'=some (.lst (ss.map V.str))->Q (.ref t') H'
def DD(h:wi σ H (Q5 ix te σ λx H1=>tr σ H1 λxs H2=>R (x::xs) H2)):JF (Qv ix wi Q7 te) tr σ H R:=h
def YW(n:b≠a)(e:H b=some u):Q8 a H b=some u:=by
 rw[aS n];exact e
theorem DE(B:Bl mg)(F:Fn K mg "_law_copied" bQ ["_law_program"]):Def P w K mg base "_law_copied" 1 ["_law_program"] (tM K):=by
 refine F.ok B6 (λvs H Q E h=>?_) (λf xu A outer s H vs Q E hr h=>?_)
 . obtain⟨t,pl,rl,al,ys,rs,ss,rfl,_⟩:=h;rfl
 obtain⟨t,pl,rl,al,ys,rs,ss,rfl,qt,qa,qr,dr,s4,y60,o3,pl3,q⟩:=h;refine⟨_,(@J2 _ _ _ (J7 (Jq (xW (QB xY) (xW (QL (CompOk.of (x := "_law_row_here") (M:=[]) (ix:=[]) rfl rfl (by decide +kernel) (by decide +kernel) rfl trivial 'e' trivial) rfl (by decide +kernel) (Qj (J4 (J3 K rfl) (pv 0) xX (λ_ _=>rfl))) (λ_ _ _ _ _=>Qf) (λ_ _ _ _ _=>(XW (Jd Jj (J4 (J3 K rfl) (pv 0) xX (λ_ _=>rfl)) Jc (J8 _)) (J5 (Jz.or (JH.or (JI.or (JK K rfl)))) (QT ((Xw K rfl).or (Xx K rfl)) (pv 0) X2 (QJ xX)) (Jq (xW (JU (mW K rfl) rfl B.list PyProof.Rows.boot_list (xW (J4 (J3 K rfl) (pv 0) xX (λ_ _=>rfl)) xY)) xY))) (pv 0)))) (xW (JU (mW K rfl) rfl B.list PyProof.Rows.boot_list (xW (J4 (J3 K rfl) (pv 0) xX (λ_ _=>rfl)) xY)) xY)))))),?_⟩;refine⟨by show 0<=sizeLine;decide,λp0 n0=>DD ?_⟩;have u0:=J6 n0 (.lst []);have e0:upd H p0 (.lst []) p0=some (.lst []):=J1;generalize upd H p0 (.lst [])=H0 at u0 e0 ⊢;have dl:=dr.length;have qt0:=u0.tupq qt;have qr0:=u0.seq qr;have dr0:=dr.same u0;have big:(1000:Nat)<sizeLine:=by decide
 refine⟨_,rfl,.inr (.inl ⟨t,_,1,.ref rl,rfl,rfl,qt0,Q4,rl,rfl,⟨_,qr0⟩,?_⟩)⟩;refine Yo (α:=D) (λH d v=>IsD K H d v) (λs h=>h.same s) ys.length (λi=>ys.getD i .non) (dWs rs) dl.symm 'c' (λH' sm=>⟨ys,sm.seq qr0,jE _⟩) (λi H' hi sm=>⟨⟨ys,ys[i],sm.seq qr0,jB hi⟩,λx xw hy=>?_⟩) (λi dd Da H' R hi hd sm nD oD hR=>?_) λp1 H1 ys' s1 n1 e1 pr1=>?_
 . obtain⟨e,y⟩:=hy;refine⟨?_,e⟩;have:=y ys (sm.seq qr0);rw[jL,this];rfl
 . obtain⟨x,ex,dx⟩:=dr0.get hd;have eg:ys.getD i .non=x:=by rw[jL,ex];rfl
   rw[eg];rw[Xl,jD]at hd
   obtain⟨r,er,rfl⟩:∃r,rs[i]?=some r/\dd=dW r:=by
    cases e:rs[i]? with
    |none=>rw[e]at hd;cases hd
    |some r=>rw[e]at hd;cases hd;exact⟨r,rfl,rfl⟩
   have hm:=jZ er;have old:IsD K (Q8 Da H') (dW r) x:=dx.same (fN nD sm)
   cases r with
   |draw y os =>
    obtain⟨tr,zz,rfl,qr1,_,_,rfl,rfl,_,_,rfl,rfl,_,_,rfl,⟨ol,zs,rfl,qo,dzs⟩,rfl⟩:=id dx;have zl:=dzs.length;unfold dOs at zl;rw[jA]at zl;have o3':=o3 _ hm y os rfl;refine⟨_,rfl,.inr (.inl ⟨tr,_,0,.str "draw",rfl,rfl,sm.tupq qr1,JG,_,_,rfl,rfl,_,rfl,ZQ rfl ?_⟩)⟩;refine⟨_,rfl,_,rfl,.inr ⟨tr,_,rfl,sm.tupq qr1,by show ¬(HT.sIx 3 0 none=0/\HT.sIx 3 3 (some 2)=3);decide,λp2 n2=>?_⟩⟩;rw[show JB [V.str "draw",.str y,.ref ol] none (some 2)=[V.str "draw",.str y] from rfl];have u2:=J6 n2 (.tup [.str "draw",.str y]);refine⟨_,rfl,.inr (.inl ⟨tr,_,2,.ref ol,rfl,rfl,(sm.trans u2).tupq qr1,Zb,ol,zs,rfl,.inl ((sm.trans u2).seq qo),λp3 n3=>⟨by show 1<=sizeLine;decide,λp4 n4=>?_⟩⟩)⟩;have u3:=J6 n3 (.lst zs);have u4:=J6 n4 (.tup [.ref p3]);refine .inr (.inr (.inr ⟨p2,p4,_,_,rfl,rfl,.of (u4 _ _ (u3 _ _ J1)),.of J1,(λz=>nomatch z),by show 3<=sizeLine;decide,λz=>(nomatch z),λ_ p5 n5=>?_⟩));have u5:=J6 n5 (.tup [.str "draw",.str y,.ref p3]);have s5:=u2.trans (u3.trans (u4.trans u5));obtain⟨oDa,eDa⟩:=oD;have n3':p3≠Da:=λz=>by rw[z]at n3;rw[u2 _ _ eDa]at n3;cases n3
    have n5':p5≠Da:=λz=>by rw[z]at n5;rw[u4 _ _ (u3 _ _ (u2 _ _ eDa))]at n5;cases n5
    refine hR _ _ s5 ⟨p5,_,rfl,.of (YW n5' J1),_,_,rfl,rfl,_,_,rfl,rfl,_,_,rfl,⟨p3,zs,rfl,.of (YW n3' (u5 _ _ (u4 _ _ J1))),dzs.same (fN nD (sm.trans s5))⟩,rfl⟩
   |lett y e =>
    obtain⟨tr,zz,rfl,qr1,_,_,rfl,rfl,_⟩:=id dx;exact⟨_,rfl,.inr (.inl ⟨tr,_,0,.str "let",rfl,rfl,sm.tupq qr1,JG,_,_,rfl,rfl,_,rfl,Ji (λc=>absurd c (by show("let" : Str) ≠ "draw";decide)) λ_=>⟨_,rfl,hR _ _ (Same.refl _) old⟩⟩)⟩
   |seen e =>
    obtain⟨tr,zz,rfl,qr1,_,_,rfl,rfl,_⟩:=id dx;exact⟨_,rfl,.inr (.inl ⟨tr,_,0,.str "seen",rfl,rfl,sm.tupq qr1,JG,_,_,rfl,rfl,_,rfl,Ji (λc=>absurd c (by show("seen" : Str) ≠ "draw";decide)) λ_=>⟨_,rfl,hR _ _ (Same.refl _) old⟩⟩)⟩
   |_=>exact(pl3 _ hm).elim
 . have s01:=u0.trans s1;refine⟨_,rfl,.inr (.inl ⟨t,_,2,.ref al,rfl,rfl,s01.tupq qt,Zb,al,_,rfl,.inl (s01.seq qa),λp2 n2=>⟨by show 3<=sizeLine;decide,λp3 n3=>?_⟩⟩)⟩;have u2:=J6 n2 (.lst (ss.map V.str));have u3:=J6 n3 (.tup [.ref p0,.ref p1,.ref p2]);have dp:IsDs K H1 (dWs rs) ys':=tL pr1;have s03:=s01.trans (u2.trans u3);refine q p3 p0 p1 p2 ys' _ s03 ?_ J1 (u3 _ _ (u2 _ _ (s1 _ _ e0))) (u3 _ _ (u2 _ _ e1)) (dp.same (u2.trans u3)) (u3 _ _ J1)
   cases e:H p3 with
   |none=>rfl
   |some u=>rw[u2 _ _ (s01 _ _ e)]at n3;cases n3
def nmQ(i:Nat):xr->List (Key×Int)
 | []=>[]
 |v::vs=>(.inl (i:Nat),v)::nmQ (i+1) vs
theorem tN:∀{a b:xr}{i:Nat},Jt (nmQ i a)=Jt (nmQ i b)->a=b
 | [],[],_,_=>rfl
 | [],_::_,_,h=>by unfold Jt nmQ at h;cases h
 |_::_,[],_,h=>by unfold Jt nmQ at h;cases h
 |x::a,y::b,i,h=>by
  have h:(Sum.inr [Sum.inl (i:Int),Sum.inl x]:Key ⊕ List Key)::Jt (nmQ (i+1) a)=Sum.inr [Sum.inl (i:Int),Sum.inl y]::Jt (nmQ (i+1) b):=h;injection h with h1 h2
  injection h1 with h1
  injection h1 with _ h1
  injection h1 with h1
  injection h1 with h1
  rw[h1,tN h2]
theorem YX:∀(vs:xr) (i:Nat),(nmQ i vs).length=vs.length
 | [],_=>rfl
 |_::vs,i=>by unfold nmQ;rw[jV,jV,YX vs]
theorem dB:∀{vs:xr}{i:Nat}{p:Key×Int},p∈nmQ i vs->∃j:Nat,i<=j/\p.1=.inl (j:Nat)
 |v::vs,i,p,h=>by
  unfold nmQ at h;rcases jJ.mp h with rfl|h
  . exact⟨i,jE _,rfl⟩
  . obtain⟨j,h1,h2⟩:=dB h;exact⟨j,by omega,h2⟩
theorem iM:∀(vs:xr) (i:Nat),(nmQ i vs).Pairwise λp q=>kLt p.1 q.1=true
 | [],_ => .nil
 |v::vs,i=>by
  unfold nmQ;refine kK.mpr ⟨λp hp=>?_,iM vs (i+1)⟩;obtain⟨j,h1,h2⟩:=dB hp;rw[h2];exact qi 'c'
def kmN(l:List (xr×Rat)):List KR:=l.map λp=>(Jt (nmQ 0 p.1),p.2)
def DF(kn:(acc.map (·.1)).Nodup)(v:xr)(x:Rat):Xq (kmN acc) (Jt (nmQ 0 v)) x=kmN (Js acc v x) :=
 tF (f:=λv=>Jt (nmQ 0 v)) (λ_ _ e=>tN e) kn x
def iN{w:List (xr×Rat)}{f:xr->xr}(q:xr->Bool):mass (w.map λp=>(f p.1,p.2)) q=mass w λv=>q (f v):=by
 unfold mass;rw[List.filter_map,jb];rfl
def DG{qs w:List (xr×Rat)}{f:xr->xr}(pm:qs.Perm (gaR [] (w.map λp=>(f p.1,p.2))))(pw:qs.Pairwise λp q=>HT.lexLt p.1 q.1=true):IsT qs w f:=by
 refine⟨pw,λk=>((pm.map (·.1)).mem_iff).trans (Zd.trans ?_),λq=>?_⟩
 . rw[jb];exact jG.trans ⟨λ⟨p,hp,e⟩=>⟨p,hp,e.symm⟩,λ⟨p,hp,e⟩=>⟨p,hp,e.symm⟩⟩
 . rw[hJ pm,i9,iN]
def tO{w:List (xr×Rat)}(h:w≠[]):gaR [] (w.map λp=>(([]:xr),p.2))=[([],tot w)]:=by
 have nd:=Xm (w.map λp=>(([]:xr),p.2))
 have hk:∀p∈gaR [] (w.map λp=>(([]:xr),p.2)),p.1=[]:=λp hp=>by
  obtain⟨r,hr,e⟩:=jG.mp (Zd.mp (jG.mpr ⟨p,hp,rfl⟩));obtain⟨s,_,rfl⟩:=jG.mp hr;exact e.symm
 have hm:=i9 (w.map λp=>(([]:xr),p.2)) λ_=>true
 have mem:([]:xr)∈(gaR [] (w.map λp=>(([]:xr),p.2))).map (·.1):=by
  obtain⟨p,hp⟩:=List.exists_mem_of_ne_nil w h;exact Zd.mpr (jG.mpr ⟨([],p.2),jG.mpr ⟨p,hp,rfl⟩,rfl⟩)
 have ht:mass (w.map λp=>(([]:xr),p.2)) (λ_=>true)=tot w:=by rw[iN (f:=λ_=>[]),YQ]
 rw[ht]at hm;generalize gaR [] (w.map λp=>(([]:xr),p.2))=l at nd hk hm mem ⊢
 match l,nd,hk,hm,mem with
 | [],_,_,_,mem=>cases mem
 | [p],_,hk,hm,_ =>
  have e1:=hk p jO;have e2:mass [p] (λ_=>true)=p.2:=by unfold mass;first|exact Rat.add_zero _|exact Rat.zero_add _|simp[JR]
  rw[e2]at hm;rw[<- hm,<- e1]
 |p::q::l,nd,hk,_,_ =>
  rw[jM,jM,jm]at nd;exact absurd (by rw[hk p jO,hk q (jN _ jO)];exact jO) nd.1
def RowS(K:xh)(H:Hp)(g:xr×Rat)(x:V):Prop:=∃v,QM H x (g.1,v)/\IsD K H (dF g.2) v
theorem tP:∀{gs:List (xr×Rat)}{zs:List V},Paired (RowS K H) gs zs->∃ks:List (xr×V),Acc K H gs ks/\zs.length=ks.length/\∀(i:Nat) (x:V) (kv:xr×V),zs[i]?=some x->ks[i]?=some kv->QM H x kv
 |_,_,.nil=>⟨[],.nil,rfl,λi x kv h=>by simp at h⟩
 |_,_,.cons (a:=g) ⟨v,h1,h2⟩ t=>by
  obtain⟨ks,h3,h4,h5⟩:=tP t;refine⟨(g.1,v)::ks,.cons ⟨rfl,h2⟩ h3,by rw[jV,jV,h4],λi x kv e1 e2=>?_⟩
  cases i with
  |zero=>cases e1;cases e2;exact h1
  |succ i=>exact h5 i x kv (by simpa using e1) (by simpa using e2)
def tQ{zs:List V}{gs:List (xr×Rat)}{Q:VK}(qa:SqL K H a zs)(pr:Paired (RowS K H) gs zs)(nd:(gs.map (·.1)).Nodup)(l64:gs.length<64)
 (q:∀(l:xS) (qs:List (xr×Rat)) (H':Hp),Same H H'->H l=none->qs.Perm gs->qs.Pairwise (λp q=>HT.lexLt p.1 q.1=true)->IsD K H' (.lst (qs.map JM)) (.ref l)->Q (.ref l) H') :
 ∃(a':xS) (xs:List V) (ks:List (xr×V)),[V.ref a]=[.ref a']/\SqL K H a' xs/\'h'=ks.length/\ks.length<64/\(∀(i:Nat) (x:V) (kv:xr×V),xs[i]?=some x->ks[i]?=some kv->QM H x kv)/\(ks.map (·.1)).Nodup /\
  ∀(l:xS) (qs:List (xr×V)) (ys:List V),qs.Perm ks->qs.Pairwise (λp q=>HT.lexLt p.1 q.1=true)->H l=none->ys.length=qs.length->(∀(i:Nat) (x:V) (kv:xr×V),ys[i]?=some x->qs[i]?=some kv->QM H x kv)->Q (.ref l) (upd H l (.lst ys)):=by
 obtain⟨ks,ac,ln,pa⟩:=tP pr;have kl:=ac.length;have hk0:gs.map (·.1)=ks.map (·.1):=cF (G:=λr v=>IsD K H (dF r) v) ac;refine⟨a,zs,ks,rfl,qa,ln,by omega,pa,by rw[<- hk0];exact nd,λl qs ys pm pw nl yl pr2=>?_⟩;obtain⟨acc',h1,h2⟩:=gF pm ac;have hk:acc'.map (·.1)=qs.map (·.1):=cF (G:=λr v=>IsD K H (dF r) v) h2;have al:=h2.length;have s2:=J6 nl (.lst ys);refine q l acc' _ s2 nl h1 ?_ ⟨l,ys,rfl,.of J1,cG (by rw[jA];omega) λi x d' e1 e3=>?_⟩
 . have:(qs.map (·.1)).Pairwise λa b=>HT.lexLt a b=true:=jq.mpr pw;rw[<- hk]at this;exact jq.mp this
 . rw[jD]at e3
   cases ea:acc'[i]? with
   |none=>rw[ea]at e3;cases e3
   |some kr =>
    rw[ea]at e3
    cases e3
    obtain⟨kv,e4,e5,e6⟩:=X3 h2 ea;obtain⟨pp,b,rfl,e7,e8⟩:=pr2 i x kv e1 e4;exact⟨pp,_,rfl,.of (s2 _ _ e7),_,_,rfl,⟨b,_,rfl,.of (s2 _ _ e8),by rw[<- e5];exact YH _⟩,_,_,rfl,e6.same s2,rfl⟩
theorem RowS.same(h:RowS K H g x)(s:Same H H'):RowS K H' g x:=by
 obtain⟨v,⟨p,b,e,h1,h2⟩,h3⟩:=h;exact⟨v,⟨p,b,e,s _ _ h1,s _ _ h2⟩,h3.same s⟩
theorem RowS.lst{H:Hp}{g:xr×Rat}{x:V}{l:xS}{xs ys:List V}(e:H l=some (.lst xs))(h:RowS K H g x):RowS K (upd H l (.lst ys)) g x:=by
 obtain⟨v,⟨p,b,ex,h1,h2⟩,h3⟩:=h;refine⟨v,⟨p,b,ex,?_,?_⟩,IsD.updL e rfl h3⟩
 . rw[xZ (λz:p=l=>by rw[z,e]at h1;cases h1)];exact h1
 . rw[xZ (λz:b=l=>by rw[z,e]at h2;cases h2)];exact h2
theorem tR{α:Type}{F:α->V->Prop}{x:α}{y:V}(h:F x y):∀{l:List α}{m:List V},Paired F l m->Paired F (l++[x]) (m++[y])
 |_,_,.nil => .cons h .nil
 |_,_,.cons g t => .cons g (tR h t)
theorem iO{α:Type}{F G:α->V->Prop}(i:∀a y,F a y->G a y):∀{l:List α}{m:List V},Paired F l m->Paired G l m
 |_,_,.nil => .nil
 |_,_,.cons g t => .cons (i _ _ g) (iO i t)
def DH{ix:xq}{wi:TI}{te:TE}{r:List V->Hp->VK->Prop}{g:TG}{u:TS}{D:Ends}(h:wi σ H (Q5 ix te σ λx H1=>r [x] H1 λv H2=>g v σ H2 (u D))) :
 QS (QH (tCB r (JF (Qv ix wi Q7 te) JA)) g) u D σ H:=h
theorem iP:∀{ql:List (Key×Int)}{xs:List V},Paired (kiAt H) (Jt ql) xs->'h'=ql.length/\∀(i:Nat) (x:V) (q:Key×Int),xs[i]?=some x->ql[i]?=some q->∃b,x=.ref b/\H b=some (.tup [kV q.1,.int q.2])
 | [],_,h=>by
  cases h
  exact⟨rfl,λi x q e=>by simp at e⟩
 |p::ql,_,h=>by
  unfold Jt at h;rw[jM]at h
  cases h with
  |cons h t =>
   obtain⟨h1,h2⟩:=iP (ql:=ql) t;refine⟨by rw[jV,jV,h1],λi x q e1 e2=>?_⟩
   cases i with
   |zero=>cases e1;cases e2;exact h
   |succ i=>exact h2 i x q (by simpa using e1) (by simpa using e2)
theorem iQ:∀{l:List Rat},(∀r∈l,0<r)->0<=JR l/\(l≠[]->0<JR l)
 | [],_=>⟨by show(0:Rat)<=0;decide,λh=>absurd rfl h⟩
 |r::l,h=>by
  obtain⟨h1,_⟩:=iQ (l:=l) λr hr=>h r (jN _ hr);have h2:=h r jO;rw[XG];exact⟨by grind,λ_=>by grind⟩
def Zg{r:Rat}:0<r.num↔0<r:=by
 refine⟨λh=>Rat.lt_of_le_of_ne (Rat.num_nonneg.mp 'c') (λz=>by rw[<- z]at h;exact absurd h 'd'),λh=>?_⟩;have h1:=Rat.num_nonneg.mpr (Rat.le_of_lt h);have h2:r.num≠0:=λz=>by rw[Rat.num_eq_zero.mp z]at h;exact absurd h 'd'
 omega
def tS{w:List (xr×Rat)}(ne:w≠[])(h:∀p∈w,0<p.2.num):0<(tot w).num:=by
 refine Zg.mpr ((iQ λr hr=>?_).2 λz=>ne (List.map_eq_nil_iff.mp z));obtain⟨p,hp,rfl⟩:=jG.mp hr;exact Zg.mp (h p hp)
def RowS.bu(e:H d=some u)(nt:∀xs,u ≠ .tup xs)(nf:∀o xs,u ≠ .frz o (.tup xs))(s:Bu d H H')(h:RowS K H g x):RowS K H' g x:=by
 obtain⟨v,⟨p,b,ex,h1,h2⟩,h3⟩:=h;refine⟨v,⟨p,b,ex,s _ _ (λz=>?_) h1,s _ _ (λz=>?_) h2⟩,Xr e nt nf s h3⟩
 . rw[z,e]at h1;exact nt _ (Option.some.inj h1)
 . rw[z,e]at h2;exact nt _ (Option.some.inj h2)
def DI{α β:Type}{f:α->β}{l:List α}{m:List β}(h:m.Perm (l.map f)):∃l':List α,l'.Perm l/\m=l'.map f:=by
 have all:∀l:List α,Paired (λa b=>b=f a) l (l.map f):=λl=>by
  induction l with
  |nil=>exact .nil
  |cons a l ih=>exact .cons rfl ih
 have out:∀{l:List α}{m:List β},Paired (λa b=>b=f a) l m->m=l.map f:=by
  intro l m h
  induction h with
  |nil=>rfl
  |cons h _ ih=>rw[jM,h,ih]
 obtain⟨l',h1,h2⟩:=gF h (all l);exact⟨l',h1,out h2⟩
def DJ(t:Rat)(qs:List (xr×Rat)):(tld t qs).map (·.1)=qs.map (·.1):=by
 unfold tld;rw[jb];rfl
def DK(K:xh)(hK:X.K=K)(hl:PE X l tl):PI X tg l (lN K tl):=hK ▸ Y7 hl
def askV(S:SL)(ss:xp)(v:xr):xr:=ss.map (asg S.ns v)
structure TlOk (S:SL) (ss:xp):Prop where
 nd:S.ns.Nodup
 len:∀p∈S.w,p.1.length=S.ns.length
 nms:S.ns.length<=60
 sub:∀n∈ss,n∈S.ns
 four:ss.length<=4
 ne:S.w≠[]
 few:S.w.length<=60
 z:∀p∈S.w,sz p.2/\0<p.2.num
 sums:∀i,∀g∈gaR [] ((S.w.map λp=>(askV S ss p.1,p.2)).take i),sz g.2/\0<=g.2.num
 whole:∀i,∀g∈gaR [] ((S.w.map λp=>(([]:xr),p.2)).take i),sz g.2/\0<=g.2.num
abbrev asT(g:xr->xr)(S:SL)(i:Nat):List (xr×Rat):=gaR [] ((S.w.map λp=>(g p.1,p.2)).take i)
def dC:asT g S S.w.length=gaR [] (S.w.map λp=>(g p.1,p.2)):=by
 unfold asT;rw[<- jA (as:=S.w) (λp=>(g p.1,p.2)),jr]
def tT(K:xh)(w:xU):Sp:=λvs H Q _=>∃(d l:xS) (S:SL) (ss:xp) (ks:List KE),vs=[.ref d,.ref l]/\D2 w H d none ks/\Paired (EntQ K H) (nowL S) ks/\SqL K H l (ss.map V.str)/\TlOk S ss /\
 ∀(p:xS) (H':Hp) (qs:List (xr×Rat)),Same H H'->H p=none->IsT qs S.w (askV S ss)->IsD K H' (.lst ((tld (tot S.w) qs).map JM)) (.ref p)->Q (.ref p) H'
def DL
 (dt:D2 w H t none ks) (pr:Paired (EntQ K H) (kmN (gaR [] l)) ks) (hb:H b=some (.dK kvs)) (pm:((nmQ 0 v).map λp=>(p.1,V.int p.2)).Perm kvs) (v4:v.length<=4)
 (qp:SqT K H p [.int x,.int y]) (x0:0<=x) (y0:0<y) (xz:x.natAbs<2 ^ 4000) (yz:y.natAbs<2 ^ 4000) (eq:Rat.divInt x y=q) (zz:∀g∈gaR [] l,sz g.2/\0<=g.2.num) (k9:l.length<1000)
 (k:∀(H':Hp) (xE:List KE),SmA t H H'->D2 w H' t none xE->Paired (EntQ K H') (kmN (gaR [] (l++[(v,q)]))) xE->Q .non H'):Y0 K w [.ref t,.ref b,.ref p] H Q E:=by
 have kl:ks.length=(gaR [] l).length:=by rw[<- pr.length];exact jA _
 have gl:=Za l [];rw[kF,Nat.zero_add]at gl
 have key:∀kv∈kvs,∃j:Nat,kv.1=.inl (j:Nat):=λkv h=>by
  obtain⟨r,hr,e⟩:=jG.mp (pm.mem_iff.mpr h);obtain⟨j,_,ej⟩:=dB hr;exact⟨j,by rw[<- e];exact ej⟩
 have kvl:kvs.length<=4:=by
  rw[<- pm.length_eq,jA,YX];exact v4
 refine⟨t,b,p,ks,kmN (gaR [] l),kvs,nmQ 0 v, "int",x,y,rfl,dt,pr,hb,pm,iM _ _,λkv h=>?_,λr hr=>?_,by omega,qp,x0,y0,xz,yz,λg hg=>?_,by omega,λH' xE s d' pr'=>k H' xE s d' ?_⟩
 . obtain⟨j,e⟩:=key kv h;rw[e];rfl
 . obtain⟨j,_,e⟩:=dB hr;rw[e];rfl
 . obtain⟨r,hr,rfl⟩:=jG.mp hg;exact zz r hr
 . rw[tH,<- DF (Xm l),<- eq];exact pr'
def iR{o:Obj}{ks:List KE}{L:List KR}{i:Nat}{pe:KE}{r:KR}(dd:D2 w H d none ks)(pr:Paired (EntQ K H) L ks)(bu:Bu d H H')(ef:H' d=some (.frz o (k2HO w d ks)))(hpe:ks[i]?=some pe)(hk:L[i]?=some r):D2 w H' d (some o) ks/\K2At H' r.1 pe.2.1/\IsD K H' (dF r.2) pe.2.2/\Jw ks r.1=some pe.2.2:=by
 obtain⟨pe',e1,ek,dk⟩:=X3 pr hk;obtain rfl:pe=pe':=by rw[hpe]at e1;exact Option.some.inj e1
 have ddn:D2 w H' d (some o) ks:=da dd bu ef;rw[ek];exact⟨ddn,ddn.key pe (jZ hpe),XT (fz:=none) dd.at_ bu dk,dj dd.nd hpe⟩
def iS(dd:D2 w H d none ks)(bu:Bu d H Ha):Same H (upd Ha d (k2HO w d ks)):=λb u h=>by
 by_cases z:b=d
 . rw[z,dd.at_]at h;rw[z,J1];exact h
 . rw[xZ z];exact bu b u z h
def tU{i:Nat}(hi:i<S.w.length):(nowL S)[i]?=some (kf S.ns S.w[i].1,S.w[i].2):=by unfold nowL;rw[jD,jB hi];rfl
def tV(g:xr->xr)(hi:i<S.w.length)(ok:TlOk S ss)(g4:(g S.w[i].1).length<=4)(zz:∀q∈asT g S i,sz q.2/\0<=q.2.num)
 (dd:D2 w H d none ks) (pr:Paired (EntQ K H) (nowL S) ks) (bu:Bu d H H') (ef:H' d=some (.frz o (k2HO w d ks))) (hpe:ks[i]?=some pe) (ft:H t=none) (dt':D2 w H' t none xE) (pr':Paired (EntQ K H') (kmN (asT g S i)) xE)
 (s6:Same H' H6) (eb:H6 bp=some (.dK ((nmQ 0 (g S.w[i].1)).map λp=>(p.1,V.int p.2)))) :
 D2 w H6 d (some o) ks/\K2At H6 (kf S.ns S.w[i].1) pe.2.1/\Jw ks (kf S.ns S.w[i].1)=some pe.2.2/\∀(Q:VK) (E:XK),(∀H7,Bu d H H7->H7 d=some (.frz o (k2HO w d ks))->∀ks7,D2 w H7 t none ks7->Paired (EntQ K H7) (kmN (asT g S (i+1))) ks7->Q .non H7)->Y0 K w [.ref t,.ref bp,pe.2.2] H6 Q E:=by
 obtain⟨ddn,ka,dk',vk⟩:=iR dd pr bu ef hpe (tU hi)
 have etk:(S.w.map λp=>(g p.1,p.2)).take (i+1)=(S.w.map λp=>(g p.1,p.2)).take i++[(g S.w[i].1,S.w[i].2)]:=by
  rw[<- List.map_take,ja hi,jh,List.map_take];rfl
 obtain⟨zs,zn⟩:=ok.z _ (jX hi);obtain⟨pv0,epv,qpv⟩:=JS (a:=S.w[i].2.num) (b:=S.w[i].2.den) (dk'.same s6);have ntd:t≠d:=λz=>by rw[z,dd.at_]at ft;cases ft
 refine⟨ddn.same s6,ka.same (λb xs e=>s6 _ _ e) (λb xs e=>e.same s6),vk,λQ E k=>?_⟩;rw[epv];refine DL (dt'.same s6) (JY (λr v h=>h.same s6) pr') eb (List.Perm.refl _) g4 qpv 'c' (by have:=S.w[i].2.den_pos;omega) (jS zs.1 (ju 'd' 'd')) (jS (by rw[kq];exact zs.2) (ju 'd' 'd')) (j7 _) zz ?_ λH7 ks7 s7 d7 p7=>k H7 (λb u n h=>s7 _ _ (λz=>by rw[z,ft]at h;cases h) (s6 _ _ (bu b u n h))) (s7 _ _ ntd.symm (s6 _ _ ef)) ks7 d7 (by unfold asT;rw[etk];exact p7);rw[jW,jA];have:=ok.few;omega
theorem tW:∀(m acc:List (Key×V)),(acc.map (·.1)++m.map (·.1)).Nodup->JJ acc m=acc++m
 | [],acc,_=>by show acc=acc++[];rw[jk]
 |a::m,acc,h=>by
  have hp:Jf acc a.1 a.2=acc++[a]:=by
   unfold Jf
   rw[qg (λz=>by
    obtain⟨p,hp,e⟩:=kB.mp z;have e:p.1=a.1:=by simpa using e
    exact(kD.mp h).2.2 _ (jG.mpr ⟨p,hp,rfl⟩) _ (by rw[jM];exact jO) e)]
  show JJ (Jf acc a.1 a.2) m=_;rw[hp,tW m (acc++[a]) (by rw[jh,jz];exact h),jz];rfl
def DM(vs:xr)(i:Nat):((nmQ i vs).map (·.1)).Nodup:=by
 unfold List.Nodup;rw[jq];exact(iM vs i).imp λh e=>by rw[e]at h;exact t7 h h
theorem tX:∀{fs:List (Key×Int)}{ys:List V},Paired (λp v=>Qw H v (p.1,.int p.2)) fs ys->Paired (Qw H) ys (fs.map λp=>(p.1,V.int p.2))
 |_,_,.nil => .nil
 |_,_,.cons h t => .cons h (tX t)
def DN(h:wi σ H (Q5 ix te σ λx H1=>r [x] H1 λy H2=>tr σ H2 λxs H3=>R (y::xs) H3)):JF (tCB r (JF (Qv ix wi Q7 te) JA)) tr σ H R:=h
theorem iT:∀(vs:xr) (j i:Nat),(nmQ j vs)[i]?=vs[i]?.map λx=>((.inl ((j+i:Nat):Int):Key),x)
 | [],_,_=>rfl
 |v::vs,j,0=>rfl
 |v::vs,j,i+1=>by
  unfold nmQ;rw[kN,kN,iT vs (j+1) i,show j+1+i=j+(i+1) by omega]
theorem DO(B:Bl mg)(Xp:Def P w K mg base "_law_low" 2 ["_law_top", "_law_bottom"] (cY K))(Xs:Def P w K mg base "_law_add" 3 ["_law_now", "_law_book", "_law_part"] (Y0 K w))(F:Fn K mg "_law_told" bO ["_law_now", "_law_asked"]):Def P w K mg base "_law_told" 4 ["_law_now", "_law_asked"] (tT K w):=by
 refine F.ok XE (λvs H Q E h=>?_) (λf xu A outer s H vs Q E hr h=>?_)
 . obtain⟨d,l,S,ss,ks,rfl,_⟩:=h;rfl
 obtain⟨d,l,S,ss,ks,rfl,dd,pr,ql,ok,q⟩:=h
 refine⟨_,(@J0 _ _ _ _ _ (Ja (i:=2) XE.nd rfl 'a' (fZ w rfl))
  (@J0 _ _ _ _ _ (Yu w rfl (QI PassesOwn.never rfl (Yt w rfl (pv 0)) (Ju (i:=3) XE.nd rfl 'a') (@J2 _ _ _ (Qi (J9 Xs hr rfl (xW (pv 2) (xW (JU ((g8 rfl).or (fM rfl)) rfl B.dict PyProof.Rows.boot_dict (xW (QL (CompOk.of (x := "_law_k") (M:=["_law_key", "_law_asked"]) (ix:=[3,1]) rfl rfl (by decide +kernel) (by decide +kernel) rfl ⟨rfl,⟨rfl,trivial⟩⟩ 'e' ⟨⟨rfl,rfl,rfl,rfl⟩,⟨⟨rfl,rfl,rfl,rfl⟩,trivial⟩⟩) rfl (by decide +kernel) (Zj rfl B.range (xW (Q1 (XZ K rfl) rfl B.len PySem.boot_len (xW (pv 1) xY)) xY)) (λ_ _ _ _ _=>Qf) (λ_ _ _ _ _=>(Jq (xW (pv 0) (xW (Yi (QV hr) (JU ((g8 rfl).or (fM rfl)) rfl B.dict PyProof.Rows.boot_dict (xW (pv 1) xY)) (J4 (J3 K rfl) (pv 2) (pv 0) (λ_ _=>rfl)) (λ_ _=>rfl)) xY))))) xY)) (xW (QY w rfl (Qx hr) (pv 0) (pv 3) (λ_ _=>rfl)) xY))))))))
  (@J0 _ _ _ _ _ (Ja (i:=4) XE.nd rfl 'a' (fZ w rfl))
  (@J0 _ _ _ _ _ (Yu w rfl (QI PassesOwn.never rfl (Yt w rfl (pv 0)) (Ju (i:=3) XE.nd rfl 'a') (@J2 _ _ _ (Qi (J9 Xs hr rfl (xW (pv 4) (xW aB (xW (QY w rfl (Qx hr) (pv 0) (pv 3) (λ_ _=>rfl)) xY))))))))
  (@J0 _ _ _ _ _ (Ja (i:=5) XE.nd rfl 'a' (QB xY))
  (@J0 _ _ _ _ _ (Yu w rfl (QI PassesOwn.never rfl (Yt w rfl (pv 2)) (Ju (i:=3) XE.nd rfl 'a') (@J0 _ _ _ _ _ (Ja (i:=6) XE.nd rfl 'a' (JU (Zw K rfl) rfl B.tuple PyProof.Rows.boot_tuple (xW (QL (CompOk.of (x := "_law_pair") (M:=[]) (ix:=[]) rfl rfl (by decide +kernel) (by decide +kernel) rfl trivial 'e' trivial) rfl (by decide +kernel) (Y7 (pv 3)) (λ_ _ _ _ _=>Qf) (λ_ _ _ _ _=>(J4 (J3 K rfl) (pv 0) xX (λ_ _=>rfl)))) xY)))
  (@J2 _ _ _ (Qi (Zq PySem.F.plainAttrs_list PySem.F.slot_list_append PySem.F.type_list_append Zr (pv 5) (xW (Jq (xW (pv 6) (xW (J9 Xp hr rfl (xW (J5 JP (J4 (J3 K rfl) (QY w rfl (Qx hr) (pv 2) (pv 3) (λ_ _=>rfl)) xX (λ_ _=>rfl)) (J4 (J3 K rfl) (QY w rfl (Qx hr) (pv 4) (@Yq _ _ _) (λ_ _=>rfl)) xX (λ_ _=>rfl))) (xW (J5 JP (J4 (J3 K rfl) (QY w rfl (Qx hr) (pv 2) (pv 3) (λ_ _=>rfl)) xX (λ_ _=>rfl)) (J4 (J3 K rfl) (QY w rfl (Qx hr) (pv 4) (@Yq _ _ _) (λ_ _=>rfl)) xX (λ_ _=>rfl))) xY))) xY))) xY)))))))
  (@J2 _ _ _ (J7 (Q1 (aO K rfl (ZB hr)) rfl B.sorted PyProof.Rows.boot_sorted (xW (pv 5) xY)))))))))),?_⟩
 refine λtd ft=>?_;have s1:=J6 ft (k2HO w td []);have dt:D2 w (upd H td (k2HO w td [])) td none []:=D2.new;dsimp only[Jh,List.set,L2.JD];generalize upd H td (k2HO w td [])=H1 at s1 dt ⊢;have ntd:td≠d:=λz=>by rw[z,dd.at_]at ft;cases ft
 have dd1:=dd.same s1;have kl:ks.length=S.w.length:=by rw[<- pr.length];exact jA _
 refine⟨d,ks,dd1.at_,_,rfl,d,ks,rfl,dd1.at_,λo=>?_⟩;have sb:Bu d H (upd H1 d (.frz o (k2HO w d ks))):=λb u n e=>by rw[xZ n];exact s1 _ _ e
 refine b9 (λi σ H'=>Bu d H H'/\H' d=some (.frz o (k2HO w d ks))/\∃(xE:List KE) (c3:Option V),σ=[some (.ref d),some (.ref l),some (.ref td),c3,none,none,none]/\D2 w H' td none xE/\Paired (EntQ K H') (kmN (asT (askV S ss) S i)) xE) ⟨sb,J1,[],none,rfl,?_,.nil⟩ (λi σ H' _ h=>h.2.1) ?_ ?_
 . exact QQ dd1.at_ (λxs z=>by cases z) (λo xs z=>by cases z) ntd (λb u n e=>by rw[xZ n];exact e) dt
 . rintro i pe σ H' hpe ⟨bu,ef,xE,c3,rfl,dt',pr'⟩;have hi:i < S.w.length:=by have:=(jF.mp hpe).1;omega
   have ka:=(iR dd pr bu ef hpe (tU hi)).2.1;have one:=fun {H6 bp}=>tV (t:=td) (H6:=H6) (bp:=bp) (askV S ss) hi ok (by unfold askV;rw[jA];exact ok.four) (ok.sums i) dd pr bu ef hpe ft dt' pr';generalize S.w[i]=pw at ka one
   have kl2:(bkQ S.ns (bk S.ns pw.1)).length<=60:=by
    unfold bkQ;rw[jA];have:=List.Nodup.length_le_of_subset (XJ (QO S.ns)) λn hn=>JW.mp hn;have:=ok.nms;omega
   have big:(1000:Nat)<sizeLine:=by decide
   have f4:=ok.four;have ql':SqL K H' l (ss.map V.str):=dc (fz:=none) dd.at_ bu ql;dsimp only[Jh,List.set];refine⟨_,rfl,?_⟩;refine DN ?_;refine⟨_,rfl,_,_,rfl,Zu ql',_,rfl,by rw[jA];omega,by rw[jA];omega,?_⟩;rw[jA,kC];refine Yo (α:=Key×Int) (λH p v=>Qw H v (p.1,.int p.2)) (λs h=>by obtain⟨c,e,hc⟩:=h;exact⟨c,e,s _ _ hc⟩) ss.length (λi => .int (0+(i:Nat))) (nmQ 0 (askV S ss pw.1)) (by rw[YX];unfold askV;rw[jA]) 'c' (λ_ _=>jE _) (λi H' hi sm=>⟨hi,λx xw hy=>⟨hy.2,hy.1⟩⟩) (λk a Da H5 R hk5 ha sm nD oD hR=>?_) λp1 H5 ys s5 n5 e5 pr5=>?_
   . have hav:∃n∈ss,(ss.map V.str)[k]? = some (.str n)/\a=(.inl ((k:Nat):Int),bk S.ns pw.1 n):=by
      rw[iT]at ha;unfold askV at ha;rw[jD,jB hk5]at ha;refine⟨ss[k],jX hk5,by rw[jD,jB hk5];rfl,?_⟩;have:=Option.some.inj ha;rw[<- this,Nat.zero_add];rfl
     obtain⟨n,hn,en,rfl⟩:=hav;have ka5:K2At H5 (kf S.ns pw.1) pe.2.1:=ka.same (λb xs e=>sm _ _ e) λb xs e=>e.same sm;obtain⟨xs5,zt5,kp5,_⟩:=id ka5;refine⟨_,rfl,_,rfl,.inl ⟨pe.2.1,xs5,_,rfl,zt5,iB kp5,by rw[jA];omega,λbp fb=>?_⟩⟩;have bkA:=tE S.ns (bk S.ns pw.1);have s2:=J6 fb (.dK (JJ [] ((bkQ S.ns (bk S.ns pw.1)).map λp=>(p.1,V.int p.2))));have eb:(upd H5 bp (.dK (JJ [] ((bkQ S.ns (bk S.ns pw.1)).map λp=>(p.1,V.int p.2))))) bp=some (.dK (JJ [] ((bkQ S.ns (bk S.ns pw.1)).map λp=>(p.1,V.int p.2)))):=J1;generalize JJ [] ((bkQ S.ns (bk S.ns pw.1)).map λp=>(p.1,V.int p.2))=kvs at bkA s2 eb ⊢;generalize upd H5 bp (.dK kvs)=H6 at s2 eb ⊢;have dg:=DGet.k (k := .inr n) eb;rw[bkA.val (ok.sub n hn)]at dg;have zk:(0:Int)+(k:Nat)=(k:Nat):=Int.zero_add _;refine⟨_,rfl,_,rfl,.inl ⟨l,_,_,.str n,rfl,rfl,(sm.trans s2).seq ql',by rw[zk];exact Qe en,bp,_,rfl,dg,by show 2<=sizeLine;decide,λpn fn=>?_⟩⟩;obtain⟨oDa,eDa⟩:=oD;have npD:pn≠Da:=λz=>by rw[z,s2 _ _ eDa]at fn;cases fn
     refine hR _ _ (s2.trans (J6 fn _)) ⟨pn,rfl,YW npD ?_⟩;rw[J1,zk];rfl
   . refine .inr ⟨p1,ys,_,rfl,e5,tX pr5,by rw[jA,YX];unfold askV;rw[jA];omega,λbp fb=>?_⟩;rw[tW _ [] (by rw[List.map_nil,kT,jb];exact DM _ _),kT];have s2:=J6 fb (.dK ((nmQ 0 (askV S ss pw.1)).map λp=>(p.1,V.int p.2)));have eb:(upd H5 bp (.dK ((nmQ 0 (askV S ss pw.1)).map λp=>(p.1,V.int p.2)))) bp=some (.dK ((nmQ 0 (askV S ss pw.1)).map λp=>(p.1,V.int p.2))):=J1;generalize upd H5 bp (.dK ((nmQ 0 (askV S ss pw.1)).map λp=>(p.1,V.int p.2)))=H6 at s2 eb ⊢;obtain⟨x1,x2,x3,x4⟩:=one (s5.trans s2) eb;refine⟨_,rfl,_,rfl,d,pe.2.1,some o,ks,_,pe.2.2,rfl,rfl,x1,x2,x3,?_⟩;dsimp only[JA,jk,kL,kT];exact x4 _ _ λH7 b7 e7 ks7 d7 p7=>⟨b7,e7,ks7,_,rfl,d7,p7⟩
 . rintro σ Ha ⟨bu,ef,ks1,c3,rfl,dt1,pr1⟩;rw[kl,dC]at pr1;refine⟨o,ef,?_⟩;have bu9:Bu d Ha (upd Ha d (k2HO w d ks)):=λb u n e=>by rw[xZ n];exact e
   have sH:=iS dd bu;have dt2:=QQ ef (λxs z=>by cases z) (λo xs z=>by cases z) ntd bu9 dt1;have pr2:Paired (EntQ K (upd Ha d (k2HO w d ks))) _ ks1:=JY (λr v h=>Xr ef (λxs z=>by cases z) (λo xs z=>by cases z) bu9 h) pr1;generalize upd Ha d (k2HO w d ks)=H2 at sH dt2 pr2 ⊢;clear dt1 pr1 bu9 ef bu dt dd1;refine λtw fw=>?_;have s3:=J6 fw (k2HO w tw []);have dw:D2 w (upd H2 tw (k2HO w tw [])) tw none []:=D2.new;dsimp only[Jh,List.set];generalize upd H2 tw (k2HO w tw [])=H3 at s3 dw ⊢;have dd2:=dd.same sH;have ntw:tw≠d:=λz=>by rw[z,dd2.at_]at fw;cases fw
   have dd3:=dd2.same s3;refine⟨d,ks,dd3.at_,_,rfl,d,ks,rfl,dd3.at_,λo=>?_⟩;have sb:Bu d H2 (upd H3 d (.frz o (k2HO w d ks))):=λb u n e=>by rw[xZ n];exact s3 _ _ e
   refine b9 (λi σ H'=>Bu d H2 H'/\H' d=some (.frz o (k2HO w d ks))/\∃(xE:List KE) (c3:Option V),σ=[some (.ref d),some (.ref l),some (.ref td),c3,some (.ref tw),none,none]/\D2 w H' tw none xE/\Paired (EntQ K H') (kmN (asT (λ_=>[]) S i)) xE) ⟨sb,J1,[],_,rfl,?_,.nil⟩ (λi σ H' _ h=>h.2.1) ?_ ?_
   . exact QQ dd3.at_ (λxs z=>by cases z) (λo xs z=>by cases z) ntw (λb u n e=>by rw[xZ n];exact e) dw
   . rintro i pe σ H' hpe ⟨bu,ef,xE,c3,rfl,dt',pr'⟩;have hi:i < S.w.length:=by have:=(jF.mp hpe).1;omega
     dsimp only[Jh,List.set];refine⟨_,rfl,λbp fb=>?_⟩;have s6:=J6 fb (.dK []);have eb:upd H' bp (.dK []) bp=some (.dK []):=J1;generalize upd H' bp (.dK [])=H6 at s6 eb ⊢;obtain⟨x1,x2,x3,x4⟩:=tV (λ_=>[]) hi ok (jT _) (ok.whole i) dd2 (JY (λr v h=>h.same sH) pr) bu ef hpe fw dt' pr' s6 eb;refine⟨_,rfl,_,rfl,d,pe.2.1,some o,ks,_,pe.2.2,rfl,rfl,x1,x2,x3,?_⟩;dsimp only[JA,jk,kL,kT];exact x4 _ _ λH7 b7 e7 ks7 d7 p7=>⟨b7,e7,ks7,_,rfl,d7,p7⟩
   . rintro σ Ha ⟨bu,ef,ks2,c3',rfl,dw1,pw1⟩;rw[kl,dC,tO ok.ne]at pw1;refine⟨o,ef,?_⟩;have bu9:Bu d Ha (upd Ha d (k2HO w d ks)):=λb u n e=>by rw[xZ n];exact e
     have s24:=iS dd2 bu;have dw4:=QQ ef (λxs z=>by cases z) (λo xs z=>by cases z) ntw bu9 dw1;have pw4:Paired (EntQ K (upd Ha d (k2HO w d ks))) _ ks2:=JY (λr v h=>Xr ef (λxs z=>by cases z) (λo xs z=>by cases z) bu9 h) pw1;generalize upd Ha d (k2HO w d ks)=H4 at s24 dw4 pw4 ⊢;clear dw1 pw1 bu9 ef bu dw dd3 sb s3;have s4:=sH.trans s24;have dt4:=dt2.same s24;have pr4:Paired (EntQ K H4) _ ks1:=JY (λr v h=>h.same s24) pr2;refine⟨jT _,λdu fu=>?_⟩;have s5:=J6 fu (.lst []);have eu:upd H4 du (.lst []) du=some (.lst []):=J1;dsimp only[Jh,List.set];generalize upd H4 du (.lst [])=H5 at s5 eu ⊢;have dt5:=dt4.same s5;refine⟨td,ks1,dt5.at_,_,rfl,td,ks1,rfl,dt5.at_,λo=>?_⟩;obtain⟨G,eG⟩:∃G,G=gaR [] (S.w.map λp=>(askV S ss p.1,p.2)):=⟨_,rfl⟩;rw[<- eG]at pr4;have sb5:Bu td H4 (upd H5 td (.frz o (k2HO w td ks1))):=λb u n e=>by rw[xZ n];exact s5 _ _ e
     have ndu:du≠td:=λz=>by rw[z,dt4.at_]at fu;cases fu
     have ntt:tw≠td:=λz=>by rw[z,dt2.at_]at fw;cases fw
     have kl1:ks1.length=G.length:=by rw[<- pr4.length];exact jA _
     have gl:G.length<=60:=by
      have:=Za (S.w.map λp=>(askV S ss p.1,p.2)) [];rw[kF,Nat.zero_add,jA,<- eG]at this;have:=ok.few;omega
     have gz:∀g∈G,sz g.2/\0<=g.2.num:=λg hg=>by
      rw[eG,<- dC]at hg;exact ok.sums _ g hg
     have tz:sz (tot S.w):=by
      have:∀g∈asT (λ_=>[]) S S.w.length,sz g.2/\0<=g.2.num:=ok.whole _;rw[dC,tO ok.ne]at this;exact(this _ (jP.mpr rfl)).1
     have tp:=tS ok.ne λp hp=>(ok.z p hp).2;have nt:∀xs,k2HO w td ks1 ≠ .tup xs:=λxs z=>by cases z
     have nf:∀o xs,k2HO w td ks1 ≠ .frz o (.tup xs):=λo xs z=>by cases z
     obtain⟨wa,wv,rfl,dwv⟩:∃wa wv,ks2=[([],wa,wv)]/\IsD K H4 (dF (tot S.w)) wv:=by
      unfold kmN at pw4;rw[jM,List.map_nil]at pw4
      cases pw4 with
      |cons h t =>
       cases t
       rename_i e;obtain⟨k,a,v⟩:=e;obtain⟨h1,h2⟩:=h;obtain rfl:[]=k:=h1;exact⟨a,v,rfl,h2⟩
     refine b9 (λi σ H'=>Bu td H4 H'/\H' td=some (.frz o (k2HO w td ks1))/\∃(zs:List V) (c3 c6:Option V),σ=[some (.ref d),some (.ref l),some (.ref td),c3,some (.ref tw),some (.ref du),c6]/\H' du=some (.lst zs)/\Paired (RowS K H') (tld (tot S.w) (G.take i)) zs) ⟨sb5,J1,[],_,_,rfl,by rw[xZ ndu];exact eu,.nil⟩ (λi σ H' _ h=>h.2.1) ?_ ?_
     . rintro i pe σ H' hpe ⟨bu,ef,zs,c3,c6,rfl,eu',prz⟩;have hi:i < G.length:=by have:=(jF.mp hpe).1;omega
       obtain⟨g,eg⟩:∃g,g=G[i]:=⟨_,rfl⟩;have hgm:g∈G:=by rw[eg];exact jX hi
       have hk:(kmN G)[i]?=some (Jt (nmQ 0 g.1),g.2):=by unfold kmN;rw[jD,jB hi,eg];rfl
       obtain⟨ddn,ka,dk',vk⟩:=iR dt4 pr4 bu ef hpe hk;have dw':IsD K H' (dF (tot S.w)) wv:=XT (fz:=none) dt4.at_ bu dwv;have dwn:D2 w H' tw none [([],wa,wv)]:=QQ dt4.at_ nt nf ntt bu dw4;obtain⟨zsz,zn⟩:=gz g hgm;have big:(1000:Nat)<sizeLine:=by decide
       have g4:g.1.length<=4:=by
        have:g.1∈G.map (·.1):=jG.mpr ⟨g,hgm,rfl⟩;rw[eG]at this;obtain⟨r,hr,e⟩:=jG.mp (Zd.mp this);obtain⟨s,_,rfl⟩:=jG.mp hr;rw[<- e];show(askV S ss s.1).length<=4;unfold askV;rw[jA];exact ok.four
       dsimp only[Jh,List.set];obtain⟨xs,zt,kp,_⟩:=id ka;obtain⟨xl,xi⟩:=iP kp;rw[YX]at xl;refine DH ?_;refine⟨_,rfl,pe.2.1,rfl,⟨_,zt.sq⟩,?_⟩;refine Ym (K:=K) (xs:=xs) (g.1.map D.int) zt.sq (by rw[jA];omega) 'c' (Xd _) (λj x d' H1 R hx hd sm hR=>?_) (λl1 H1 ys s1 e1 dl=>?_)
       . rw[jD]at hd;obtain⟨z,ez,rfl⟩:=jf.mp hd;obtain⟨b,rfl,hb⟩:=xi j x (.inl ((0+j:Nat):Int),z) hx (by rw[iT,ez];rfl);exact⟨_,rfl,.inr (.inl ⟨b,_,1,.int z,rfl,rfl,.of (sm _ _ hb),Q4,hR _ _ (Same.refl _) rfl⟩)⟩
       . rw[QX dl]at e1;refine⟨l1,_,rfl,.inl ⟨.of e1,λtv nv=>?_⟩⟩;have s2:=s1.trans (J6 nv (.tup (g.1.map V.int)));have ev:upd H1 tv (.tup (g.1.map V.int)) tv=some (.tup (g.1.map V.int)):=J1;dsimp only[Jh,List.set];generalize upd H1 tv (.tup (g.1.map V.int))=H2 at s2 ev ⊢;obtain⟨pv0,epv,qpv⟩:=JS (dk'.same s2);obtain⟨wv0,ewv,qwv⟩:=JS (dw'.same s2);have kgo:∀{HH:Hp},Same H2 HH->K2At HH (Jt (nmQ 0 g.1)) pe.2.1:=λs=>ka.same (λb xs e=>(s2.trans s) _ _ e) (λb xs e=>e.same (s2.trans s));have kwo:∀{HH:Hp}{p:xS}{ob:Obj},ob.dict=none->HH p=some (.frz ob (.tup []))->K2At HH [] p:=λhd h=>⟨[],⟨_,h,hd⟩,.nil,rfl⟩;refine⟨_,rfl,.inl ⟨rfl,_,.of (s2 _ _ eu')⟩,_,rfl,_,rfl,_,rfl,td,pe.2.1,some o,ks1,Jt (nmQ 0 g.1),pe.2.2,rfl,rfl,ddn.same s2,kgo (Same.refl _),vk,.inr (.inl ⟨pv0,_,0,.int g.2.num,epv,rfl,qpv,JG,_,rfl,jT _,λq1 o1 n1 d1=>?_⟩)⟩;have u1:=J6 n1 (.frz o1 (.tup []));have k1:K2At (upd H2 q1 (.frz o1 (.tup []))) [] q1:=kwo d1 J1;generalize upd H2 q1 (.frz o1 (.tup []))=H3 at u1 k1 ⊢;refine⟨tw,q1,none,_,[],wv,rfl,rfl,dwn.same (s2.trans u1),k1,rfl,.inr (.inl ⟨wv0,_,1,.int (tot S.w).den,ewv,rfl,u1.tupq qwv,Q4,_,_,rfl,rfl,JQ zsz.1 (YR tz) 'd',?_⟩)⟩;refine⟨_,rfl,_,rfl,td,pe.2.1,some o,ks1,Jt (nmQ 0 g.1),pe.2.2,rfl,rfl,ddn.same (s2.trans u1),kgo u1,vk,.inr (.inl ⟨pv0,_,1,.int g.2.den,epv,rfl,u1.tupq qpv,Q4,_,rfl,jT _,λq2 o2 n2 d2=>?_⟩)⟩;have u2:=u1.trans (J6 n2 (.frz o2 (.tup [])));have k2:K2At (upd H3 q2 (.frz o2 (.tup []))) [] q2:=kwo d2 J1;generalize upd H3 q2 (.frz o2 (.tup []))=H6 at u2 k2 ⊢;refine⟨tw,q2,none,_,[],wv,rfl,rfl,dwn.same (s2.trans u2),k2,rfl,.inr (.inl ⟨wv0,_,0,.int (tot S.w).num,ewv,rfl,u2.tupq qwv,JG,_,_,rfl,rfl,JQ (YR zsz) tz.1 'd',?_⟩)⟩;have gd:=g.2.den_pos;have td0:=(tot S.w).den_pos;refine⟨_,_,rfl,Int.mul_nonneg zn 'c',qB 'c' tp,su (YR zsz) tz.1 'd',λnp H7 s7 fnp dn=>⟨by show 2<=sizeLine;decide,λp9 n9=>?_⟩⟩;have u7:=u2.trans s7;have u9:=J6 n9 (.tup [.ref tv,.ref np]);have e9:upd H7 p9 (.tup [.ref tv,.ref np]) p9=some (.tup [.ref tv,.ref np]):=J1;generalize upd H7 p9 (.tup [.ref tv,.ref np])=H9 at u9 e9 ⊢;have s09:=s2.trans (u7.trans u9);have eu9:=s09 _ _ eu';have rq:RowS K H9 (g.1,ovr g.2 (tot S.w)) (.ref p9):=⟨.ref np,⟨p9,tv,rfl,e9,(u7.trans u9) _ _ ev⟩,dn.same u9⟩;refine⟨du,zs,.ref p9,rfl,rfl,eu9,?_,?_⟩
         . have zl:=prz.length;unfold tld at zl;rw[jA,jW]at zl;omega
         . refine⟨λb u n h=>?_,?_,zs ++ [.ref p9],_,_,rfl,J1,?_⟩
           . rw[xZ (λz=>by rw[z,fu]at h;cases h)];exact s09 _ _ (bu b u n h)
           . rw[xZ ndu.symm];exact s09 _ _ ef
           . have et:tld (tot S.w) (G.take (i + 1))=tld (tot S.w) (G.take i) ++ [(g.1,ovr g.2 (tot S.w))]:=by
              unfold tld;rw[ja hi,jh,<- eg];rfl
             rw[et];exact tR (RowS.lst eu9 rq) (iO (λa y h=>RowS.lst eu9 (h.same s09)) prz)
     . rintro σ Hb ⟨bu,ef,zs,c3,c6,rfl,eu',prz⟩;rw[kl1,jr]at prz;refine⟨o,ef,?_⟩;have bu9:Bu td Hb (upd Hb td (k2HO w td ks1)):=λb u n e=>by rw[xZ n];exact e
       have s49:=iS dt4 bu;have eu9:upd Hb td (k2HO w td ks1) du=some (.lst zs):=by rw[xZ ndu];exact eu'
       have prz9:=iO (λa y h=>RowS.bu ef (λxs z=>by cases z) (λo xs z=>by cases z) bu9 h) prz;generalize upd Hb td (k2HO w td ks1)=H9 at s49 eu9 prz9 ⊢;have s9:=s4.trans s49;refine⟨_,rfl,tQ (.of eu9) prz9 (by rw[DJ,eG];exact Xm _) (by unfold tld;rw[jA];omega) λlo qs H' s' fl pm pw dq=>?_⟩;obtain⟨qs0,pm0,rfl⟩:=DI pm;refine q lo H' qs0 (s9.trans s') (s9.free fl) (DG (by rw[<- eG];exact pm0) ?_) dq;rw[jq]at pw;exact pw
def YY(h1:PySem.PyData.strOk a=true)(h2:PySem.PyData.strOk b=true):PySem.PyData.strOk (a++b)=true:=by
 unfold PySem.PyData.strOk at *;show(a.cps++b.cps).all _=true;rw[Array.all_append,h1,h2];rfl
def dD(i:Int):PySem.PyData.strOk ⟨#[ltr i]⟩=true:=by
 have h:ltr i<1114112:=by unfold ltr;omega
 unfold PySem.PyData.strOk;simp[h]
def tY:PySem.PyData.strOk zro=true:=by decide +kernel
theorem iU(c:Int):∀j,PySem.PyData.strOk (XR c j)=true
 |0=>by unfold XR;decide +kernel
 |j+1=>YY (iU c j) (dD _)
def DP(c k:Int):PySem.PyData.strOk (Xo c k)=true:=by
 unfold Xo;split
 . exact dD _
 . split
   . exact YY (iU _ _) (YY (dD _) tY)
   . exact YY (YY (dD _) tY) (iU _ _)
def YZ(h:∀p∈l,0<p.2):∀g∈gaR [] l,0<g.2:=λg hg=>by
 rw[<- ZT (Xm l) hg,i9];unfold mass;refine(iQ λr hr=>?_).2 λz=>?_
 . obtain⟨p,hp,rfl⟩:=jG.mp hr;exact h p (kR.mp hp).1
 . obtain⟨p,hp,e⟩:=jG.mp (Zd.mp (jG.mpr ⟨g,hg,rfl⟩));have:p∈l.filter λr=>decide (r.1=g.1):=kR.mpr ⟨hp,qi e⟩;rw[List.map_eq_nil_iff.mp z]at this;cases this
def a6(ao:AddOk 500 [] l)(pos:∀p∈l,0<p.2):∀i,∀g∈gaR [] (l.take i),sz g.2/\0<=g.2.num:=λi g hg =>
 ⟨ao.z2 i g hg,Int.le_of_lt (Zg.mpr (YZ (λp hp=>pos p (jj hp)) g hg))⟩
def tZ{ns:xp}{w:List (xr×Rat)}{x:Str}{os:List (Int×Rat)}(h:∀p∈w,0<p.2)(h2:∀o∈os,0<o.2):∀p∈Jk ns w x os,0<p.2:=λp hp=>by
 obtain⟨r,hr,hp⟩:=List.mem_flatMap.mp hp;obtain⟨o,ho,rfl⟩:=jG.mp hp;exact Rat.mul_pos (h r hr) (h2 o ho)
structure WS (pool:xp) (D0 k:Nat) (S:SL):Prop where
 d:D0k D0
 gd:Gd pool D0 k 8 S
 pos:∀p∈S.w,0<p.2
 kn:(S.w.map (·.1)).Nodup
def dG(pool:xp)(S:SL):Wr->Prop
 |.draw x os=>x∈pool/\OsJ 27720 os
 |.lett x e=>x∈pool/\Lf S.ns e 3 3
 |.seen e=>Lf S.ns e 3 3
 |_=>False
def rnm(nm:xp):Wr->xp
 |.draw x _=>adN nm x
 |.lett x _=>adN nm x
 |_=>nm
def Lf.wx(l:Lf nm e h n)(h9:h<=9)(n12:n<=12):Wx nm e:=⟨⟨l.ok,by have:=l.high;omega,by have:=l.few;omega⟩,λx hx=>l.sub x ((XM e).mp hx)⟩
def Lf.up(l:Lf nm e h n)(hh:h<=h'):Lf nm e h' n:=⟨l.ok,jg l.high hh,l.few,l.sub⟩
theorem WS.sz(h:WS pool D0 k S)(k8:k<=80):∀p∈S.w,sz p.2/\0<p.2.num:=λp hp =>
 ⟨(h.gd.bd p hp).sz (ZV h.d _) (YO h.d k8) (by have:=cT h.d k8;omega),Zg.mpr (h.pos p hp)⟩
def WS.row(h:WS pool D0 k S)(p4:pool.length<=60)(pok:∀x∈pool,PySem.PyData.strOk x=true)(k8:k<80)(hr:dG pool S r) :
 ft1 500 r S/\BhOk r S/\(wk1 r S).ns=rnm S.ns r/\((wk1 r S).w.length<=8->WS pool D0 (k+1) (wk1 r S))/\((∀x os,r ≠ .draw x os)->(wk1 r S).w.length<=8):=by
 have hb:RowQ S r->BhOk r S:=λrq=>⟨h.gd.nd,h.gd.len,λn hn=>pok n (h.gd.sub n hn),jg (List.Nodup.length_le_of_subset h.gd.nd h.gd.sub) p4,λp hp=>⟨(h.sz 'c' p hp).1,Int.le_of_lt (h.sz 'c' p hp).2⟩,jg h.gd.cnt 'd',rq⟩
 cases r with
 |draw x os =>
  obtain⟨hx,oj⟩:=hr;have o3:=oj.few;obtain⟨h1,h2,h3⟩:=CN h.d h.gd p4 hx ⟨oj.one,by omega,oj.bd⟩ 'c' k8;have ao:=h1.2.2.2;have ps:=tZ (ns:=S.ns) (x:=x) h.pos oj.pos;refine⟨h1,hb ⟨pok x hx,o3,λo ho=>⟨h1.2.2.1 o ho,Int.le_of_lt (Zg.mpr (oj.pos o ho))⟩,a6 ao ps⟩,h3,λl8=>⟨h.d,⟨h2.len,l8,h2.nd,h2.sub,h2.bd⟩,YZ ps,Xm _⟩,λz=>absurd rfl (z x os)⟩
 |lett x e =>
  obtain⟨hx,lf⟩:=hr;obtain⟨h1,h2,h3⟩:=CO h.d h.gd p4 hx (lf.wx 'd' 'd') 'd' k8
  have ps:∀p∈JX S.ns S.w x e,0<p.2:=λp hp=>by
   obtain⟨r,hr,rfl⟩:=jG.mp hp;exact h.pos r hr
  exact⟨h1,hb ⟨pok x hx,(lf.wx 'd' 'd').1,lf.sub,a6 h1.2.2.2 ps⟩,h3,λ_=>⟨h.d,h2,YZ ps,Xm _⟩,λ_=>h2.cnt⟩
 |seen e =>
  have lf:Lf S.ns e 3 3:=hr;obtain⟨h1,h2,h3⟩:=CQ h.d h.gd p4 (lf.wx 'd' 'd') 'd' k8;have ps:∀p∈Qa S.ns S.w e,0<p.2:=λp hp=>h.pos p (kR.mp hp).1;exact⟨h1,hb ⟨(lf.wx 'd' 'd').1,lf.sub,a6 h1.2.2.2 ps⟩,h3,λ_=>⟨h.d,h2,YZ ps,Xm _⟩,λ_=>h2.cnt⟩
 |_=>exact hr.elim
def dH:AddOk 500 [] [([],1)]:=ib (D:=1) (M:=1) 'd' (by decide +kernel) (λp hp=>by rw[jP.mp hp];exact⟨1,jE _,by decide +kernel⟩) 'd' (by decide +kernel)
abbrev S00:SL:=⟨[],[([],1)]⟩
def DQ{pool:xp}{D0:Nat}{x:Str}{os:List (Int×Rat)}(d:D0k D0)(hx:x∈pool)(xo:PySem.PyData.strOk x=true)(oj:OsJ D0 os):ft1 500 (.draw x os) S00/\BhOk (.draw x os) S00/\(wk1 (.draw x os) S00).ns=[x]/\WS pool D0 1 (wk1 (.draw x os) S00):=by
 have o3:=oj.few
 have el:Jk [] [([],1)] x os=os.map λo=>([o.1],o.2):=by
  unfold Jk drO;rw[List.flatMap_cons,List.flatMap_nil,jk];exact ji λo _=>Prod.ext rfl (Rat.one_mul _)
 have b1:∀o∈os,Bd (D0*27720 ^ 0) (D0*13860000 ^ 0) o.2:=λo ho=>by
  have:=oj.bd o ho;simpa using this
 obtain⟨h1,h2⟩:=cU d (pool:=pool) (k:=0) (c:=8) (ns:=[x]) (l:=Jk [] [([],1)] x os) (λp hp=>by
  rw[el]at hp;obtain⟨o,_,rfl⟩:=jG.mp hp;rfl) (by rw[el,jA];omega) 'd' 'd' 'f' (λn hn=>by rw[jP.mp hn];exact hx) (λp hp=>by
  rw[el]at hp;obtain⟨o,ho,rfl⟩:=jG.mp hp;exact ic (b1 o ho))
 have z1:sz (1:Rat):=dH.z1 _ (jP.mpr rfl);have zo:∀o∈os,sz o.2:=λo ho=>(oj.bd o ho).sz d.pos (jd d.le (by decide +kernel)) (jd d.le (by decide +kernel));have ps:∀p∈Jk [] [([],1)] x os,0<p.2:=tZ (λp hp=>by rw[jP.mp hp];decide +kernel) oj.pos;have so:SOk S00:=⟨λp hp=>by rw[jP.mp hp];rfl,by decide,by decide,λp hp=>by rw[jP.mp hp];exact z1⟩;refine⟨?_,⟨jp,so.len,λ_ h=>(nomatch h),by decide,λp hp=>by rw[jP.mp hp];exact⟨z1,by decide⟩,by decide,⟨xo,o3,λo ho=>⟨zo o ho,Int.le_of_lt (Zg.mpr (oj.pos o ho))⟩,a6 h1 ps⟩⟩,rfl,d,?_,?_,?_⟩
 . unfold ft1;exact⟨so,by omega,zo,h1⟩
 . unfold wk1;exact h2
 . unfold wk1;exact YZ ps
 . unfold wk1;exact Xm _
def WS.told(h:WS pool D0 k S)(p4:pool.length<=60)(k8:k<=80)(sub:∀n∈ss,n∈S.ns)(s4:ss.length<=4)(ne:S.w≠[]):TlOk S ss:=by
 have go:∀f:xr->xr,∀i,∀g∈gaR [] ((S.w.map λp=>(f p.1,p.2)).take i),Fd.sz g.2/\0<=g.2.num:=λf=>by
  have c8:=h.gd.cnt;refine a6 (ib (ZV h.d k) (YO h.d k8) (M:=D0*13860000 ^ k) (λr hr=>?_) (by rw[jA];omega) (cT h.d k8)) λp hp=>?_
  . obtain⟨p,hp,rfl⟩:=jG.mp hr;exact h.gd.bd p hp
  . obtain⟨q,hq,rfl⟩:=jG.mp hp;exact h.pos q hq
 exact⟨h.gd.nd,h.gd.len,jg (List.Nodup.length_le_of_subset h.gd.nd h.gd.sub) p4,sub,s4,ne,jg h.gd.cnt 'd',h.sz k8,go _,go λ_=>[]⟩
def WS.tb(h:WS pool D0 k S)(k6:k<=64):∃D M,TBd D (60*M)/\∀p∈S.w,Bd D M p.2 :=
 ⟨_,_,⟨ZV h.d k,YO h.d 'c',jd (Nat.mul_le_mul_left _ (Nat.mul_le_mul_left _ (Nat.mul_le_mul h.d.le (ju 'd' k6)))) (by decide +kernel)⟩,h.gd.bd⟩
def DR{qs w:List (xr×Rat)}{f:xr->xr}(pm:qs.Perm (w.map λp=>(f p.1,p.2)))(pw:qs.Pairwise λp q=>HT.lexLt p.1 q.1=true):IsT qs w f:=by
 refine⟨pw,λk=>((pm.map (·.1)).mem_iff).trans ?_,λq=>?_⟩
 . rw[jb];exact jG.trans ⟨λ⟨p,hp,e⟩=>⟨p,hp,e.symm⟩,λ⟨p,hp,e⟩=>⟨p,hp,e.symm⟩⟩
 . rw[hJ pm,iN]
def DS(a b:List Wr):dWs (a++b)=dWs a++dWs b:=by rw[Xl,Xl,Xl,jh]
structure LA (K:xh) (w:xU) (H0:Hp) (na ra nd:xS) (rs:List Wr) (ys:List V) (S:SL) (nm:xp) (ks:List KE) (H:Hp):Prop where
 sm:Same H0 H
 n0:H0 na=none
 r0:H0 ra=none
 ne:ra≠na
 er:H ra=some (.lst ys)
 en:H na=some (.lst (nm.map V.str))
 ds:IsDs K (hid [na,ra] H) (dWs rs) ys
 d2:D2 w H nd none ks
 eq:Paired (EntQ K H) (nowL S) ks
section
variable {H0 H H':Hp}{na ra nd:xS}{rs:List Wr}{ys:List V}{S:SL}{nm:xp}{ks:List KE}
theorem LA.same(r:LA K w H0 na ra nd rs ys S nm ks H)(s:Same H H'):LA K w H0 na ra nd rs ys S nm ks H':=⟨λb u h=>s _ _ (r.sm b u h),r.n0,r.r0,r.ne,s _ _ r.er,s _ _ r.en,r.ds.same (YS s),r.d2.same s,JY (λ_ _ h=>h.same s) r.eq⟩
def LA.al(r:LA K w H0 na ra nd rs ys S nm ks H):Al [na,ra] H:=λa ha=>by
 rcases jJ.mp ha with e|ha
 . rw[e];exact⟨_,r.en⟩
 . rw[jP.mp ha];exact⟨_,r.er⟩
def u8(e:H l=some (.lst xs))(h:D2 w H d none ks):D2 w (upd H l (.lst ys)) d none ks :=
 QQ e (λxs z=>by cases z) (λo xs z=>by cases z) (λz=>by have:=h.at_;rw[z,e]at this;cases this) (λb u n h=>by rw[xZ n];exact h) h
def ua{xs ys:List V}(e:H l=some (.lst xs)){L:List KR}{ks:List KE}(h:Paired (EntQ K H) L ks):Paired (EntQ K (upd H l (.lst ys))) L ks :=
 JY (λ_ _ h=>Xr e (λxs z=>by cases z) (λo xs z=>by cases z) (λb u n h=>by rw[xZ n];exact h) h) h
def LA.add(r:LA K w H0 na ra nd rs ys S nm ks H)(d:IsD K (hid [na,ra] H) (dW x) y):LA K w H0 na ra nd (rs++[x]) (ys++[y]) S nm ks (upd H ra (.lst (ys++[y]))):=by
 refine⟨λb u h=>?_,r.n0,r.r0,r.ne,J1,by rw[xZ r.ne.symm];exact r.en,?_,u8 r.er r.d2,ua r.er r.eq⟩
 . rw[xZ (Jp h r.r0)];exact r.sm b u h
 . rw[iq 'f',DS];exact r.ds.append ⟨y,[],rfl,d,rfl⟩
def LA.nam(r:LA K w H0 na ra nd rs ys S nm ks H):LA K w H0 na ra nd rs ys S (nm++[x]) ks (upd H na (.lst (nm.map V.str++[.str x]))):=by
 refine⟨λb u h=>?_,r.n0,r.r0,r.ne,by rw[xZ r.ne];exact r.er,by rw[J1,jh];rfl,by rw[iq 'f'];exact r.ds,u8 r.en r.d2,ua r.en r.eq⟩;rw[xZ (Jp h r.n0)];exact r.sm b u h
def LA.now(r:LA K w H0 na ra nd rs ys S nm ks H)(s:Same H H')(d:D2 w H' td none xE)(e:Paired (EntQ K H') (nowL S') xE):LA K w H0 na ra td rs ys S' nm xE H' :=
 ⟨(r.same s).sm,r.n0,r.r0,r.ne,(r.same s).er,(r.same s).en,(r.same s).ds,d,e⟩
end
def a7(r:Wr):Prop:=Pln r/\(∀x os,r=.draw x os->os.length<=3)/\(dW r).deep<=20/\r.hi=0
theorem XV:∀e:Ex,(dE e).deep=e.high+1
 |.num _=>rfl
 |.nam _=>rfl
 |.un a=>by
  have h:=XV a;show max 0 (max (dE a).deep 0)+1=a.high+1+1;omega
 |.bi s a b=>by
  have h:=XV a;have h2:=XV b;show max 0 (max (dE a).deep (max (dE b).deep 0))+1=max a.high b.high+1+1;omega
 |.pick c a b=>by
  have h:=XV a;have h2:=XV b;have h3:=XV c;show max 0 (max (dE c).deep (max (dE a).deep (max (dE b).deep 0)))+1=max c.high (max a.high b.high)+1+1;omega
theorem iV:∀os:List (Int×Rat),D.deeps (dOs os)<=2
 | []=>jT _
 |o::os=>by
  have:=iV os;show max (max 0 (max ((max 0 (max 0 0))+1) 0)+1) (D.deeps (dOs os))<=2;omega
def DT(h:dG pool S r):a7 r:=by
 cases r with
 |draw x os =>
  have:=iV os;exact⟨trivial,λy os' e=>by cases e;exact h.2.few,by show max 0 (max 0 (max (D.deeps (dOs os)+1) 0))+1<=20;omega,rfl⟩
 |lett x e =>
  have h1:=h.2.high;have h2:=XV e;exact⟨trivial,λy os' e=>by(cases e),by show max 0 (max 0 (max (dE e).deep 0))+1<=20;omega,rfl⟩
 |seen e =>
  have h1:e.high<=3:=(show Lf S.ns e 3 3 from h).high;have h2:=XV e;exact⟨trivial,λy os' e=>by(cases e),by show max 0 (max (dE e).deep 0)+1<=20;omega,rfl⟩
 |_=>exact h.elim
def uc(h:∀r∈rs,a7 r):D.deeps (dWs rs)<=20/\hiW rs=0:=by
 induction rs with
 |nil=>exact⟨jT _,rfl⟩
 |cons r rs ih =>
  obtain⟨h1,h2⟩:=ih λx hx=>h x (jN _ hx);obtain⟨_,_,h3,h4⟩:=h r jO;refine⟨?_,?_⟩
  . show max (dW r).deep (D.deeps (dWs rs))<=20;omega
  . show max r.hi (hiW rs)=0;omega
theorem iW:∀ns:xp,D.deeps (ns.map D.str)=0
 | []=>rfl
 |n::ns=>by show max 0 _=0;rw[iW ns];rfl
def DU(h:∀r∈rs,a7 r)(ak:xp):(D.tup [.lst [],.lst (dWs rs),.lst (ak.map D.str)]).deep<=60:=by
 have:=(uc h).1;show max (0+1) (max (D.deeps (dWs rs)+1) (max (D.deeps (ak.map D.str)+1) 0))+1<=60;rw[iW];omega
theorem ud:∀l:xr,D.deeps (l.map D.int)=0
 | []=>rfl
 |_::l=>by show max 0 _=0;rw[ud l];rfl
theorem iX:∀l:List (xr×Rat),D.deeps (l.map JM)<=2
 | []=>jT _
 |r::l=>by
  show max (max (D.deeps (r.1.map D.int)+1) _+1) (D.deeps (l.map JM))<=2;have h:=iX l;rw[ud];exact Nat.max_le.mpr ⟨jE 2,h⟩
def ue(ns:xp)(qs:List (xr×Rat)):(D.tup [.tup (ns.map D.str),.lst (qs.map JM)]).deep<=60:=by
 show max (D.deeps (ns.map D.str)+1) (max (D.deeps (qs.map JM)+1) 0)+1<=60;have:=iX qs;have e:=iW ns;omega
def DV(qs:List (xr×Rat)):(D.lst (qs.map JM)).deep<=60:=by
 show D.deeps (qs.map JM)+1<=60;have:=iX qs;omega
def Y2(c:Int):xp:=[Xo c 0,Xo c 1,Xo c 2,Xo c 3]
def DW(c:Int):∀x∈Y2 c,PySem.PyData.strOk x=true:=λx hx=>by
 unfold Y2 at hx;simp only[jJ,jy,x9]at hx;rcases hx with rfl|rfl|rfl|rfl<;>exact DP _ _
def DX(ns:xr):∃cs:xr,JB (ns.map V.int) (some 4) (some 63)=cs.map V.int/\cs.length<=59:=by
 unfold JB;have e:HT.sIx (ns.map V.int).length 0 (some 4)=min 4 (ns.map V.int).length:=HT.sIx_nat _ _ 4;have e2:HT.sIx (ns.map V.int).length (ns.map V.int).length (some 63)=min 63 (ns.map V.int).length:=HT.sIx_nat _ _ 63;rw[e,e2];refine⟨(ns.drop _).take _,by rw[List.map_take,List.map_drop],?_⟩;rw[jW,List.length_drop,jA];omega
def uf(rs:List Wr)(r:Wr)(S:SL):wks (rs++[r]) S=wk1 r (wks rs S):=by
 rw[gU];simp only[wks]
theorem ug:∀{rs:List Wr}{S:SL},fts m rs S->ft1 m r (wks rs S)->fts m (rs++[r]) S
 | [],S,_,h=>by
  unfold wks at h;show fts m [r] S;unfold fts;exact⟨h,by unfold fts;trivial⟩
 |q::rs,S,h1,h2=>by
  unfold fts at h1;unfold wks at h2;show fts m (q::(rs++[r])) S;unfold fts;exact⟨h1.1,ug h1.2 h2⟩
def uh(h:nm≠[]):adN nm x≠[]:=λz=>by
 cases nm with
 |nil=>exact h rfl
 |cons a l =>
  have:=(X8 (nm:=a::l) (x:=x) (n:=a)).mpr (.inl jO);rw[z]at this;cases this
def DY{ix:xq}{wi:TI}{te:TE}{r:List V->Hp->VK->Prop}{g:TG}{D:Ends}(h:wi σ H (Q5 ix te σ λx H1=>r [x] H1 λv H2=>g v σ H2 D.nx)):QH (tCB r (JF (Qv ix wi Q7 te) JA)) g D σ H:=h
def DZ(h:wi σ H (Q5 ix te σ λx H1=>r [x] H1 λy H2=>tr σ H2 λxs H3=>(y::xs).length<=sizeLine/\∀p,H3 p=none->Q (.ref p) (upd H3 p (.tup (y::xs))))):Zm (JF (tCB r (JF (Qv ix wi Q7 te) JA)) tr) σ H Q:=h
def E1(hS:H a=some (.frz o (k2HO w a ks))):(∀H',Same H H'->(It2 w a o ks).stop ks.length H')/\∀i H',i<ks.length->Same H H'->(It2 w a o ks).go i H'/\∀x xw,(It2 w a o ks).yld i H' x xw->x=(ks.map λp=>V.ref p.2.1).getD i .non/\xw=H':=by
 refine⟨λH' sm=>⟨sm _ _ hS,jE _⟩,λi H' hi sm=>⟨⟨sm _ _ hS,hi⟩,λx xw hy=>?_⟩⟩;obtain⟨e,p,h1,h2⟩:=hy;refine⟨?_,e⟩;rw[jL,jD,h1,h2];rfl
def ui(xs:xp)(lo hi:Option Int):∃ys:xp,JB (xs.map V.str) lo hi=ys.map V.str/\∀n∈ys,n∈xs:=by
 unfold JB;exact⟨(xs.drop _).take _,by rw[List.map_take,List.map_drop],λn hn=>List.mem_of_mem_drop (jj hn)⟩
def E2(xs:xp)(k:Int)(k0:0<=k)(k4:k<=4):∃ys:xp,JB (xs.map V.str) none (some k)=ys.map V.str/\(∀n∈ys,n∈xs)/\ys.length<=4:=by
 unfold JB;obtain⟨j,rfl⟩:∃j:Nat,k=(j:Int):=⟨k.toNat,by omega⟩;have e2:HT.sIx (xs.map V.str).length (xs.map V.str).length (some (j:Int))=min j (xs.map V.str).length:=HT.sIx_nat _ _ j;rw[e2];refine⟨(xs.drop _).take _,by rw[List.map_take,List.map_drop],λn hn=>List.mem_of_mem_drop (jj hn),?_⟩;rw[jW];omega
def E3{ns:xp}(nd:ns.Nodup){w:List (xr×Rat)}(len:∀p∈w,p.1.length=ns.length)(kn:(w.map (·.1)).Nodup):((w.map λp=>((srt ns).map (asg ns p.1),p.2)).map (·.1)).Nodup:=by
 rw[jb];unfold List.Nodup at kn ⊢;rw[jq]at kn ⊢;refine List.Pairwise.imp_of_mem (fun {p q} hp hq h e=>h ?_) kn;have e':∀n∈srt ns,asg ns p.1 n=asg ns q.1 n:=rY.mp e;rw[<- cQ nd (len p hp),<- cQ nd (len q hq)];exact rY.mpr λn hn=>e' n (JW.mpr hn)
theorem uj:∀{l:xp}{p:Str},PyProof.Rows.risingS p l=true->(p::l).Nodup->(p::l).Pairwise ltS
 | [],_,_,_=>List.pairwise_singleton _ _
 |x::r,p,h,nd=>by
  obtain⟨n1,n2⟩:=jm.mp nd;unfold PyProof.Rows.risingS at h;rw[kH]at h;have ih:=uj h.2 n2
  have nl:¬ltS x p:=by
   have:=h.1;rw[PyProof.Rows.ltCps_eq]at this;intro z;have z:x.cps.toList<p.cps.toList:=z;rw[qi z]at this
   cases this
  have lt:ltS p x:=aP (λz=>n1 (by rw[z];exact jO ..)) nl;refine kK.mpr ⟨λy hy=>?_,ih⟩;rcases jJ.mp hy with rfl|hy
  . exact lt
  . exact Yn lt ((kK.mp ih).1 y hy)
def E4(h:PyProof.Rows.sortedS l=true)(nd:l.Nodup):l.Pairwise ltS:=by
 cases l with
 |nil=>exact List.Pairwise.nil
 |cons x r=>exact uj h nd
def a8(K:xh):Sp:=λvs H Q _=>∃(a:xS) (ns:xr),vs=[.ref a]/\SqL K H a (ns.map V.int)/\ns.length<=63/\∀H',Q (.bl true) H'
def E5{A R:TS}{D:Ends}(Pv:St->Hp->Prop)(h1:∀T:TS,(∀σ H,Pv σ H->T D σ H)->QS A T D σ H)(h2:∀σ H,Pv σ H->R D σ H):QS A R D σ H:=h1 R h2
def LI(K:xh)(w:xU)(H1:Hp)(a pp ra na:xS)(pool:xp)(D0:Nat)(i:Nat)(σ:St)(H':Hp):Prop:=∃(rs:List Wr) (ys:List V) (ks:List KE) (nd:xS) (c5 c12:Option V),σ=[some (.ref a),some (.ref pp),some (.ref ra),some (.ref na),some (.ref nd),c5,none,none,none,none,none,none,c12]/\LA K w H1 na ra nd rs ys (wks rs S00) (wks rs S00).ns ks H'/\WS pool D0 (i+1) (wks rs S00)/\fts 500 rs S00/\rs.length=i+1/\(∀r∈rs,a7 r)/\(wks rs S00).ns≠[]
def E6(B:Bl mg)(Zh:Def P w K mg base "_law_cell_at" 1 ["_law_script", "_law_k"] (sI (K:=K)))(iY:Def P w K mg base "_law_name" 1 ["_law_cell", "_law_k"] sM)(Y1:Def P w K mg base "_law_outcomes" 3 ["_law_cell", "_law_many", "_law_far"] (iw K))(XU:Def P w K mg base "_law_behind" 13 ["_law_row_here", "_law_now"] (iG K w))(iZ:Def P w K mg base "_law_row" 14 ["_law_cell", "_law_names", "_law_pool", "_law_now"] (tJ K w))(lh:Def P w K mg base "_law_told" 4 ["_law_now", "_law_asked"] (tT K w))(li:Def P w K mg base "_law_cannot" 35 ["_law_program"] (tK K))(lj:Def P w K mg base "_law_copied" 1 ["_law_program"] (tM K))(E7:DefD P w K mg base "states" 33 ["program", "most"] (.int 500) (cP K))(iL:DefD P w K mg base "walked" 34 ["program", "most"] (.int 500) (cV K xJ))(F:Fun K "law" "law" X4 f fd):FnOk P w K mg base CX0 60 f fd ["_law_script"] (a8 K):=by
 refine F.ok Qy (λvs H Q E h=>?_) (λxu A outer s H vs Q E hr h=>?_)
 . obtain⟨a,ns,rfl,_⟩:=h;rfl
 obtain⟨a,ns,rfl,hS,hl,q⟩:=h
 refine⟨_,(@J0 _ _ _ _ _ (fh (j:=1) Qy.nd rfl rfl (CompOk.of (x := "_law_k") (M:=["_law_script"]) (ix:=[0]) rfl rfl (by decide +kernel) (by decide +kernel) rfl ⟨rfl,trivial⟩ 'e' ⟨⟨rfl,rfl,rfl,rfl⟩,trivial⟩) rfl (by decide +kernel) (Zj rfl B.range (@Jb _ _ _ _ _ xX xY rfl)) (λ_ _ _ _ _=>Qf) (λ_ _ _ _ _=>(J9 iY hr rfl (@Jb _ _ _ _ _ (J9 Zh hr rfl (@Jb _ _ _ _ _ (pv 1) (@Jb _ _ _ _ _ xX xY rfl) rfl)) (@Jb _ _ _ _ _ (pv 0) xY rfl) rfl))))
  (@J0 _ _ _ _ _ (@fo _ 2 _ _ _ _ _ Qy.nd rfl 'a' (@nc _ _ _ _ (@n8 _ _ _ _ _ _ _ _ _ Jc (J4 (J3 K rfl) (pv 1) xX (λ_ _=>rfl)) (J9 Y1 hr rfl (@Jb _ _ _ _ _ (J9 Zh hr rfl (@Jb _ _ _ _ _ (pv 0) (@Jb _ _ _ _ _ xX xY rfl) rfl)) (@Jb _ _ _ _ _ (J5 (Jz.or (JH.or (JI.or (JK K rfl)))) xX (J5 Jv (J9 Zh hr rfl (@Jb _ _ _ _ _ (pv 0) (@Jb _ _ _ _ _ xX xY rfl) rfl)) xX)) (@Jb _ _ _ _ _ aa xY rfl) rfl) rfl)) rfl rfl rfl) rfl) rfl (by first|exact .inl rfl|exact .inr rfl))
  (@J0 _ _ _ _ _ (@fo _ 3 _ _ _ _ _ Qy.nd rfl 'a' (@nc _ _ _ _ (J4 (J3 K rfl) (pv 1) xX (λ_ _=>rfl)) rfl) rfl (by first|exact .inl rfl|exact .inr rfl))
  (@J0 _ _ _ _ _ (Ja (i:=4) Qy.nd rfl 'a' (J9 XU hr rfl (@Jb _ _ _ _ _ (J4 (J3 K rfl) (pv 2) xX (λ_ _=>rfl)) (@Jb _ _ _ _ _ (AH w rfl (Qx hr) (@Yq _ _ _) (@aJ _ _ _ _ _ _ _ xX xX rfl rfl)) xY rfl) rfl)))
  (@J0 _ _ _ _ _ (QI PassesOwn.never rfl (Qj (QT ((Xw K rfl).or (Xx K rfl)) (pv 0) (QJ xX) (QJ xX))) (Ju (i:=5) Qy.nd rfl 'a') (@J0 _ _ _ _ _ (Ja (i:=12) Qy.nd rfl 'a' (J9 iZ hr rfl (@Jb _ _ _ _ _ (pv 5) (@Jb _ _ _ _ _ (pv 3) (@Jb _ _ _ _ _ (pv 1) (@Jb _ _ _ _ _ (pv 4) xY rfl) rfl) rfl) rfl)))
  (@J0 _ _ _ _ _ (Qi (Zq PySem.F.plainAttrs_list PySem.F.slot_list_append PySem.F.type_list_append Zr (pv 2) (@Jb _ _ _ _ _ (pv 12) xY rfl)))
  (@J0 _ _ _ _ _ (Ja (i:=4) Qy.nd rfl 'a' (J9 XU hr rfl (@Jb _ _ _ _ _ (pv 12) (@Jb _ _ _ _ _ (pv 4) xY rfl) rfl)))
  (@J2 _ _ _ (Je (PW.pt (lE (Jd (Qk.or (Ql K rfl hr.units)) (J4 (J3 K rfl) (pv 12) xX (λ_ _=>rfl)) Jc (J8 _)) (lD (Jd (lZ.or (mV K rfl)) (J4 (J3 K rfl) (pv 12) xX (λ_ _=>rfl)) (pv 3) 'e')))) (@J2 _ _ _ (Qi (Zq PySem.F.plainAttrs_list PySem.F.slot_list_append PySem.F.type_list_append Zr (pv 3) (@Jb _ _ _ _ _ (J4 (J3 K rfl) (pv 12) xX (λ_ _=>rfl)) xY rfl)))) Jg))))))
  (@J0 _ _ _ _ _ (Ja (i:=6) Qy.nd rfl 'a' (J5 Jv (J9 Zh hr rfl (@Jb _ _ _ _ _ (pv 0) (@Jb _ _ _ _ _ xX xY rfl) rfl)) (Q1 (XZ K rfl) rfl B.len PySem.boot_len (@Jb _ _ _ _ _ (pv 3) xY rfl))))
  (@J0 _ _ _ _ _ (Ja (i:=7) Qy.nd rfl 'a' (QT ((Xw K rfl).or (Xx K rfl)) (J5 (Jz.or (JH.or (JI.or (JK K rfl)))) (QT ((Xw K rfl).or (Xx K rfl)) (pv 3) (QJ (pv 6)) X2) (QT ((Xw K rfl).or (Xx K rfl)) (pv 3) X2 (QJ (pv 6)))) X2 (QJ (J5 (Jz.or (JH.or (JI.or (JK K rfl)))) xX (J5 Jv (J5 JV (J9 Zh hr rfl (@Jb _ _ _ _ _ (pv 0) (@Jb _ _ _ _ _ xX xY rfl) rfl)) xX) xX)))))
  (@J0 _ _ _ _ _ (@fo _ 8 _ _ _ _ _ Qy.nd rfl 'a' (@n8 _ _ _ _ _ _ _ _ _ (@wW _ _) (pv 2) (pv 7) rfl rfl rfl) rfl (by first|exact .inl rfl|exact .inr rfl))
  (@J0 _ _ _ _ _ (Ja (i:=9) Qy.nd rfl 'a' (J9 lj hr rfl (@Jb _ _ _ _ _ (pv 8) xY rfl)))
  (@J0 _ _ _ _ _ (Ja (i:=10) Qy.nd rfl 'a' (oC E7 hr rfl oo (@Jb _ _ _ _ _ (pv 9) xY rfl)))
  (@J0 _ _ _ _ _ (Yu w rfl (Ja (i:=11) Qy.nd rfl 'a' (Q1 ((fB K rfl).or (aO K rfl (ZB hr))) rfl B.sorted PyProof.Rows.boot_sorted (@Jb _ _ _ _ _ (QL (CompOk.of (x := "_law_key") (M:=["_law_now"]) (ix:=[4]) rfl rfl (by decide +kernel) (by decide +kernel) rfl ⟨rfl,trivial⟩ 'e' ⟨⟨rfl,rfl,rfl,rfl⟩,trivial⟩) rfl (by decide +kernel) (Yt w rfl (pv 4)) (λ_ _ _ _ _=>Qf) (λ_ _ _ _ _=>(@aJ _ _ _ _ _ _ _ (JU (Zw K rfl) rfl B.tuple PyProof.Rows.boot_tuple (@Jb _ _ _ _ _ (QL (CompOk.of (x := "_law_pair") (M:=[]) (ix:=[]) rfl rfl (by decide +kernel) (by decide +kernel) rfl trivial 'e' trivial) rfl (by decide +kernel) ((DK K rfl) (pv 0)) (λ_ _ _ _ _=>Qf) (λ_ _ _ _ _=>(J4 (J3 K rfl) (pv 0) xX (λ_ _=>rfl)))) xY rfl)) (QY w rfl (Qx hr) (pv 1) (pv 0) (λ_ _=>rfl)) rfl rfl))) xY rfl))))
  (@J0 _ _ _ _ _ (Je (PW.pt (dZ (Jd (Qk.or (Ql K rfl hr.units)) (pv 9) (pv 8) (J8 _)) (dY (Jd (Qk.or (Ql K rfl hr.units)) (pv 10) (@aJ _ _ _ _ _ _ _ (JU (Zw K rfl) rfl B.tuple PyProof.Rows.boot_tuple (@Jb _ _ _ _ _ (Q1 ((fB K rfl).or (aO K rfl (ZB hr))) rfl B.sorted PyProof.Rows.boot_sorted (@Jb _ _ _ _ _ (pv 3) xY rfl)) xY rfl)) (pv 11) rfl rfl) (J8 _))))) (@J2 _ _ _ (J7 aa)) Jg)
  (@J0 _ _ _ _ _ (Je (Jd ((ba w rfl hr.units).or (Jn K rfl hr.units)) (pv 4) aB (J8 _)) (@J2 _ _ _ (J7 (J9 li hr rfl (@Jb _ _ _ _ _ (pv 8) xY rfl)))) Jg)
  (@J0 _ _ _ _ _ (Je (PW.pt (dZ (Jd (Qk.or (Ql K rfl hr.units)) (oC iL hr rfl oo (@Jb _ _ _ _ _ (pv 9) xY rfl)) (J9 lh hr rfl (@Jb _ _ _ _ _ (pv 4) (@Jb _ _ _ _ _ (pv 7) xY rfl) rfl)) (J8 _)) (dY (Jd (Qk.or (Ql K rfl hr.units)) (pv 9) (pv 8) (J8 _))))) (@J2 _ _ _ (J7 aa)) Jg)
  (@J2 _ _ _ (J7 (Qb ((ba w rfl hr.units).or (Jn K rfl hr.units)) (pv 10) (@aJ _ _ _ _ _ _ _ (JU (Zw K rfl) rfl B.tuple PyProof.Rows.boot_tuple (@Jb _ _ _ _ _ (Q1 ((fB K rfl).or (aO K rfl (ZB hr))) rfl B.sorted PyProof.Rows.boot_sorted (@Jb _ _ _ _ _ (pv 3) xY rfl)) xY rfl)) (pv 11) rfl rfl) (J8 _)))))))))))))))))),?_⟩
 have big:(10000:Nat)<sizeLine:=by decide
 -- the names
 refine aH ⟨_,rfl,(by decide),(by decide),?_⟩;refine wS (K:=K) (n:=4) ((Y2 (cell ns 0)).map D.str) rfl 'd' (Zv λd hd=>by obtain⟨_,_,rfl⟩:=jG.mp hd;rfl) (λi d H' R hi hd sm hR=>?_) (λpp H1 s1 dl=>?_)
 . have e:((Y2 (cell ns 0)).map D.str)[i]? = some (.str (Xo (cell ns 0) i)):=by
    have h:i=0\/i=1\/i=2\/i=3:=by omega
    rcases h with rfl|rfl|rfl|rfl<;>rfl
   rw[e]at hd
   cases hd
   rw[Int.zero_add];exact⟨_,rfl,a,ns,0,rfl,sm.seq hS,(by decide),_,rfl,cell ns 0,i,rfl,by omega,by omega,λH' s'=>hR _ _ s' rfl⟩
 obtain⟨_,ys,ee,qpp,dys⟩:=dl
 cases ee
 rw[oJ dys]at qpp;obtain⟨x0,x1,x2,x3,e4⟩:∃x0 x1 x2 x3,Y2 (cell ns 0)=[x0,x1,x2,x3]:=⟨_,_,_,_,rfl⟩;obtain⟨pool,epl⟩:∃pool,pool=Y2 (cell ns 0):=⟨_,rfl⟩;have pok:∀x∈pool,PySem.PyData.strOk x=true:=by rw[epl];exact DW _
 rw[<- epl]at e4 qpp;have pl4:pool.length=4:=by rw[e4];rfl
 have hx0:x0∈pool:=by rw[e4];simp
 have xD:atI (pool.map V.str) 0=some (.str x0):=by rw[e4];exact JG
 have hS1:=s1.seq hS
 -- the first row
 refine⟨_,rfl,.inl ⟨pp,_,0,.str x0,rfl,rfl,qpp,xD,_,rfl,a,ns,1,rfl,hS1,by decide,_,rfl,a,ns,2,rfl,hS1,by decide,_,_,rfl,rfl,(by show(0:Int)<3;decide),.inl ⟨_,_,rfl,rfl,_,_,true,rfl,by omega,by omega,λpo os H4 D0 s4 a4 oj ol dk df=>⟨by show 3<=sizeLine;decide,λp5 n5=>⟨by show 1<=sizeLine;decide,λra n6=>?_⟩⟩⟩⟩⟩;have s5:=J6 n5 (.tup [.str "draw",.str x0,.ref po]);have d5:IsA K H1 (upd H4 p5 (.tup [.str "draw",.str x0,.ref po])) (dW (.draw x0 os)) (.ref p5):=Qr (ds:=[.str "draw",.str x0,.lst (dOs os)]) s4 n5 λA a=>⟨_,_,rfl,rfl,_,_,rfl,rfl,_,_,rfl,a4 A a,rfl⟩;have d5:=d5.plain;generalize upd H4 p5 (.tup [.str "draw",.str x0,.ref po])=H5 at s5 d5 n6 ⊢;have s6:=J6 n6 (.lst [V.ref p5]);have era:(upd H5 ra (.lst [V.ref p5])) ra=some (.lst [V.ref p5]):=J1;have s16:=s4.trans (s5.trans s6);have r0:H1 ra=none:=s4.free (s5.free n6);generalize upd H5 ra (.lst [V.ref p5])=H6 at era s6 s16 ⊢;clear s5 n5 a4 s4
 -- the names known
 refine⟨_,rfl,.inl ⟨pp,_,0,.str x0,rfl,rfl,s16.seq qpp,xD,by show 1<=sizeLine;decide,λna nna=>?_⟩⟩;have s7:=J6 nna (.lst [V.str x0]);have ena:(upd H6 na (.lst [V.str x0])) na=some (.lst (([x0]:xp).map V.str)):=J1;have n0:H1 na=none:=s16.free nna;have rne:ra≠na:=Jp era nna;have s17:=s16.trans s7;have era7:=s7 _ _ era;generalize upd H6 na (.lst [V.str x0])=H7 at s7 ena s17 era7 ⊢
 -- the first states
 obtain⟨f0,bh0,en0,ws0⟩:=DQ dk hx0 (pok x0 hx0) oj;refine⟨_,rfl,.inl ⟨ra,_,0,.ref p5,rfl,rfl,.of era7,JG,λnd0 nn0=>⟨jT _,λpk ok npk hok=>⟨by show 2<=sizeLine;decide,λpt npt=>?_⟩⟩⟩⟩;have t1:=J6 nn0 (k2HO w nd0 []);have t2:=J6 npk (.frz ok (.tup []));have t3:=J6 npt (.tup [V.int 1,.int 1]);have e0:(upd (upd (upd H7 nd0 (k2HO w nd0 [])) pk (.frz ok (.tup []))) pt (.tup [V.int 1,.int 1])) nd0=some (k2HO w nd0 []):=t3 _ _ (t2 _ _ J1);have ek:(upd (upd (upd H7 nd0 (k2HO w nd0 [])) pk (.frz ok (.tup []))) pt (.tup [V.int 1,.int 1])) pk=some (.frz ok (.tup [])):=t3 _ _ J1;have et:(upd (upd (upd H7 nd0 (k2HO w nd0 [])) pk (.frz ok (.tup []))) pt (.tup [V.int 1,.int 1])) pt=some (.tup [V.int 1,.int 1]):=J1;have t13:=t1.trans (t2.trans t3);generalize upd (upd (upd H7 nd0 (k2HO w nd0 [])) pk (.frz ok (.tup []))) pt (.tup [V.int 1,.int 1])=H8 at e0 ek et t13 ⊢;clear t1 t2 t3;refine⟨e0,pk,[],.ref pt,rfl,⟨[],⟨_,ek,hok⟩,.nil,rfl⟩,?_⟩;have t4:Same H7 (upd H8 nd0 (k2HO w nd0 [([],pk,.ref pt)])):=λb u h=>by rw[xZ (Jp h nn0)];exact t13 _ _ h
 have ek9:(upd H8 nd0 (k2HO w nd0 [([],pk,.ref pt)])) pk=some (.frz ok (.tup [])):=by rw[xZ (Qs ek e0 (λz=>nomatch z))];exact ek
 have et9:(upd H8 nd0 (k2HO w nd0 [([],pk,.ref pt)])) pt=some (.tup [V.int 1,.int 1]):=by rw[xZ (Qs et e0 (λz=>nomatch z))];exact et
 have d29:D2 w (upd H8 nd0 (k2HO w nd0 [([],pk,.ref pt)])) nd0 none [([],pk,.ref pt)]:=⟨J1,by simp,by show 1<=sizeLine;decide,λq hq=>by rw[jP.mp hq];exact⟨[],⟨_,ek9,hok⟩,.nil,rfl⟩⟩;generalize upd H8 nd0 (k2HO w nd0 [([],pk,.ref pt)])=H9 at t4 ek9 et9 d29 ⊢;have pr9:Paired (EntQ K H9) (nowL S00) [([],pk,.ref pt)] := .cons ⟨rfl,pt,_,rfl,.of et9,_,_,rfl,rfl,_,_,rfl,rfl,rfl⟩ .nil
 have d9:IsD K (hid [na,ra] H9) (dW (.draw x0 os)) (.ref p5):=d5.same λb u h=>ZX (λz=>by
  rcases jJ.mp z with rfl|z
  . rw[s6 _ _ h]at nna;cases nna
  . rw[jP.mp z,n6]at h;cases h) ((s6.trans (s7.trans t4)) _ _ h)
 have L9:LA K w H1 na ra nd0 [.draw x0 os] [.ref p5] S00 [x0] [([],pk,.ref pt)] H9:=⟨s17.trans t4,n0,r0,rne,t4 _ _ era7,t4 _ _ ena,⟨_,_,rfl,d9,rfl⟩,d29,pr9⟩;have k00:wks [Wr.draw x0 os] S00=wk1 (.draw x0 os) S00:=uf [] _ _;refine⟨.ref p5,nd0,.draw x0 os,S00,_,rfl,d9.same (cZ _ _),d29,pr9,bh0,λnd1 ks1 HA sA fA dA prA=>?_⟩;have LB:=L9.now sA dA prA;clear L9 d29 pr9 d9 et9 ek9 t4 t13 ek et e0 nn0 npk npt era7 ena s17 s7 era s6 nna n6 d5
 -- the other rows
 obtain⟨ms,em,lm⟩:=DX ns;dsimp only[Jh,List.set,L2.JD];refine E5 (LI K w H1 a pp ra na pool D0 ms.length) (λT hT=>?_) ?_
 . refine⟨_,rfl,_,rfl,_,rfl,.inl ⟨a,_,rfl,LB.sm.seq hS1,λca nca=>?_⟩⟩;rw[em];have sB:=J6 nca (.lst (ms.map V.int));have eca:(upd HA ca (.lst (ms.map V.int))) ca=some (.lst (ms.map V.int)):=J1;have LC:=LB.same sB;generalize upd HA ca (.lst (ms.map V.int))=HC at sB eca LC ⊢;have ncr:ca≠ra:=λz=>by rw[z,LB.er]at nca;cases nca
   have ncn:ca≠na:=λz=>by rw[z,LB.en]at nca;cases nca
   clear LB sB nca
   refine⟨ca,rfl,⟨_,.of eca⟩,X1 (K:=K) (xs:=ms.map V.int) (λi σ H'=>LI K w H1 a pp ra na pool D0 i σ H'/\H' ca=some (.lst (ms.map V.int)))
    ⟨⟨[.draw x0 os],[.ref p5],ks1,nd1,none,none,rfl,?_,?_,?_,rfl,?_,?_⟩,eca⟩ (λi σ H' _ h => .of h.2) ?_ λσ H' h=>hT σ H' (by rw[jA]at h;exact h.1)⟩
   . rw[k00,en0];exact LC
   . rw[k00];exact ws0
   . unfold fts;exact⟨f0,by unfold fts;trivial⟩
   . intro r hr;rw[jP.mp hr];have:=iV os;exact⟨trivial,λy os' e=>by cases e;exact oj.few,by show max 0 (max 0 (max (D.deeps (dOs os)+1) 0))+1<=20;omega,rfl⟩
   . rw[k00,en0];exact List.cons_ne_nil _ _
   . clear LC eca ws0 f0 bh0 en0 k00 dA prA fA sA;rintro i x σ H' hx ⟨⟨rs,ys,ks,nd,c5,c12,rfl,L,ws,ft,rl,rb,nne⟩,eca⟩
     obtain⟨c,ec,rfl⟩:∃c,ms[i]?=some c/\x=.int c:=by
      rw[jD]at hx
      cases e:ms[i]? with
      |none=>rw[e]at hx;cases hx
      |some c=>rw[e]at hx;cases hx;exact⟨c,rfl,rfl⟩
     have hi:=(jF.mp ec).1;obtain⟨S,eS⟩:∃S,S=wks rs S00:=⟨_,rfl⟩;rw[<- eS]at L ws nne;have nl:=List.Nodup.length_le_of_subset ws.gd.nd ws.gd.sub;have p60:pool.length<=60:=by omega
     have row:=λ(r:Wr) (hr:dG pool S r)=>ws.row p60 pok (show i+1<80 by omega) hr;have yl:=L.ds.length;rw[Xl,jA]at yl;refine⟨_,rfl,_,rfl,_,rfl,_,rfl,c,na,pp,nd,S.ns,pool,S,ks,rfl,.of L.en,by omega,nne,L.sm.seq qpp,by rw[e4];exact List.cons_ne_nil _ _,by omega,L.d2,L.eq,λe lf=>(row (.seen e) (lf.up 'd')).2.1,λx hx os oj _=>(row (.draw x os) ⟨hx,oj⟩).2.1,λp r H2 s2 a2 rw2=>?_⟩
     have rj:dG pool S r:=by
      cases r with
      |draw x os=>exact⟨rw2.1,rw2.2.1⟩
      |lett x e=>exact⟨rw2.1,rw2.2.up 'd'⟩
      |seen e=>exact rw2
      |_=>exact rw2.elim
     obtain⟨f1,bh,en1,wsn,l8'⟩:=row r rj
     have l8:(wk1 r S).w.length<=8:=by
      cases r with
      |draw x os=>exact rw2.2.2.2.2
      |lett x e=>exact l8' (λ_ _ z=>by cases z)
      |seen e=>exact l8' (λ_ _ z=>by cases z)
      |_=>exact rw2.elim
     have L2:=L.same s2;dsimp only[Jh,List.set];refine⟨_,rfl,.inl ⟨rfl,_,.of L2.er⟩,_,rfl,ra,ys,.ref p,rfl,rfl,L2.er,by omega,?_⟩;have L3:=L2.add (a2 _ L.al);have eca3:(upd H2 ra (.lst (ys++[.ref p]))) ca=some (.lst (ms.map V.int)):=by rw[xZ ncr];exact s2 _ _ eca
     have dp:IsD K (hid [na,ra] (upd H2 ra (.lst (ys++[.ref p])))) (dW r) (.ref p):=by rw[iq 'f'];exact a2 _ L.al
     generalize upd H2 ra (.lst (ys++[.ref p]))=H3 at L3 eca3 dp ⊢;refine⟨_,rfl,_,rfl,.ref p,nd,r,S,ks,rfl,dp.same (cZ _ _),L3.d2,L3.eq,bh,λtd xE H5 s5 ft5 d5 p5'=>?_⟩;have L5:=L3.now s5 d5 p5';have eca5:=s5 _ _ eca3;have dp5:=(dp.same (YS s5)).same (cZ _ _);clear L L2 L3 dp eca3 s5 d5 p5' ft5 s2 a2;have w1:wks (rs++[r]) S00=wk1 r S:=by rw[uf,eS]
     have f2:fts 500 (rs++[r]) S00:=ug ft (by rw[<- eS];exact f1);have rb2:∀r'∈rs++[r],a7 r':=λr' h=>(je.mp h).elim (rb r') λz=>by rw[jP.mp z];exact DT rj
     have rl2:(rs++[r]).length=i+1+1:=by rw[jU,rl];rfl
     have ne2:rnm S.ns r≠[]:=by
      cases r with
      |draw x os=>exact uh nne
      |lett x e=>exact uh nne
      |seen e=>exact nne
      |_=>exact rj.elim
     have fin:∀(H6:Hp) (c:Option V),LA K w H1 na ra td (rs++[r]) (ys++[.ref p]) (wk1 r S) (rnm S.ns r) xE H6->H6 ca=some (.lst (ms.map V.int))->LI K w H1 a pp ra na pool D0 (i+1) [some (V.ref a),some (.ref pp),some (.ref ra),some (.ref na),some (.ref td),c,none,none,none,none,none,none,some (.ref p)] H6/\H6 ca=some (.lst (ms.map V.int)) :=
      λH6 c l e=>⟨⟨rs++[r],_,_,_,_,_,rfl,by rw[w1,en1];exact l,by rw[w1];exact wsn l8,f2,rl2,rb2,by rw[w1,en1];exact ne2⟩,e⟩
     have two:(∃(tg y:Str) (d3:D),dW r=.tup [.str tg,.str y,d3]/\tg ≠ "seen" /\ rnm S.ns r=adN S.ns y)\/∃e,r=.seen e:=by
      cases r with
      |draw y os=>exact .inl ⟨_,y,_,rfl,(by decide),rfl⟩
      |lett y e=>exact .inl ⟨_,y,_,rfl,(by decide),rfl⟩
      |seen e=>exact .inr ⟨e,rfl⟩
      |_=>exact rj.elim
     obtain⟨tg,y,d3,ew,htg,ern⟩|⟨e,rfl⟩:=two
     . rw[ew]at dp5;obtain⟨tr,zz,e0,qr,_,_,rfl,rfl,_,_,rfl,rfl,_⟩:=dp5
       cases e0
       refine⟨_,rfl,.inr (.inl ⟨p,_,0,.str tg,rfl,rfl,qr,JG,.inl ⟨_,_,rfl,rfl,_,rfl,QF (λ_=>?_) (λz=>absurd z htg)⟩⟩)⟩;refine⟨_,rfl,.inr (.inl ⟨p,_,1,.str y,rfl,rfl,qr,Q4,_,rfl,.inr ⟨na,_,rfl,.inl (.of L5.en),rfl,Zx _,_,rfl,?_⟩⟩)⟩;show if (!inV (.str y) (S.ns.map V.str))=true then _ else _;rw[aI];refine QF (λhn=>?_) (λhn=>?_)
       . refine⟨_,rfl,.inl ⟨rfl,_,.of L5.en⟩,_,rfl,.inr (.inl ⟨p,_,1,.str y,rfl,rfl,qr,Q4,na,_,.str y,rfl,rfl,L5.en,by rw[jA];omega,?_⟩)⟩;refine fin _ _ ?_ (by rw[xZ ncn];exact eca5);rw[ern,show adN S.ns y=S.ns++[y] from qg hn];exact L5.nam
       . refine nxt (fin _ _ ?_ eca5);rw[ern,show adN S.ns y=S.ns from qh hn];exact L5
     . obtain⟨tr,zz,e0,qr,_,_,rfl,rfl,_⟩:=dp5
       cases e0
       refine⟨_,rfl,.inr (.inl ⟨p,_,0,.str "seen",rfl,rfl,qr,JG,.inl ⟨_,_,rfl,rfl,_,rfl,QF (λz=>absurd rfl z) (λ_=>?_)⟩⟩)⟩;exact nxt (fin _ _ L5 eca5)
 . rintro σ H' ⟨rs,ys,ks,nd,c5,c12,rfl,L,ws,ft,rl,rb,nne⟩;clear LB;obtain⟨S,eS⟩:∃S,S=wks rs S00:=⟨_,rfl⟩;have eS':wks rs ⟨[],[([],1)]⟩=S:=eS.symm;rw[<- eS]at L ws nne;have nl:=List.Nodup.length_le_of_subset ws.gd.nd ws.gd.sub;have p60:pool.length<=60:=by omega
   have yl:=L.ds.length;rw[Xl,jA]at yl;have nlp:0<S.ns.length:=List.length_pos_iff.mpr nne;have dsr:=L.ds.same (cZ _ _);have hS2:=L.sm.seq hS1;clear ws0 f0 bh0 en0 k00 dA prA fA sA
   -- what is asked
   refine⟨_,rfl,a,ns,3,rfl,hS2,by decide,_,rfl,_,_,rfl,Zu (.of L.en),_,_,rfl,rfl,(by rw[jA];omega),?_⟩;refine⟨_,rfl,_,rfl,_,rfl,.inl ⟨na,_,rfl,.of L.en,λp1 n1=>?_⟩⟩;obtain⟨y1,e1,m1⟩:=ui S.ns (some (cell ns 3 % ((S.ns.map V.str).length:Int))) none;rw[e1];have u1:=J6 n1 (.lst (y1.map V.str));refine⟨_,rfl,_,rfl,_,rfl,.inl ⟨na,_,rfl,.of (u1 _ _ L.en),λp2 n2=>?_⟩⟩;obtain⟨y2,e2,m2⟩:=ui S.ns none (some (cell ns 3 % ((S.ns.map V.str).length:Int)));have l1:y1.length<=S.ns.length:=by have h:=Yd (S.ns.map V.str) (some (cell ns 3 % ((S.ns.map V.str).length:Int))) none;rw[e1,jA,jA]at h;exact h
   have l2:y2.length<=S.ns.length:=by have h:=Yd (S.ns.map V.str) none (some (cell ns 3 % ((S.ns.map V.str).length:Int)));rw[e2,jA,jA]at h;exact h
   rw[e2];have u2:=J6 n2 (.lst (y2.map V.str));refine .inr (.inr (.inl ⟨p1,p2,_,_,rfl,rfl,u2 _ _ J1,J1,by rw[jA,jA];omega,λp3 n3=>?_⟩));have u3:=J6 n3 (.lst (y1.map V.str++y2.map V.str));have u13:=u1.trans (u2.trans u3);have hS3:=u13.seq hS2;have k0:=kS (cell ns 3 / 4) (show(4:Int)≠0 by decide);have k4:=kE (cell ns 3 / 4) (show(0:Int)<4 by decide);refine⟨_,rfl,a,ns,3,rfl,hS3,by decide,_,_,rfl,rfl,⟨by decide,by decide⟩,_,_,rfl,rfl,(by show(0:Int)<4;decide),.inl ⟨_,_,rfl,rfl,?_⟩⟩;refine⟨_,rfl,.inl ⟨p3,_,rfl,.of J1,λal nal=>?_⟩⟩;rw[<- jh];obtain⟨ss,e3,m3,s4⟩:=E2 (y1++y2) (1+cell ns 3 / 4 % 4) 'c' 'c';rw[e3];have u4:=J6 nal (.lst (ss.map V.str));have u14:=u13.trans u4;have sub:∀n∈ss,n∈S.ns:=λn hn=>(je.mp (m3 n hn)).elim (m1 n) (m2 n);have eal:(upd (upd (upd (upd H' p1 (.lst (y1.map V.str))) p2 (.lst (y2.map V.str))) p3 (.lst ((y1++y2).map V.str))) al (.lst (ss.map V.str))) al=some (.lst (ss.map V.str)):=J1;rw[<- jh]at u14;generalize upd (upd (upd (upd H' p1 (.lst (y1.map V.str))) p2 (.lst (y2.map V.str))) p3 (.lst ((y1++y2).map V.str))) al (.lst (ss.map V.str))=H2 at u14 eal ⊢;clear u1 u2 u3 u4 u13 hS3 e1 e2 e3 m1 m2 m3 l1 l2 n1 n2 n3 nal;have L2:=L.same u14;have ds2:=dsr.same u14
   -- the program,and what is handed in
   refine⟨jT _,λpl npl=>⟨_,rfl,_,rfl,by show 3<=sizeLine;decide,λpt npt=>?_⟩⟩;have v1:=J6 npl (.lst []);have v2:=J6 npt (.tup [.ref pl,.ref ra,.ref al]);have v12:=v1.trans v2;have epl:(upd (upd H2 pl (.lst [])) pt (.tup [.ref pl,.ref ra,.ref al])) pl=some (.lst []):=v2 _ _ J1;have ept:(upd (upd H2 pl (.lst [])) pt (.tup [.ref pl,.ref ra,.ref al])) pt=some (.tup [.ref pl,.ref ra,.ref al]):=J1;have L3:=L2.same v12;have ds3:=ds2.same v12;have eal3:=v12 _ _ eal;dsimp only[Jh,List.set];generalize upd (upd H2 pl (.lst [])) pt (.tup [.ref pl,.ref ra,.ref al])=H3 at v12 epl ept L3 ds3 eal3 ⊢;clear v1 v2 L2 ds2 eal npl npt v12 u14;refine⟨_,rfl,pt,pl,ra,al,ys,rs,ss,rfl,.of ept,.of eal3,.of L3.er,ds3,s4,by omega,λr hr=>(rb r hr).2.1,λr hr=>(rb r hr).1,λth ph rh ah ys' H4 s34 fth eth eph erh ds4 eah=>?_⟩;have L4:=L3.same s34;dsimp only[Jh,List.set];have hi0:=(uc rb).2;have so:=ws.gd.sok ws.d p60 'd' (show _<=80 by omega);obtain⟨Dd,Mm,tb,hb⟩:=ws.tb (show _<=64 by omega);have hM:60*Mm<2 ^ 2000:=by have:=tb.top;omega
   have c8:=ws.gd.cnt
   -- the states
   refine⟨_,rfl,th,ph,rh,.ref ah,500,ys',rs,rfl,.of eth,.of eph,.of erh,ds4,by omega,dH,ft,by rw[eS'];exact so,by rw[eS'];omega,by rw[eS'];exact ws.gd.nd,by rw[eS'];exact λi g hg=>(cS tb.pos (λr hr=>hb r (jj hr)) g hg).sz tb.pos tb.lt (jd (j5 _ (by rw[jW];omega:(S.w.take i).length<=60)) hM),?_⟩;rw[eS'];intro pf t4 l2 H5 qs s45 pm pw qpf z4 dl2;have it:=IsT.of pm pw;have L5:=L4.same s45;dsimp only[Jh,List.set]
   -- what is due
   have d25:=L5.d2;have eq5:=L5.eq
   have kl:ks.length=S.w.length:=by
    have:=qG List.length (Ze eq5);unfold nowL at this;rw[jA,jA,jA]at this;exact this.symm
   refine⟨nd,ks,d25.at_,DY ⟨_,rfl,nd,ks,rfl,d25.at_,λo=>?_⟩⟩;have sb:Bu nd H5 (upd H5 nd (.frz o (k2HO w nd ks))):=λb u n e=>by rw[xZ n];exact e
   have ef:upd H5 nd (.frz o (k2HO w nd ks)) nd=some (.frz o (k2HO w nd ks)):=J1;generalize upd H5 nd (.frz o (k2HO w nd ks))=H6 at sb ef ⊢;have d26:D2 w H6 nd (some o) ks:=da d25 sb ef;have go:=E1 ef;refine Yo (RowS K) (λs h=>h.same s) ks.length _ (S.w.map λp=>((srt S.ns).map (asg S.ns p.1),p.2)) (by rw[jA];exact kl.symm) 'c' go.1 go.2 (λj g Da H7 R hj hg sm nD oD hR=>?_) (λpc H7 zs s7 npc epc prz=>?_)
   . have hjw:j < S.w.length:=by omega
     rw[jD,jB hjw]at hg;have hg:=(Option.some.inj hg).symm;obtain⟨pw_,epw⟩:∃pw,pw=S.w[j]:=⟨_,rfl⟩;rw[<- epw]at hg;subst hg;have hk:(nowL S)[j]?=some (kf S.ns pw_.1,pw_.2):=by unfold nowL;rw[jD,jB hjw,epw];rfl
     obtain⟨pe,hpe,ek,dk⟩:=X3 eq5 hk;have ka:=d26.key pe (jZ hpe);rw[<- ek]at ka;have dk6:IsD K H6 (dF pw_.2) pe.2.2:=XT (fz:=none) d25.at_ sb dk
     have vk:Jw ks (kf S.ns pw_.1)=some pe.2.2:=by
      have:=dj d25.nd hpe
      rwa [<- ek]at this
     have exi:(ks.map λp=>V.ref p.2.1).getD j .non=.ref pe.2.1:=by rw[jL,jD,hpe];rfl
     rw[exi];have kgo:∀{HH:Hp},Same H6 HH->K2At HH (kf S.ns pw_.1) pe.2.1:=λs=>ka.same (λb xs e=>s _ _ e) (λb xs e=>e.same s);obtain⟨xs,zt,kp,_⟩:=kgo sm;obtain⟨xl,xi⟩:=iP kp;have eb:(bkQ S.ns (bk S.ns pw_.1)).map (·.2)=(srt S.ns).map (asg S.ns pw_.1):=by unfold bkQ;rw[jb];rfl
     have bl:(bkQ S.ns (bk S.ns pw_.1)).length=(srt S.ns).length:=by unfold bkQ;rw[jA]
     have sl:(srt S.ns).length<=S.ns.length:=List.Nodup.length_le_of_subset (XJ (QO _)) λn hn=>JW.mp hn;refine DZ ?_;refine⟨_,rfl,pe.2.1,rfl,⟨_,zt.sq⟩,?_⟩;refine Ym (K:=K) (xs:=xs) (((srt S.ns).map (asg S.ns pw_.1)).map D.int) zt.sq (by rw[jA,jA];omega) 'c' (Xd _) (λm x d' H8 R' hx hd sm8 hR'=>?_) (λl8 H8 ys8 s8 e8 dl8=>?_)
     . rw[<- eb,jD,jD]at hd;obtain⟨z,ez,rfl⟩:=jf.mp hd;obtain⟨q0,eq0,rfl⟩:=jf.mp ez;obtain⟨b,rfl,hb'⟩:=xi m x q0 hx eq0;exact⟨_,rfl,.inr (.inl ⟨b,_,1,.int q0.2,rfl,rfl,.of (sm8 _ _ hb'),Q4,hR' _ _ (Same.refl _) rfl⟩)⟩
     . rw[QX dl8]at e8;refine⟨l8,_,rfl,.inl ⟨.of e8,λtv nv=>?_⟩⟩;have s9:=s8.trans (J6 nv (.tup (((srt S.ns).map (asg S.ns pw_.1)).map V.int)));have ev9:upd H8 tv (.tup (((srt S.ns).map (asg S.ns pw_.1)).map V.int)) tv=some (.tup (((srt S.ns).map (asg S.ns pw_.1)).map V.int)):=J1;have ntv:tv≠Da:=λz=>by obtain⟨oDa,eDa⟩:=oD;rw[z,s8 _ _ eDa]at nv;cases nv
       generalize upd H8 tv (.tup (((srt S.ns).map (asg S.ns pw_.1)).map V.int))=H9 at s9 ev9 ⊢;refine⟨_,rfl,_,rfl,nd,pe.2.1,some o,ks,kf S.ns pw_.1,pe.2.2,rfl,rfl,d26.same (sm.trans s9),kgo (sm.trans s9),vk,by show 2<=sizeLine;decide,λpn npn=>?_⟩;have un:=J6 npn (.tup [.ref tv,pe.2.2]);have npD:pn≠Da:=λz=>by obtain⟨oDa,eDa⟩:=oD;rw[z,s9 _ _ eDa]at npn;cases npn
       exact hR _ _ (s9.trans un) ⟨pe.2.2,⟨pn,tv,rfl,YW npD J1,YW ntv (un _ _ ev9)⟩,dk6.same (fN nD ((sm.trans s9).trans un))⟩
   . have knd:=E3 ws.gd.nd ws.gd.len ws.kn;obtain⟨a',xs',xE,g1,g2,g3,g4,g5,g6,g7⟩:=tQ (Q:=λv H'=>∃(ld:xS) (qd:List (xr×Rat)),v = .ref ld/\Same H7 H'/\qd.Perm (S.w.map λp=>((srt S.ns).map (asg S.ns p.1),p.2))/\qd.Pairwise (λp q=>HT.lexLt p.1 q.1=true)/\IsD K H' (.lst (qd.map JM)) (.ref ld)) (.of epc) prz knd (by rw[jA];omega) (λld qd H8 s8 fld pmd pwd dld=>⟨ld,qd,rfl,s8,pmd,pwd,dld⟩);refine .inr ⟨a',xs',xE,g1,g2,g3,g4,g5,g6,λl0 qs0 ys0 k1 k2 k3 k4 k5=>?_⟩;obtain⟨ld,qd,e1,s8,pmd,pwd,dld⟩:=g7 l0 qs0 ys0 k1 k2 k3 k4 k5
     cases e1
     generalize upd H7 l0 (.lst ys0)=H8 at s8 dld ⊢;clear g1 g2 g3 g4 g5 g6 g7 k1 k2 k3 k4 k5;have s68:=s7.trans s8;refine⟨o,s68 _ _ ef,?_⟩;have it2:IsT qd S.w λv=>(srt S.ns).map (asg S.ns v):=DR pmd pwd
     obtain rfl:qs=qd:=by
      have it':IsT qs S.w λv=>(srt S.ns).map (asg S.ns v):=by
       have e:(λv=>JE v (plc S.ns (srt S.ns)))=λv=>(srt S.ns).map (asg S.ns v):=funext λv=>gX _ _ _;rw[<- e];exact it
      exact it'.eq it2
     have bu8:Bu nd H8 (upd H8 nd (k2HO w nd ks)):=λb u n e=>by rw[xZ n];exact e
     have s59:Same H5 (upd H8 nd (k2HO w nd ks)):=λb u h=>by
      by_cases z:b=nd
      . rw[z,d25.at_]at h;rw[z,J1];exact h
      . rw[xZ z];exact s68 _ _ (sb b u z h)
     have dld9:IsD K (upd H8 nd (k2HO w nd ks)) (.lst (qs.map JM)) (.ref l0):=XT (fz:=some o) (s68 _ _ ef) bu8 dld;generalize upd H8 nd (k2HO w nd ks)=H9 at s59 dld9 ⊢;clear bu8 dld pmd pwd it2 knd prz epc npc s7 s8 s68 go d26 sb ef;have L9:=L5.same s59;have s49:=s45.trans s59;have s39:=s34.trans s49;have ds9:IsDs K H9 (dWs rs) ys:=ds3.same s39;have dprog:∀{HH:Hp},Same H9 HH->IsD K HH (.tup [.lst [],.lst (dWs rs),.lst (ss.map D.str)]) (.ref pt):=λs=>⟨pt,_,rfl,.of (s _ _ (s39 _ _ ept)),_,_,rfl,⟨pl,_,rfl,.of (s _ _ (s39 _ _ epl)),rfl⟩,_,_,rfl,⟨ra,_,rfl,.of (s _ _ L9.er),ds9.same s⟩,_,_,rfl,⟨al,_,rfl,.of (s _ _ (s39 _ _ eal3)),YL _⟩,rfl⟩;have dhand:∀{HH:Hp},Same H9 HH->IsD K HH (.tup [.lst [],.lst (dWs rs),.lst (ss.map D.str)]) (.ref th):=λs=>⟨th,_,rfl,.of (s _ _ (s49 _ _ eth)),_,_,rfl,⟨ph,_,rfl,.of (s _ _ (s49 _ _ eph)),rfl⟩,_,_,rfl,⟨rh,_,rfl,.of (s _ _ (s49 _ _ erh)),(ds4.same s49).same s⟩,_,_,rfl,⟨ah,_,rfl,.of (s _ _ (s49 _ _ eah)),YL _⟩,rfl⟩;have pdeep:=DU rb ss;have dfound:∀{HH:Hp},Same H9 HH->IsD K HH (.tup [.tup ((srt S.ns).map D.str),.lst (qs.map JM)]) (.ref pf):=λs=>⟨pf,_,rfl,s.tupq (s59.tupq qpf),_,_,rfl,⟨t4,_,rfl,((z4.same s59).same s).sq,YL _⟩,_,_,rfl,(dl2.same s59).same s,rfl⟩
     have names:∀{HH:Hp},Same H9 HH->∀l (ss':xp),HH l=none->ss'.Perm S.ns->PyProof.Rows.sortedS ss'=true->∀tt,(upd HH l (.lst (ss'.map V.str))) tt=none->∀p9,(upd (upd HH l (.lst (ss'.map V.str))) tt (.tup (ss'.map V.str))) p9=none->Same HH (upd (upd (upd HH l (.lst (ss'.map V.str))) tt (.tup (ss'.map V.str))) p9 (.tup [.ref tt,.ref l0]))/\IsD K (upd (upd (upd HH l (.lst (ss'.map V.str))) tt (.tup (ss'.map V.str))) p9 (.tup [.ref tt,.ref l0])) (.tup [.tup ((srt S.ns).map D.str),.lst (qs.map JM)]) (.ref p9):=fun {HH} s l ss' fl pms so tt ftt p9 f9=>by
      obtain rfl:ss'=srt S.ns:=gB (E4 so (pms.nodup_iff.mpr ws.gd.nd)) λk=>pms.mem_iff;have x1:=J6 fl (.lst ((srt S.ns).map V.str));have x2:=J6 ftt (.tup ((srt S.ns).map V.str));have x3:=J6 f9 (.tup [V.ref tt,.ref l0]);exact⟨x1.trans (x2.trans x3),p9,_,rfl,.of J1,_,_,rfl,⟨tt,_,rfl,.of (x3 _ _ J1),YL _⟩,_,_,rfl,dld9.same (s.trans (x1.trans (x2.trans x3))),rfl⟩
     -- the first test
     refine⟨_,rfl,_,rfl,.inr ⟨_,dhand (Same.refl _),dprog (Same.refl _),⟨th,rfl⟩,pdeep,_,rfl,Xc ?_⟩⟩;refine⟨_,rfl,_,rfl,.inl ⟨na,S.ns,rfl,.of L9.en,by omega,λl ss' fl pms sox=>⟨l,_,rfl,.inl ⟨.of J1,λtt ftt=>⟨_,rfl,by show 2<=sizeLine;decide,λp9 f9=>?_⟩⟩⟩⟩⟩;obtain⟨sX,dX⟩:=names (Same.refl _) l ss' fl pms sox tt ftt p9 f9;generalize upd (upd (upd H9 l (.lst (ss'.map V.str))) tt (.tup (ss'.map V.str))) p9 (.tup [.ref tt,.ref l0])=HX at sX dX ⊢;refine .inr ⟨_,dfound sX,dX,⟨pf,rfl⟩,ue _ _,_,rfl,Xc (nxt ?_)⟩;have LX:=L9.same sX;have s3X:=s39.trans sX;have s4X:=s49.trans sX
     -- no state left?
     refine⟨_,rfl,λp6 n6 => .inl ⟨nd,p6,ks,rfl,rfl,LX.d2.same (J6 n6 _),J1,_,rfl,Ji (λc=>?_) (λc=>nxt ?_)⟩⟩
     . have em:S.w=[]:=kO.mp (by rw[<- kl,c];rfl);have x6:=J6 n6 (.dK []);have s3Y:=s3X.trans x6;refine⟨_,rfl,pt,pl,ra,al,ys,rs,ss,rfl,.of (s3Y _ _ ept),.of (s3Y _ _ eal3),.of (s3Y _ _ epl),.of (x6 _ _ LX.er),(ds9.same sX).same x6,by omega,dH,ft,by rw[eS'];exact so,by rw[eS'];exact em,by rw[eS'];exact ws.gd.nd,by rw[eS'];exact sub,s4,⟨Dd,Mm,tb⟩,λH' _=>q _⟩
     . have ne:S.w≠[]:=λz=>c (kO.mp (by rw[kl,z];rfl));have x6:=J6 n6 (.dK []);have sY:=sX.trans x6;have LY:=LX.same x6;have s4Y:=s4X.trans x6;generalize upd HX p6 (.dK [])=HY at x6 sY LY s4Y ⊢;refine⟨_,rfl,th,ph,rh,ah,500,ys',rs,ss,rfl,.of (s4Y _ _ eth),.of (s4Y _ _ eah),.of (s4Y _ _ eph),.of (s4Y _ _ erh),ds4.same s4Y,by omega,dH,ft,?_⟩;rw[eS'];refine⟨so,by omega,ws.gd.nd,sub,s4,⟨Dd,Mm,tb,hb⟩,λz=>absurd z ne,λ_=>⟨λz=>?_,λlw HZ qw sZ flw itw dw=>?_⟩⟩
       . have:=tS ne λp hp=>Zg.mpr (ws.pos p hp);omega
       . have LZ:=LY.same sZ;have sYZ:=sY.trans sZ;refine⟨_,rfl,_,rfl,nd,al,S,ss,ks,rfl,LZ.d2,LZ.eq,.of (sYZ _ _ (s39 _ _ eal3)),ws.told p60 'c' sub s4 ne,λlt HT' qt sT flt itt dt=>?_⟩;obtain rfl:qw=qt:=itw.eq itt;have sT9:=sYZ.trans sT;refine .inr ⟨_,dw.same sT,dt,⟨lw,rfl⟩,DV _,_,rfl,Xc ?_⟩;refine⟨_,rfl,_,rfl,.inr ⟨_,dhand sT9,dprog sT9,⟨th,rfl⟩,pdeep,_,rfl,Xc (nxt ?_)⟩⟩;refine⟨_,rfl,_,rfl,.inl ⟨na,S.ns,rfl,.of (LZ.same sT).en,by omega,λl ss' fl pms sox=>⟨l,_,rfl,.inl ⟨.of J1,λtt ftt=>⟨_,rfl,by show 2<=sizeLine;decide,λp9 f9=>?_⟩⟩⟩⟩⟩;obtain⟨sX,dX⟩:=names sT9 l ss' fl pms sox tt ftt p9 f9;exact .inr ⟨_,dfound (sT9.trans sX),dX,⟨pf,rfl⟩,ue _ _,q _⟩
def E8(B:Bl mg)(ZW:ExcC K mg "CannotBe" xJ)(iI:NmC mg "TooMany" YV)(iJ:NmC mg "DrawError" Zf)(xm1:PySem.W.exmOne K (.ref xJ) (.ref xJ)=some true)(xn:PySem.W.exmOne K (.ref xJ) (.ref YV)=some false)(iK:ExcIs K xJ)(kt1:PySem.W.kitOne K (.ref xJ) (.ref Zf)=some true)(CF_Gathering:CFn K mg "Gathering" uk "__init__" "Gathering.__init__" bR ["self", "most"])(xG:Cls K JO)(ul:NoAttr K JO "most")(a9:NoAttr K JO "shares")(Zi:NoAttr K JO "names")(E9:IFn K mg "StateList" JO "StateList.__init__" bS ["self", "names", "most"])(Ea:MFn K JO "place_for" "StateList.place_for" bT ["self", "name"])(Eb:MFn K JO "valued" "StateList.valued" bU ["self", "es"])(z9q:MFn K JO "add_states" "StateList.add_states" pF ["self", "others"])(Ec:MFn K JO "add" "Gathering.add" ci ["self", "numbers", "share"])(JC:Cls K xN)(Ed:NoAttr K xN "parts")(dI:NoAttr K xN "most")(Ee:NoAttr K xN "results")(Ef:IFn K mg "Walk" xN "Walk.__init__" bV ["self", "parts", "most"])(Eg:MFn K xN "walk_draw" "Walk.walk_draw" bW ["self", "row", "ahead"])(Eh:MFn K xN "walk_let" "Walk.walk_let" bX ["self", "row", "ahead"])(Ei:MFn K xN "walk_seen" "Walk.walk_seen" bY ["self", "row", "ahead"])(Ej:MFn K xN "walk_if" "Walk.walk_if" bZ ["self", "row", "ahead"])(Ek:MFn K xN "walk_rounds" "Walk.walk_rounds" c9 ["self", "row", "ahead"])(El:MFn K xN "walk_call" "Walk.walk_call" cb ["self", "row", "ahead"])(y4d:MFn K xN "results_of" "Walk.results_of" pG ["self", "name", "arguments"])(Em:MFn K xN "walk_row" "Walk.walk_row" cf ["self", "row", "ahead"])(En:MFn K xN "walk_rows" "Walk.walk_rows" cg ["self", "rows", "ahead"])(Eo:Fn K mg "divisor" bc ["one", "other"])(Ep:Fn K mg "is_whole" bf ["thing"])(Er:Fn K mg "fraction" bg ["top", "bottom"])(Es:Fn K mg "plus" bj ["one", "other"])(Et:Fn K mg "times" bn ["one", "other"])(Eu:Fn K mg "over" bo ["one", "other"])(Ev:Fn K mg "total" bq ["some"])(Ew:Fn K mg "holds" br ["sign", "numbers"])(Ey:Fn K mg "reckoned" bt ["sign", "numbers"])(Ez:Fn K mg "value" Yv ["e", "book"])(EA:Fn K mg "names_in" Yw ["e"])(EB:Fn K mg "chosen" bv ["values", "places"])(EC:Fn K mg "places_of" bw ["names", "some"])(ED:Fn K mg "gathered" bx ["rows", "places"])(EE:Fn K mg "told" bz ["table", "names"])(EF:Fn K mg "replaced" bA ["some", "place", "one"])(EG:FnD K mg "states" XB ["program", "most"] (.int 500))(EH:FnD K mg "walked" XC ["program", "most"] (.int 500))(EI:Fn K mg "_law_cell_at" bB ["_law_script", "_law_k"])(EJ:Fn K mg "_law_mixed" bC ["_law_cell", "_law_k"])(EK:Fn K mg "_law_common" bD ["_law_one", "_law_other"])(EL:Fn K mg "_law_low" bE ["_law_top", "_law_bottom"])(EM:Fn K mg "_law_name" bF ["_law_cell", "_law_k"])(EN:Fn K mg "_law_leaf" bG ["_law_cell", "_law_names"])(EO:Fn K mg "_law_expression" bH ["_law_cell", "_law_names"])(EQ:Fn K mg "_law_by_two" bJ ["_law_sign", "_law_here", "_law_there"])(ER:Fn K mg "_law_worth" Yx ["_law_e", "_law_book"])(ES:Fn K mg "_law_outcomes" bK ["_law_cell", "_law_many", "_law_far"])(ET:Fn K mg "_law_add" bL ["_law_now", "_law_book", "_law_part"])(EU:Fn K mg "_law_behind" bM ["_law_row_here", "_law_now"])(EV:Fn K mg "_law_row" bN ["_law_cell", "_law_names", "_law_pool", "_law_now"])(EW:Fn K mg "_law_told" bO ["_law_now", "_law_asked"])(EX:Fn K mg "_law_cannot" bP ["_law_program"])(EY:Fn K mg "_law_copied" bQ ["_law_program"])(F:Fun K "law" "law" X4 f fd):FnOk P w K mg base CX0 60 f fd ["_law_script"] (a8 K):=by
 have ZL:=BC (P:=P) (w:=w) (base:=base) B Eo;have cB:=BD (P:=P) (w:=w) (base:=base) B Ep;have QG:=BE B Er cB ZL;have Xi:=BF B Es ZL QG;have gR:=BG B Et QG;have ig:=CY B Eu QG;have ie:=CZ B Ev QG Xi;have ZM:=BI (P:=P) (w:=w) (base:=base) B EB;have ZR:=BL B ZM Xi ED;have Xk:=BM (P:=P) (w:=w) (base:=base) B EC;have gI:=BR (P:=P) (w:=w) (base:=base) B Ew;have ZN:=BS B Ey gI;have YJ:=rD B Ez ZN 10;have YI:=rA (P:=P) (w:=w) (base:=base) B EA 10;have XQ:=C0 (P:=P) (w:=w) (base:=base) B EF;have DC_Gathering:=BX (P:=P) (w:=w) (base:=base) (CS:=JO) B xG ul a9 CF_Gathering;have QP:=E9.new (P:=P) (w:=w) (base:=base) λf fd F=>BY B xG Zi DC_Gathering F;have dJ:=BW B xG ul a9 Xi Ec;have um:=C5 (P:=P) (w:=w) (base:=base) (mg:=mg) B xG Zi Ea;have uo:=Ca B xG a9 Zi YI Xk ZM YJ Eb;have gW:=Ef.new (P:=P) (w:=w) (base:=base) λf fd F=>Cz B JC Ed dI Ee F;have EZ:=Ch B xG JC a9 Zi dI QP um dJ XQ gR Eg;have F0:=Ci B xG JC Zi dI QP um dJ uo XQ Eh;have F1:=Ck B xG JC Zi dI QP dJ uo Ei;have F2:=Cn (j:=30) (d:=5) 'd' B JC EZ F0 F1 (Cv (P:=P) (w:=w) (base:=base) (mg:=mg) Ej) (Cw (P:=P) (w:=w) (base:=base) (mg:=mg) Ek) (Cu (P:=P) (w:=w) (base:=base) (mg:=mg) El) Em;have F3:=Cl B JC F2 En;have cW:=CC B xG JC a9 Zi QP gW dJ F3 Xk ZR EG;have ii:=D4 B ZW Xk ZR ie ig EE;have uq:=D6 B cW.1 ii EH;have Zh:=D8 (P:=P) (w:=w) (base:=base) B EI;have Qh:=D7 (P:=P) (w:=w) (base:=base) B EJ;have ij:=D9 (P:=P) (w:=w) (base:=base) B EK;have Xp:=Db B ij EL;have iY:=Dg (P:=P) (w:=w) (base:=base) B EM;have YT:=Dj (P:=P) (w:=w) (base:=base) B EN;have iH:=Dm B Qh YT EO;have ZY:=Dq (P:=P) (w:=w) (base:=base) B EQ;have ZZ:=t6 B ER ZY 10;have Y1:=Dp B Qh Xp ES;have Xs:=Dt B Xp ET;have XU:=Dz B Xs ZZ EU;have iZ:=DB B Qh iH Y1 XU EV;have lh:=DO B Xp Xs EW;have li:=DC B iI ⟨ZW.mg⟩ iJ xn xm1 iK kt1 uq.2 EX;have lj:=DE (P:=P) (w:=w) (base:=base) B EY;exact E6 B Zh iY Y1 XU iZ lh li lj cW.2 uq.2 F
end
def us0{p:xm->Prop}(h:p [])(us:xm)(hl:us.length=0):p us:=match us,hl with | [],_=>h
def us1{p:xm->Prop}(h:∀a0,p [a0])(us:xm)(hl:us.length=1):p us:=match us,hl with|a0::t,hl=>us0 (p:=λt=>p (a0::t)) (h a0) t (Nat.succ.inj hl)
def us2{p:xm->Prop}(h:∀a0 a1,p [a0,a1])(us:xm)(hl:us.length=2):p us:=match us,hl with|a0::t,hl=>us1 (p:=λt=>p (a0::t)) (h a0) t (Nat.succ.inj hl)
def us3{p:xm->Prop}(h:∀a0 a1 a2,p [a0,a1,a2])(us:xm)(hl:us.length=3):p us:=match us,hl with|a0::t,hl=>us2 (p:=λt=>p (a0::t)) (h a0) t (Nat.succ.inj hl)
def us4{p:xm->Prop}(h:∀a0 a1 a2 a3,p [a0,a1,a2,a3])(us:xm)(hl:us.length=4):p us:=match us,hl with|a0::t,hl=>us3 (p:=λt=>p (a0::t)) (h a0) t (Nat.succ.inj hl)
def FnIn(K:xh)(x:Str)(st:Stmt):Prop:=∃f fd,PySem.W.nsIn K mainGlobals x=some (some (.ref f))/\Fun K x x st f fd
def F4{K:xh}{x:Str}{st:Stmt}{f:xS}{oc:xQ}{od an:Option xS}{osl:Array (xj)}{kV xI pm xu ct:xQ}(a:PySem.W.nsIn K mainGlobals x=some (some (.ref f)))(l:K.lookup f=some ⟨oc,od,.func (PySem.W.fnOf x x (defArgs st) (defBody st) (defScope st) .none kV xI pm an xu ct),osl⟩)(c:PySem.W.codeIn K xu x=true)(k:PySem.W.keepIn K (.ref f)=true):FnIn K x st:=⟨f,_,a,av l c k⟩
def FnIn.fn(H:FnIn K x st)(X:K.In h)(G:h.Ns mainGlobals mg)(hb:∀(kV xI pm:xQ) (an:Option xS) (xu ct:xQ) (us:xm),us.length=ps.length->bindArgs (PySem.W.fnOf x x (defArgs st) (defBody st) (defScope st) .none kV xI pm an xu ct) ⟨us,[]⟩=pure (ps.zip us)):Fn K mg x st ps:=by
 obtain⟨f,fd,a,F⟩:=H;exact⟨f,fd,F,F.binds hb,PySem.W.mg_of X G a⟩
def CtIn(K:xh)(C:xS)(m q:Str)(st:Stmt):Prop:=∃f fd,ClsM K C m f/\Fun K m q st f fd
def F5{K:xh}{C:xS}{m q:Str}{st:Stmt}{f:xS}{oc:xQ}{od an:Option xS}{osl:Array (xj)}{kV xI pm xu ct:xQ}(sg:PySem.W.specialIn K (.ref C) "__getattribute__" = some (some (.builtin "type.__getattribute__")))(rd:PySem.W.readsIn K C (.type "type")=true)(fc:PySem.W.findCls K (.ref C) (.type "type") m=some (.val (.ref f)))(l:K.lookup f=some ⟨oc,od,.func (PySem.W.fnOf m q (defArgs st) (defBody st) (defScope st) .none kV xI pm an xu ct),osl⟩)(c:PySem.W.codeIn K xu q=true)(k:PySem.W.keepIn K (.ref f)=true):CtIn K C m q st:=⟨f,_,⟨sg,rd,fc,k⟩,av l c k⟩
def CtIn.cfn(H:CtIn K C m q st)(nm:mg x=some (.ref C))(hb:∀(kV xI pm:xQ) (an:Option xS) (xu ct:xQ) (us:xm),us.length=ps.length->bindArgs (PySem.W.fnOf m q (defArgs st) (defBody st) (defScope st) .none kV xI pm an xu ct) ⟨us,[]⟩=pure (ps.zip us)):CFn K mg x C m q st ps:=by
 obtain⟨f,fd,M,F⟩:=H;exact⟨nm,f,fd,F,M,F.binds hb⟩
def MtIn(K:xh)(C:xS)(m q:Str)(st:Stmt):Prop:=∃f fd,PySem.W.findIn K (.ref C) m=some (some (.ref f))/\PySem.W.isFn K (.ref f)=true/\Fun K m q st f fd
def F6{K:xh}{C:xS}{m q:Str}{st:Stmt}{f:xS}{oc:xQ}{od an:Option xS}{osl:Array (xj)}{kV xI pm xu ct:xQ}(a:PySem.W.findIn K (.ref C) m=some (some (.ref f)))(i:PySem.W.isFn K (.ref f)=true)(l:K.lookup f=some ⟨oc,od,.func (PySem.W.fnOf m q (defArgs st) (defBody st) (defScope st) .none kV xI pm an xu ct),osl⟩)(c:PySem.W.codeIn K xu q=true)(k:PySem.W.keepIn K (.ref f)=true):MtIn K C m q st:=⟨f,_,a,i,av l c k⟩
def MtIn.mfn(H:MtIn K C m q st)(hb:∀(kV xI pm:xQ) (an:Option xS) (xu ct:xQ) (us:xm),us.length=ps.length->bindArgs (PySem.W.fnOf m q (defArgs st) (defBody st) (defScope st) .none kV xI pm an xu ct) ⟨us,[]⟩=pure (ps.zip us)):MFn K C m q st ps:=by
 obtain⟨f,fd,a,i,F⟩:=H;exact⟨f,fd,F,⟨a,i,F.kp⟩,F.binds hb⟩
def MtIn.ifn(H:MtIn K C "__init__" q st)(nm:mg x=some (.ref C))(mk:PySem.W.makesIn K C=true)(kc:PySem.W.keepIn K (.ref C)=true)(hb:∀(kV xI pm:xQ) (an:Option xS) (xu ct:xQ) (us:xm),us.length=ps.length->bindArgs (PySem.W.fnOf "__init__" q (defArgs st) (defBody st) (defScope st) .none kV xI pm an xu ct) ⟨us,[]⟩=pure (ps.zip us)):IFn K mg x C q st ps:=by
 obtain⟨f,fd,a,i,F⟩:=H;exact⟨nm,f,fd,F,⟨mk,a,i,kc⟩,F.binds hb⟩
def F7{l:PySem.W.OpenLaw}{mg:xf}(X:K.In h)(G:h.Ns mainGlobals mg)(hfa:mg "law" = some (.ref fa))
 {od16 an16 od17 an17 od34 an34:Option xS}{sl16 sl17 sl34:Array (xj)}
 (H0:FnIn K "divisor" bc)
 (H1:FnIn K "is_whole" bf)
 (H2:FnIn K "fraction" bg)
 (H3:FnIn K "plus" bj)
 (H4:FnIn K "times" bn)
 (H5:FnIn K "over" bo)
 (H6:FnIn K "total" bq)
 (H7:FnIn K "holds" br)
 (H8:FnIn K "reckoned" bt)
 (H9:FnIn K "value" Yv)
 (H10:FnIn K "names_in" Yw)
 (H11:FnIn K "chosen" bv)
 (H12:FnIn K "places_of" bw)
 (H13:FnIn K "gathered" bx)
 (H14:FnIn K "told" bz)
 (H15:FnIn K "replaced" bA) {fTd16:Option xS}{fTn16:Nat}{fTs16:Array (xj)}{fTk16:Tok} (lt16:K.lookup fT16=some ⟨fTo16,fTd16,.seq #[.int 500 fTk16] fTn16,fTs16⟩)
 (a16:PySem.W.nsIn K mainGlobals "states" = some (some (.ref f16))) (l16:K.lookup f16=some ⟨oc16,od16,.func (PySem.W.fnOf "states" "states" (defArgs XB) (defBody XB) (defScope XB) (.ref fT16) kV16 dc16 pm16 an16 cd16 ct16),sl16⟩) (c16:PySem.W.codeIn K cd16 "states" = true) (k16:PySem.W.keepIn K (.ref f16)=true) {fTd17:Option xS}{fTn17:Nat}{fTs17:Array (xj)}{fTk17:Tok} (lt17:K.lookup fT17=some ⟨fTo17,fTd17,.seq #[.int 500 fTk17] fTn17,fTs17⟩)
 (a17:PySem.W.nsIn K mainGlobals "walked" = some (some (.ref f17))) (l17:K.lookup f17=some ⟨oc17,od17,.func (PySem.W.fnOf "walked" "walked" (defArgs XC) (defBody XC) (defScope XC) (.ref fT17) kV17 dc17 pm17 an17 cd17 ct17),sl17⟩) (c17:PySem.W.codeIn K cd17 "walked" = true) (k17:PySem.W.keepIn K (.ref f17)=true)
 (H18:FnIn K "_law_cell_at" bB)
 (H19:FnIn K "_law_mixed" bC)
 (H20:FnIn K "_law_common" bD)
 (H21:FnIn K "_law_low" bE)
 (H22:FnIn K "_law_name" bF)
 (H23:FnIn K "_law_leaf" bG)
 (H24:FnIn K "_law_expression" bH)
 (H25:FnIn K "_law_by_two" bJ)
 (H26:FnIn K "_law_worth" Yx)
 (H27:FnIn K "_law_outcomes" bK)
 (H28:FnIn K "_law_add" bL)
 (H29:FnIn K "_law_behind" bM)
 (H30:FnIn K "_law_row" bN)
 (H31:FnIn K "_law_told" bO)
 (H32:FnIn K "_law_cannot" bP)
 (H33:FnIn K "_law_copied" bQ)
 (a34:PySem.W.nsIn K mainGlobals "law" = some (some (.ref f34))) (l34:K.lookup f34=some ⟨oc34,od34,.func (PySem.W.fnOf "law" "law" (defArgs X4) (defBody X4) (defScope X4) .none kV34 dc34 pm34 an34 cd34 ct34),sl34⟩) (c34:PySem.W.codeIn K cd34 "law" = true) (k34:PySem.W.keepIn K (.ref f34)=true)
 (ac_CannotBe:PySem.W.nsIn K mainGlobals "CannotBe" = some (some (.ref xJ))) (qc_CannotBe:PySem.W.excIn K xJ vErr "ValueError.__new__" = true)
 (ac_TooMany:PySem.W.nsIn K mainGlobals "TooMany" = some (some (.ref YV)))
 (ac_DrawError:PySem.W.nsIn K mainGlobals "DrawError" = some (some (.ref Zf)))
 (ei0_CannotBe:PySem.W.hasDictIn K xJ=true)
 (ei1_CannotBe:PySem.W.findIn K (.ref xJ) "__getattribute__" = some (some (.builtin "BaseException.__getattribute__")))
 (ei2_CannotBe:PySem.W.findIn K (.ref xJ) "__getattr__" = some none)
 (ei3_CannotBe:PySem.W.findIn K (.ref xJ) "__class__" = some (some (.builtin "object.__class__")))
 (ei4_CannotBe:PySem.W.mroIn K xJ (.type "object")=some true)
 (ei5_CannotBe:PySem.W.mroIn K xJ (.type "BaseException")=some true)
 (uKaa:PySem.W.kitOne K (.ref xJ) (.ref Zf)=some true)
 (uKab:PySem.W.exmOne K (.ref xJ) (.ref xJ)=some true)
 (uKac:PySem.W.exmOne K (.ref xJ) (.ref YV)=some false)
 (Q_j0:CtIn K uk "__init__" "Gathering.__init__" bR)
 (Q_j1:MtIn K JO "__init__" "StateList.__init__" bS)
 (Q_j2:MtIn K JO "place_for" "StateList.place_for" bT)
 (Q_j3:MtIn K JO "valued" "StateList.valued" bU)
 (Q_j4:MtIn K JO "add_states" "StateList.add_states" pF)
 (Q_j5:MtIn K xN "__init__" "Walk.__init__" bV)
 (Q_j6:MtIn K xN "walk_draw" "Walk.walk_draw" bW)
 (Q_j7:MtIn K xN "walk_let" "Walk.walk_let" bX)
 (Q_j8:MtIn K xN "walk_seen" "Walk.walk_seen" bY)
 (Q_j9:MtIn K xN "walk_if" "Walk.walk_if" bZ)
 (Q_j10:MtIn K xN "walk_rounds" "Walk.walk_rounds" c9)
 (Q_j11:MtIn K xN "walk_call" "Walk.walk_call" cb)
 (Q_j12:MtIn K xN "results_of" "Walk.results_of" pG)
 (Q_j13:MtIn K xN "walk_row" "Walk.walk_row" cf)
 (Q_j14:MtIn K xN "walk_rows" "Walk.walk_rows" cg)
 (Q_j15:MtIn K JO "add" "Gathering.add" ci)
 (oa_Gathering:PySem.W.nsIn K mainGlobals "Gathering" = some (some (.ref uk)))
 (oa_StateList:PySem.W.nsIn K mainGlobals "StateList" = some (some (.ref JO))) (pg_StateList:PySem.W.plainGet K JO Str.empty=true) (hd_StateList:PySem.W.hasDictIn K JO=true) (po_StateList:PySem.W.plainOver K JO=true) (os_StateList:PySem.W.findIn K (.ref JO) "__setattr__" = some (some (.builtin "object.__setattr__"))) (mk_StateList:PySem.W.makesIn K JO=true) (kc_StateList:PySem.W.keepIn K (.ref JO)=true)
 (of_j1_most:PySem.W.findIn K (.ref JO) "most" = some none)
 (of_j1_shares:PySem.W.findIn K (.ref JO) "shares" = some none)
 (of_j1_names:PySem.W.findIn K (.ref JO) "names" = some none)
 (oa_Walk:PySem.W.nsIn K mainGlobals "Walk" = some (some (.ref xN))) (pg_Walk:PySem.W.plainGet K xN Str.empty=true) (hd_Walk:PySem.W.hasDictIn K xN=true) (po_Walk:PySem.W.plainOver K xN=true) (os_Walk:PySem.W.findIn K (.ref xN) "__setattr__" = some (some (.builtin "object.__setattr__"))) (mk_Walk:PySem.W.makesIn K xN=true) (kc_Walk:PySem.W.keepIn K (.ref xN)=true)
 (of_j2_parts:PySem.W.findIn K (.ref xN) "parts" = some none)
 (of_j2_most:PySem.W.findIn K (.ref xN) "most" = some none)
 (of_j2_results:PySem.W.findIn K (.ref xN) "results" = some none)
 (z_abs:PySem.W.nsIn K mainGlobals "abs" = some none)
 (z_bool:PySem.W.nsIn K mainGlobals "bool" = some none)
 (z_dict:PySem.W.nsIn K mainGlobals "dict" = some none)
 (z_int:PySem.W.nsIn K mainGlobals "int" = some none)
 (z_isinstance:PySem.W.nsIn K mainGlobals "isinstance" = some none)
 (z_len:PySem.W.nsIn K mainGlobals "len" = some none)
 (z_list:PySem.W.nsIn K mainGlobals "list" = some none)
 (z_range:PySem.W.nsIn K mainGlobals "range" = some none)
 (z_reversed:PySem.W.nsIn K mainGlobals "reversed" = some none)
 (z_sorted:PySem.W.nsIn K mainGlobals "sorted" = some none)
 (z_str:PySem.W.nsIn K mainGlobals "str" = some none)
 (z_sum:PySem.W.nsIn K mainGlobals "sum" = some none)
 (z_tuple:PySem.W.nsIn K mainGlobals "tuple" = some none)
 (z_zip:PySem.W.nsIn K mainGlobals "zip" = some none)
 : ∃fd:FuncData,(∀(s:xR) (v:xQ),BindsTo s fd ⟨[v],[]⟩ [("_law_script",v)])/\∀base:Heap,K.In base->base.Ns mainGlobals mg->FnOk l.prog w K mg base CX0 60 fa fd ["_law_script"] (a8 K):=by
 have e:=hfa.symm.trans (PySem.W.mg_of X G a34)
 cases e
 have B:Bl mg:=⟨PySem.W.mg_none_of X G z_abs,PySem.W.mg_none_of X G z_bool,PySem.W.mg_none_of X G z_dict,PySem.W.mg_none_of X G z_int,PySem.W.mg_none_of X G z_isinstance,PySem.W.mg_none_of X G z_len,PySem.W.mg_none_of X G z_list,PySem.W.mg_none_of X G z_range,PySem.W.mg_none_of X G z_reversed,PySem.W.mg_none_of X G z_sorted,PySem.W.mg_none_of X G z_str,PySem.W.mg_none_of X G z_sum,PySem.W.mg_none_of X G z_tuple,PySem.W.mg_none_of X G z_zip⟩;have F16:FunD K "states" "states" XB f16 _ (.int 500 fTk16):=⟨_,_,_,_,_,_,_,_,_,_,_,_,_,_,rfl,l16,c16,lt16⟩;have bM16:=F16.binds (ps:=["program", "most"]) (ds:=[]) λ_ _ _ _ _ _ _ us hl=>match us,hl with | [_,_],_=>⟨_,rfl,rfl⟩
 have bD16:=F16.binds (ps:=["program", "most"]) (ds:=[.int 500 fTk16]) λ_ _ _ _ _ _ _ us hl=>(show us.length=1->_ from λh=>match us,h with | [_],_=>⟨_,rfl,rfl⟩) (by simpa using hl);have N16:FnD K mg "states" XB ["program", "most"] (.int 500):=⟨_,_,_,F16,bM16,bD16,⟨_,rfl⟩,k16,PySem.W.mg_of X G a16⟩;have F17:FunD K "walked" "walked" XC f17 _ (.int 500 fTk17):=⟨_,_,_,_,_,_,_,_,_,_,_,_,_,_,rfl,l17,c17,lt17⟩;have bM17:=F17.binds (ps:=["program", "most"]) (ds:=[]) λ_ _ _ _ _ _ _ us hl=>match us,hl with | [_,_],_=>⟨_,rfl,rfl⟩
 have bD17:=F17.binds (ps:=["program", "most"]) (ds:=[.int 500 fTk17]) λ_ _ _ _ _ _ _ us hl=>(show us.length=1->_ from λh=>match us,h with | [_],_=>⟨_,rfl,rfl⟩) (by simpa using hl);have N17:FnD K mg "walked" XC ["program", "most"] (.int 500):=⟨_,_,_,F17,bM17,bD17,⟨_,rfl⟩,k17,PySem.W.mg_of X G a17⟩;have F34:=av (st:=X4) l34 c34 k34;refine⟨PySem.W.fnOf "law" "law" (defArgs X4) (defBody X4) (defScope X4) .none kV34 dc34 pm34 an34 cd34 ct34,λs v => .of_eq rfl,λbase _ _=>?_⟩;exact E8 (P:=l.prog) (w:=w) (base:=base) B ⟨PySem.W.mg_of X G ac_CannotBe,qc_CannotBe⟩ ⟨PySem.W.mg_of X G ac_TooMany⟩ ⟨PySem.W.mg_of X G ac_DrawError⟩ uKab uKac ⟨ei0_CannotBe,ei1_CannotBe,ei2_CannotBe,ei3_CannotBe,ei4_CannotBe,ei5_CannotBe⟩ uKaa (Q_j0.cfn (PySem.W.mg_of X G oa_Gathering) (λ_ _ _ _ _ _=>us2 λ_ _=>rfl)) ⟨pg_StateList,hd_StateList,po_StateList,os_StateList⟩ of_j1_most of_j1_shares of_j1_names (Q_j1.ifn (PySem.W.mg_of X G oa_StateList) mk_StateList kc_StateList (λ_ _ _ _ _ _=>us3 λ_ _ _=>rfl)) (Q_j2.mfn (λ_ _ _ _ _ _=>us2 λ_ _=>rfl)) (Q_j3.mfn (λ_ _ _ _ _ _=>us2 λ_ _=>rfl)) (Q_j4.mfn (λ_ _ _ _ _ _=>us2 λ_ _=>rfl)) (Q_j15.mfn (λ_ _ _ _ _ _=>us3 λ_ _ _=>rfl)) ⟨pg_Walk,hd_Walk,po_Walk,os_Walk⟩ of_j2_parts of_j2_most of_j2_results (Q_j5.ifn (PySem.W.mg_of X G oa_Walk) mk_Walk kc_Walk (λ_ _ _ _ _ _=>us3 λ_ _ _=>rfl)) (Q_j6.mfn (λ_ _ _ _ _ _=>us3 λ_ _ _=>rfl)) (Q_j7.mfn (λ_ _ _ _ _ _=>us3 λ_ _ _=>rfl)) (Q_j8.mfn (λ_ _ _ _ _ _=>us3 λ_ _ _=>rfl)) (Q_j9.mfn (λ_ _ _ _ _ _=>us3 λ_ _ _=>rfl)) (Q_j10.mfn (λ_ _ _ _ _ _=>us3 λ_ _ _=>rfl)) (Q_j11.mfn (λ_ _ _ _ _ _=>us3 λ_ _ _=>rfl)) (Q_j12.mfn (λ_ _ _ _ _ _=>us3 λ_ _ _=>rfl)) (Q_j13.mfn (λ_ _ _ _ _ _=>us3 λ_ _ _=>rfl)) (Q_j14.mfn (λ_ _ _ _ _ _=>us3 λ_ _ _=>rfl)) (H0.fn X G (λ_ _ _ _ _ _=>us2 λ_ _=>rfl)) (H1.fn X G (λ_ _ _ _ _ _=>us1 λ_=>rfl)) (H2.fn X G (λ_ _ _ _ _ _=>us2 λ_ _=>rfl)) (H3.fn X G (λ_ _ _ _ _ _=>us2 λ_ _=>rfl)) (H4.fn X G (λ_ _ _ _ _ _=>us2 λ_ _=>rfl)) (H5.fn X G (λ_ _ _ _ _ _=>us2 λ_ _=>rfl)) (H6.fn X G (λ_ _ _ _ _ _=>us1 λ_=>rfl)) (H7.fn X G (λ_ _ _ _ _ _=>us2 λ_ _=>rfl)) (H8.fn X G (λ_ _ _ _ _ _=>us2 λ_ _=>rfl)) (H9.fn X G (λ_ _ _ _ _ _=>us2 λ_ _=>rfl)) (H10.fn X G (λ_ _ _ _ _ _=>us1 λ_=>rfl)) (H11.fn X G (λ_ _ _ _ _ _=>us2 λ_ _=>rfl)) (H12.fn X G (λ_ _ _ _ _ _=>us2 λ_ _=>rfl)) (H13.fn X G (λ_ _ _ _ _ _=>us2 λ_ _=>rfl)) (H14.fn X G (λ_ _ _ _ _ _=>us2 λ_ _=>rfl)) (H15.fn X G (λ_ _ _ _ _ _=>us3 λ_ _ _=>rfl)) N16 N17 (H18.fn X G (λ_ _ _ _ _ _=>us2 λ_ _=>rfl)) (H19.fn X G (λ_ _ _ _ _ _=>us2 λ_ _=>rfl)) (H20.fn X G (λ_ _ _ _ _ _=>us2 λ_ _=>rfl)) (H21.fn X G (λ_ _ _ _ _ _=>us2 λ_ _=>rfl)) (H22.fn X G (λ_ _ _ _ _ _=>us2 λ_ _=>rfl)) (H23.fn X G (λ_ _ _ _ _ _=>us2 λ_ _=>rfl)) (H24.fn X G (λ_ _ _ _ _ _=>us2 λ_ _=>rfl)) (H25.fn X G (λ_ _ _ _ _ _=>us3 λ_ _ _=>rfl)) (H26.fn X G (λ_ _ _ _ _ _=>us2 λ_ _=>rfl)) (H27.fn X G (λ_ _ _ _ _ _=>us3 λ_ _ _=>rfl)) (H28.fn X G (λ_ _ _ _ _ _=>us3 λ_ _ _=>rfl)) (H29.fn X G (λ_ _ _ _ _ _=>us2 λ_ _=>rfl)) (H30.fn X G (λ_ _ _ _ _ _=>us4 λ_ _ _ _=>rfl)) (H31.fn X G (λ_ _ _ _ _ _=>us2 λ_ _=>rfl)) (H32.fn X G (λ_ _ _ _ _ _=>us1 λ_=>rfl)) (H33.fn X G (λ_ _ _ _ _ _=>us1 λ_=>rfl)) F34
def walk{l:PySem.W.OpenLaw}{loose:xp}{XP:(xf)->Heap->Prop}{YP:xU->Heap->Prop}{d:DefRec}{K:Params->xh}(hn:l.most=some 63)(hdf:d.params.defaults=[])
 (hY:∀(w:xU) (h:Heap),YP w h->(K w.params).In h)
 (F:∀(w:xU) (mg:xf) (fa:xS) (h:Heap),(K w.params).In h->h.Ns mainGlobals mg->mg d.name=some (.ref fa) ->
  ∃fd:FuncData,(∀(s:xR) (u:xQ),BindsTo s fd ⟨[u],[]⟩ [("_law_script",u)])/\∀base:Heap,(K w.params).In base->base.Ns mainGlobals mg->FnOk l.prog w (K w.params) mg base CX0 60 fa fd ["_law_script"] (a8 (K w.params))) :
 PySem.W.WalkO q loose XP YP l.row.toRowW d [] (λf vs=>PySem.call f vs) :=
 L2.wq (n:=63) (k:=60) (x := "_law_script") (CX:=λ_=>CX0) (sp:=λw=>a8 (K w.params)) hn 'd' hdf ⟨rfl,by decide,by decide⟩ hY F (λ_ _ a ns hl _ hS=>⟨a,ns,rfl,hS,hl,λ_=>rfl⟩) λ_ _ _ _ _ z=>z
end Fd
open PySem PySem.W PyProof.Rows
local macro_rules | `(tactic| o_head $H:term) => `(tactic| (refine holds_open (q := FdE.viewQ) (loose := ["states", "walked"]) (Xt := fun s => xlAt FdE.viewQ [] s && recOk (RowW.records (OpenRow.toRowW (OpenLaw.row PySem.Challenge.rw_fairdraw_k51_rows_walked))) s) (XP := XL FdE.viewQ []) (Yf := Hook.obs $H) (Ya := Hook.val $H) (YP := Hook.says $H) (N := 6378) ?_ (Hook.of $H) (Hook.keeps $H) (fun s e => xl_of s (Bool.and_eq_true_iff.mp e).1) XL.keeps (by rfl) (by rfl) (by rfl) (fun s e => recFacts_of (Bool.and_eq_true_iff.mp e).2) (by rfl) (by first | assumption | decide +kernel) (by decide +kernel) ⟨rfl, rfl, rfl, rfl, rfl, by decide +kernel⟩ ?_ ?_))
set_option maxRecDepth 100000 in
set_option maxHeartbeats 0 in
theorem PySem.Challenge.cw_fairdraw_k51_rows_walked_holds : PySem.Challenge.rw_fairdraw_k51_rows_walked.Holds := by
 w_on;refine holds_law (by as_aux_lemma=>(rw[PySem.W.Fast.te9446332074065402090];kernel_rfl)) λsaid=>?_;o_head (kHook FdE.pre.heap_1 ((FdE.pre.heap_1 FdE.P0).map (·.1)) (λ_=>by kernel_rfl))
 . exact FdE.left
 . w_witness2
 k_fill
 refine Fd.walk (l:=PySem.Challenge.rw_fairdraw_k51_rows_walked) rfl rfl (λw h Y=>PySem.W.kIn_of Y) ?F
 case F =>
  intro w mg fa h KX G hmg
  refine' Fd.F7 KX G hmg ?H0 ?H1 ?H2 ?H3 ?H4 ?H5 ?H6 ?H7 ?H8 ?H9 ?H10 ?H11 ?H12 ?H13 ?H14 ?H15 ?lt16 ?a16 ?l16 ?c16 ?k16 ?lt17 ?a17 ?l17 ?c17 ?k17 ?H18 ?H19 ?H20 ?H21 ?H22 ?H23 ?H24 ?H25 ?H26 ?H27 ?H28 ?H29 ?H30 ?H31 ?H32 ?H33 ?a34 ?l34 ?c34 ?k34    ?ac_CannotBe ?qc_CannotBe ?ac_TooMany ?ac_DrawError ?ei0_CannotBe ?ei1_CannotBe ?ei2_CannotBe ?ei3_CannotBe ?ei4_CannotBe ?ei5_CannotBe ?uKaa ?uKab ?uKac  ?Q_j0 ?Q_j1 ?Q_j2 ?Q_j3 ?Q_j4 ?Q_j5 ?Q_j6 ?Q_j7 ?Q_j8 ?Q_j9 ?Q_j10 ?Q_j11 ?Q_j12 ?Q_j13 ?Q_j14 ?Q_j15 ?oa_Gathering ?oa_StateList ?pg_StateList ?hd_StateList ?po_StateList ?os_StateList ?mk_StateList ?kc_StateList ?of_j1_most ?of_j1_shares ?of_j1_names ?oa_Walk ?pg_Walk ?hd_Walk ?po_Walk ?os_Walk ?mk_Walk ?kc_Walk ?of_j2_parts ?of_j2_most ?of_j2_results ?z_abs ?z_bool ?z_dict ?z_int ?z_isinstance ?z_len ?z_list ?z_range ?z_reversed ?z_sorted ?z_str ?z_sum ?z_tuple ?z_zip
  (case H0|H1|H2|H3|H4|H5|H6|H7|H8|H9|H10|H11|H12|H13|H14|H15|H18|H19|H20|H21|H22|H23|H24|H25|H26|H27|H28|H29|H30|H31|H32|H33=>refine' Fd.F4 ?a ?l ?c ?k;(case a=>k_is);(case l=>k_is);(case c=>k_is);(case k=>k_is))
  (case a16=>k_is);(case l16=>k_is);(case c16=>k_is);(case k16=>k_is);(case lt16=>k_is)
  (case a17=>k_is);(case l17=>k_is);(case c17=>k_is);(case k17=>k_is);(case lt17=>k_is)
  (case a34=>k_is);(case l34=>k_is);(case c34=>k_is);(case k34=>k_is)
  (case ac_CannotBe=>k_is);(case qc_CannotBe=>k_exc)
  (case ac_TooMany=>k_is)
  (case ac_DrawError=>k_is)
  (case ei0_CannotBe=>k_is);(case ei1_CannotBe=>k_is);(case ei2_CannotBe=>k_is);(case ei3_CannotBe=>k_is);(case ei4_CannotBe=>k_is);(case ei5_CannotBe=>k_is)
  (case uKaa=>kit_is)
  (case uKab=>kts_exm)
  (case uKac=>kts_exm)
  (case oa_Gathering=>k_is)
  (case oa_StateList=>k_is)
  (case oa_Walk=>k_is)
  (case Q_j0=>refine' Fd.F5 ?sg ?rd ?fc ?l ?c ?k;(case sg|rd|fc=>k_is);(case l=>k_is);(case c=>k_is);(case k=>k_is))
  (case Q_j1|Q_j2|Q_j3|Q_j4|Q_j5|Q_j6|Q_j7|Q_j8|Q_j9|Q_j10|Q_j11|Q_j12|Q_j13|Q_j14|Q_j15=>refine' Fd.F6 ?a ?i ?l ?c ?k;(case a=>k_is);(case i=>k_is);(case l=>k_is);(case c=>k_is);(case k=>k_is))
  (case pg_StateList|hd_StateList|po_StateList|os_StateList|mk_StateList|kc_StateList|of_j1_most|of_j1_shares|of_j1_names=>k_is)
  (case pg_Walk|hd_Walk|po_Walk|os_Walk|mk_Walk|kc_Walk|of_j2_parts|of_j2_most|of_j2_results=>k_is)
  (case z_abs|z_bool|z_dict|z_int|z_isinstance|z_len|z_list|z_range|z_reversed|z_sorted|z_str|z_sum|z_tuple|z_zip=>k_is)
