import PyProof.Rows.All
import Wide.All
import OpenK.AllK
import Wide.FinOn
import Lean
import PyProof.EqAt
import PyProof.EqKinds
import PyProof.TupleCall
import PyProof.NeKinds
import KE.KSortTup
import KE.KItemsList
import KE.KDictSum
import KE.KTryMore
import KE.KRevIter
import PyProof.SetKind
import PyProof.Rows.SetFrom
import KE.KDictLaws
import PyProof.DictUpdate
import PyProof.MinMaxWalk
import PyProof.WalkInts
import KE.KDictOf
import PyProof.EnumFor
import PyProof.EnumStmt
import PyProof.EnumMake
import PyProof.Rows.EnumRows
import PyProof.Rows.FactsT2
import PyProof.P3Eq
import PyProof.DictRoadsH
import PyProof.FactsAll.NoneType
import PyProof.ZipIter
import KE.KPairComp
import PyProof.TupleOfSeq
import PySem.Challenge.RW_fairdraw_k52_choices_and_rounds
set_option maxHeartbeats 4000000
local macro_rules
|`('b')=>`(by first | exact Or.inl rfl | exact Or.inr rfl)
|`('c')=>`(⟨rfl,rfl,rfl,by decide +kernel,rfl,by decide +kernel,by decide +kernel⟩)
|`('d')=>`(by first|lia|omega)
|`('f')=>`(by decide)
|`('g')=>`(by rfl)
|`('j')=>`(by simp)
local macro_rules|`(tactic|omega)=>`(tactic|lia)
def q8:=@PySem.wpAny_bind
def qf:=@PySem.wpAny_pure
def qg:=@if_neg
def qh:=@if_pos
def qi:=@PyProof.Rows.wpS_bind
def qj:=@PyProof.Rows.wpS_pure
def qk:=@decide_eq_false
def qm:=@decide_eq_true
def qq:=@PySem.wpAny_field
def qu:=@PySem.wpAny_ite_split
def qw:=@PySem.wpAny_newObj_type
def qJ:=@PySem.wpAny_callSpecial?_slot
def qK:=@PySem.wpAny_holding
def qL:=@PySem.wpAny_call_entry
def qM:=@PySem.codeAny_builtin
def qN:=@PySem.wpAny_Call_Name_kw
def qO:=@PySem.wpAny_setField_rec
def qP:=@congrArg
def qQ:=@PySem.wpAny_mono
def qR:=@PySem.sizeLine_eq
def qS:=@PySem.wpAny_seqItems
def qU:=@PySem.plainId_quiet
def qV:=@PyProof.Rows.wpS_forRange
def qW:=@PySem.wpAny_setField
def qX:=@PySem.wpAny_setState_of
def qY:=@PyProof.Rows.wpS_mono
def qZ:=@PySem.wpAny_askSetting
def x4:=@PySem.wpAny_setEntries_of
def x5:=@of_decide_eq_true
def x6:=@PySem.wpAny_updateSeq
def x8:=@PySem.wpAny_isInstance
def x9:=@PySem.wpAny_rule
def xa:=@PySem.wpAny_typeOf
def xb:=@PySem.builtinLookup_eq_fast
def xc:=@PySem.wpAny_typeNameOfWhole_itemiter
def xf:=@PySem.wpAny_of_eq
def xg:=@PySem.wpAny_passesOwn
def xh:=@PySem.codeAny_mono
def xi:=@PySem.wpAny_attempt
def xj:=@PySem.wpAny_newTuple
def xk:=@or_false
def xm:=@if_false
def xo:=@PySem.typeLookup_type
abbrev xp:=PySem.Value->PySem.Shared->Prop
abbrev xq:=PySem.Str->Option PySem.Value
abbrev xr:=List (PySem.Addr×PySem.Obj)
abbrev xt:=PySem.W.Frag
abbrev xu:=Option PySem.Value
abbrev xw:=Array PySem.Value
abbrev xx:=List PySem.Value
abbrev xy:=List PySem.Str
abbrev xz:=List Nat
abbrev xA:=List Int
abbrev xY:=PySem.Value
abbrev xZ:=PySem.Shared
abbrev J0:=PySem.Addr
abbrev J1:=PySem.Program
abbrev J2:=PySem.World
abbrev J3:=PySem.Around
def jA:=@List.length_map
def jB:=@PySem.Heap.get?_push_of_some
def jC:=@List.getElem?_eq_getElem
def jD:=@Nat.le_refl
def jE:=@List.getD_eq_getElem?_getD
def jF:=@List.getElem?_map
def jG:=@PySem.Heap.lt_size
def jH:=@List.size_toArray
def jI:=@List.length_append
def jJ:=@List.getElem?_eq_some_iff
def jK:=@PySem.Heap.get?_push_size
def jL:=@List.mem_cons
def jM:=@List.mem_singleton
def jN:=@List.mem_append_right
def jO:=@List.mem_append
def jP:=@List.length_cons
def jQ:=@Nat.ne_of_lt
def jR:=@Bool.false_ne_true
def jS:=@List.mem_cons_of_mem
def jT:=@List.length_take
def jU:=@Array.length_toList
def jV:=@List.append_assoc
def jW:=@List.mem_map
def jX:=@Nat.zero_le
def jY:=@PySem.Heap.get?_update_other
def jZ:=@List.mem_append_left
def ja:=@PySem.Heap.get?_update_self
def jb:=@List.mem_cons_self
def jc:=@Nat.lt_of_lt_of_le
def jd:=@Array.getElem?_eq_getElem
def je:=@List.take_append_drop
def jf:=@List.map_cons
def jg:=@List.pairwise_append
def jh:=@Nat.le_trans
def ji:=@List.take_of_length_le
def jj:=@Option.map_eq_some_iff
def jk:=@List.take_length
def jl:=@List.getElem_mem
def jm:=@List.mem_of_mem_take
def jn:=@Nat.ne_of_gt
def jo:=@List.map_append
def jp:=@Int.toNat_natCast
def jq:=@List.mem_of_getElem?
def jr:=@List.length_drop
def js:=@Nat.lt_of_le_of_lt
def jt:=@List.take_succ_eq_append_getElem
def ju:=@List.append_nil
def jv:=@List.idxOf_lt_length_iff
def jw:=@List.getElem?_append_right
def jx:=@List.nodup_nil
def jy:=@Option.isSome_iff_exists
def jz:=@List.not_mem_nil
def j4:=@List.drop_eq_getElem_cons
def j5:=@List.nodup_cons
def j6:=@PySem.Heap.size_push
def j7:=@Nat.lt_irrefl
def j8:=@List.getElem?_toArray
def j9:=@List.map_congr_left
def kA:=@List.replicate_succ
def kB:=@Array.getElem?_toList
def kC:=@List.take_sublist
def kD:=@Nat.mul_le_mul_right
def kE:=@Nat.le_of_lt
def kF:=@List.drop_eq_nil_of_le
def kG:=@List.getElem_map
def kH:=@List.drop_sublist
def kI:=@Int.mul_fdiv_cancel_left
def kJ:=@List.find?_cons
def kK:=@List.map_map
def kL:=@Bool.false_eq_true
def kN:=@List.flatten_cons
def kO:=@List.drop_zero
def kP:=@Array.perm_iff_toList_perm
def kQ:=@List.nodup_append
def kR:=@List.length_range
def kS:=@Array.getElem?_eq_none
def kT:=@List.pairwise_map
def kU:=@List.length_nil
def kW:=@List.getElem?_append_left
def kX:=@Bool.and_eq_true
def kY:=@Rat.num_divInt_den
def kZ:=@List.pairwise_cons
def ke:=@Int.emod_lt_of_pos
def kf:=@List.getElem?_take_of_lt
def kh:=@List.mem_range
def ki:=@List.take_append_of_le_length
def kj:=@Nat.pow_le_pow_right
def kn:=@Nat.le_mul_of_pos_right
def ko:=@List.mem_filter
def kq:=@Nat.mul_le_mul_left
def ku:=@Int.ediv_eq_of_eq_mul_right
def k7:=@List.ext_getElem
def k9:=@List.take_succ
def qA:=@Nat.mul_le_mul
def qB:=@List.length_filter_le
def qC:=@List.mem_iff_getElem?
def qD:=@List.getElem?_eq_none
def qE:=@Nat.not_lt_zero
def qF:=@Int.emod_nonneg
def qG:=@Nat.sub_zero
def qH:=@List.foldl_append
def qI:=@List.any_cons
set_option autoImplicit true
set_option Elab.async false
set_option linter.all false
set_option maxRecDepth 100000
namespace FdE
open PySem PySem.W PySem.Calls PyProof.Rows
def ie{p q:J1}{loose:xy}{Xt:xZ->Bool}{α:Type}{Yf:xZ->α}{Ya:J2->α}{N:Nat}(e:opening p=plainProg p.main.scope.names)(hN:Nat.ble 600 N=true)(f:∀s,fenceModules? p s=some s)
 (h:∀(w:J2) (os:OsState),(topRun treeTable p w 11 (some (.ref 6)) N ⟨boot_heap w.params,Array.mk [],boot_drawn,boot_toks,os⟩ (topStub p)).map (λs =>
  ((staticsOk (importedModules p.main.body) (boot_heap w.params) s.heap && namesBound p s.heap && gensDone s && laidKept (boot_heap w.params) s.heap),openSeen q loose (importedModules p.main.body) Xt true s,Yf s))=some (true,openGood q loose,Ya w)):LeftO p q loose Xt Yf Ya N:=λw=>by
 obtain⟨⟨hp,gs,d,k,os⟩,e1,e2⟩:=jj.mp (boot_open e hN f w);simp only[Prod.mk.injEq]at e2;obtain⟨rfl,rfl,rfl,rfl⟩:=e2;have size:((boot_heap w.params).isNs mainGlobals && (Array.mk ([]:List GenState)).size == 0)=true/\(boot_heap w.params).objs.size=11/\(boot_heap w.params).nsMap mainGlobals "__annotations__" = some (.ref 6):=⟨by kernel_rfl,by kernel_rfl,by kernel_rfl⟩;obtain⟨z1,z2,z3⟩:=size;obtain⟨s,r,l⟩:=jj.mp (h w os);simp only[Prod.mk.injEq]at l;obtain⟨l1,l2,l3⟩:=l
 have t:topFrom treeTable p w N ⟨boot_heap w.params,Array.mk [],boot_drawn,boot_toks,os⟩=some s:=by
  unfold topFrom;dsimp only;rw[z1,z2,z3,r];show(match staticsOk (importedModules p.main.body) (boot_heap w.params) s.heap && namesBound p s.heap && gensDone s && laidKept (boot_heap w.params) s.heap with | true=>_ | false=>_)=_;rw[l1]
 unfold openEnds;rw[e1];show(topFrom treeTable p w N _).map _=_;rw[t];exact qP some (Prod.ext l2 l3)
abbrev ig (p q : J1) (loose : List Str) (Xt : xZ -> Bool) {α : Type} (Yf : xZ -> α) (Ya : J2 -> α) (N : Nat) (w : J2) (os : OsState) : Prop := (topRun treeTable p w 11 (some (.ref 6)) N ⟨boot_heap w.params, Array.mk [], boot_drawn, boot_toks, os⟩ (topStub p)).map (fun s =>
      ((staticsOk (importedModules p.main.body) (boot_heap w.params) s.heap && namesBound p s.heap && gensDone s && laidKept (boot_heap w.params) s.heap),openSeen q loose (importedModules p.main.body) Xt true s,Yf s))=some (true,openGood q loose,Ya w)
abbrev dg(p:J1)(N:Nat)(w:J2)(os:OsState):Prop:=(topRun treeTable p w 11 (some (.ref 6)) N ⟨boot_heap w.params,Array.mk [],boot_drawn,boot_toks,os⟩ (topStub p)).map (λs=>staticsOk (importedModules p.main.body) (boot_heap w.params) s.heap && namesBound p s.heap && gensDone s && laidKept (boot_heap w.params) s.heap)=some true
abbrev dh(p q:J1)(loose:xy)(Xt:xZ->Bool)(N:Nat)(w:J2)(os:OsState):Prop:=(topRun treeTable p w 11 (some (.ref 6)) N ⟨boot_heap w.params,Array.mk [],boot_drawn,boot_toks,os⟩ (topStub p)).map (λs=>openSeen q loose (importedModules p.main.body) Xt true s)=some (openGood q loose)
abbrev di(p:J1){α:Type}(Yf:xZ->α)(Ya:J2->α)(N:Nat)(w:J2)(os:OsState):Prop:=(topRun treeTable p w 11 (some (.ref 6)) N ⟨boot_heap w.params,Array.mk [],boot_drawn,boot_toks,os⟩ (topStub p)).map (λs=>Yf s)=some (Ya w)
def t8{p q:J1}{loose:xy}{Xt:xZ->Bool}{α:Type}{Yf:xZ->α}{Ya:J2->α}{N:Nat}{w:J2}{os:OsState}(h1:dg p N w os)(h2:dh p q loose Xt N w os)(h3:di p Yf Ya N w os):ig p q loose Xt Yf Ya N w os:=by
 unfold ig;unfold dg at h1;unfold dh at h2;unfold di at h3;obtain⟨s,r,l1⟩:=jj.mp h1;obtain⟨s2,r2,l2⟩:=jj.mp h2;obtain⟨s3,r3,l3⟩:=jj.mp h3;rw[r]at r2 r3
 cases r2;cases r3
 rw[r];show some (_,_,_)=some _;rw[l1,l2,l3]
noncomputable def dj(st:SharedT->Thread->Option (SharedT×Thread))(ok:Thread->Bool):Nat->SharedT->Thread->Option SharedT :=
 @Nat.rec (λ_=>SharedT->Thread->Option SharedT) (λ_ _=>none) (λ_ ih s t =>
  @Bool.rec (λ_=>Option SharedT) (@Bool.rec (λ_=>Option SharedT) none (@Option.rec (SharedT×Thread) (λ_=>Option SharedT) none (λr=>ih r.1 r.2) (st s t)) (ok t)) (some s) (through t))
theorem ii{tb:String->Option Builtin}{p:J1}{w:J2}{n₀:Nat}{ann:xu}:∀{n:Nat}{s s':SharedT}{t:Thread},dj (stepT (denote tb) p w) (stepOk n₀ ann) n s t=some s'->topRun tb p w n₀ ann n s.abs t=some s'.abs
 | 0,_,_,_,h=>by cases h
 | n + 1,s,s',t,h=>by
  have h:@Bool.rec (λ_=>Option SharedT) (@Bool.rec (λ_=>Option SharedT) none (@Option.rec (SharedT×Thread) (λ_=>Option SharedT) none (λr=>dj (stepT (denote tb) p w) (stepOk n₀ ann) n r.1 r.2) (stepT (denote tb) p w s t)) (stepOk n₀ ann t)) (some s) (through t)=some s':=h;unfold topRun
  cases he:through t with
  | true=>rw[he]at h;cases h;rfl
  | false =>
   rw[he]at h
   cases hk:stepOk n₀ ann t with
   | false=>rw[hk]at h;cases h
   | true =>
    rw[hk]at h
    cases hs:stepT (denote tb) p w s t with
    | none=>rw[hs]at h;cases h
    | some r=>obtain⟨s₂,t₂⟩:=r;rw[hs]at h;rw[stepT_spec hs];exact ii h
noncomputable def t9(P:Params):BT := .node (boot_o_0 P) (.node (boot_o_1 P) (.node (boot_o_3 P) (.node (boot_o_7 P) .nil .nil) .nil) (.node (boot_o_5 P) (.node (boot_o_9 P) .nil .nil) .nil)) (.node (boot_o_2 P) (.node (boot_o_4 P) (.node (boot_o_8 P) .nil .nil) .nil) (.node (boot_o_6 P) (.node (boot_o_10 P) .nil .nil) .nil))
noncomputable def ij(w:J2)(os:OsState):SharedT:=⟨t9 w.params,11,(boot_heap w.params).life,Array.mk [],boot_drawn,boot_toks,os⟩
def tf(w:J2)(os:OsState):(ij w os).abs=⟨boot_heap w.params,Array.mk [],boot_drawn,boot_toks,os⟩:=rfl
def dk{p:J1}{α:Type}{f:xZ->α}{a:α}{N:Nat}{w:J2}{os:OsState}(h:(dj (stepT (denote treeTable) p w) (stepOk 11 (some (.ref 6))) N (ij w os) (topStub p)).map (λs=>f s.abs)=some a):(topRun treeTable p w 11 (some (.ref 6)) N ⟨boot_heap w.params,Array.mk [],boot_drawn,boot_toks,os⟩ (topStub p)).map f=some a:=by
 obtain⟨s,r,l⟩:=jj.mp h;rw[<- tf,ii r];exact qP some l
end FdE
namespace FdE
open PySem
def top(i:Nat):Stmt:=PySem.Challenge.pw_fairdraw_k52_choices_and_rounds.main.body.getD i (.Pass ⟨0,0,0,0⟩)
end FdE
section FdEarly
open PySem PySem.W PyProof.Rows
def FdE.viewQ:J1:={ PySem.Challenge.pw_fairdraw_k52_choices_and_rounds with main:={ PySem.Challenge.pw_fairdraw_k52_choices_and_rounds.main with body:=[FdE.top 1,FdE.top 2,FdE.top 3,FdE.top 5,FdE.top 6,FdE.top 7,FdE.top 8,FdE.top 9,FdE.top 11,FdE.top 13,FdE.top 14,FdE.top 15,FdE.top 16,FdE.top 18,FdE.top 19,FdE.top 20,FdE.top 22,FdE.top 23,FdE.top 24,FdE.top 27,FdE.top 28,FdE.top 29,FdE.top 30,FdE.top 31,FdE.top 32,FdE.top 33,FdE.top 34,FdE.top 35,FdE.top 36,FdE.top 37,FdE.top 38,FdE.top 39] } }
local macro_rules | `(tactic| o_head $H:term) => `(tactic| (refine holds_open (q := FdE.viewQ) (loose := ["states"]) (Xt := fun s => xlAt FdE.viewQ [] s && recOk (RowW.records (OpenRow.toRowW (OpenLaw.row PySem.Challenge.rw_fairdraw_k52_choices_and_rounds))) s) (XP := XL FdE.viewQ []) (Yf := Hook.obs $H) (Ya := Hook.val $H) (YP := Hook.says $H) (N := 5478) ?_ (Hook.of $H) (Hook.keeps $H) (fun s e => xl_of s (Bool.and_eq_true_iff.mp e).1) XL.keeps (by rfl) (by rfl) (by rfl) (fun s e => recFacts_of (Bool.and_eq_true_iff.mp e).2) (by rfl) (by first | assumption | decide +kernel) (by decide +kernel) ⟨rfl, rfl, rfl, rfl, rfl, by decide +kernel⟩ ?_ ?_))
def FdE.P0:PySem.Params:={ strHash:=λ_=>0,shareClass:=λ_=>0,mergeTok:=λt=>t,idOf:=λ_=>0,idOfShared:=λ_ _=>0,followText:=λ_=>false,idOfImm:=λ_=>0 }
set_option maxHeartbeats 0 in
theorem FdE.pre(h:False):PySem.Challenge.rw_fairdraw_k52_choices_and_rounds.Holds:=by
 w_on;refine holds_law h.elim λsaid=>?_;k_head<;>exact h.elim
set_option maxHeartbeats 0 in
theorem FdE.run1(w:J2)(os:OsState):FdE.dg PySem.Challenge.pw_fairdraw_k52_choices_and_rounds 5478 w os:=by
 refine FdE.dk ?_;rw[PySem.W.Fast.te10156331382660048174,PySem.W.Fast.te11892475500146522536,PySem.W.Fast.te14364793385576792824,PySem.W.Fast.te6613529449190102663];kernel_rfl
set_option maxHeartbeats 0 in
theorem FdE.run2(w:J2)(os:OsState):FdE.dh PySem.Challenge.pw_fairdraw_k52_choices_and_rounds FdE.viewQ ["states"] (λs=>xlAt FdE.viewQ [] s && recOk (RowW.records (OpenRow.toRowW (OpenLaw.row PySem.Challenge.rw_fairdraw_k52_choices_and_rounds))) s) 5478 w os:=by
 refine FdE.dk ?_;rw[PySem.W.Fast.te10156331382660048174,PySem.W.Fast.te11892475500146522536,PySem.W.Fast.te14364793385576792824,PySem.W.Fast.te6613529449190102663,PySem.W.Fast.te4187177175401517315];kernel_rfl
set_option maxHeartbeats 0 in
theorem FdE.run3(w:J2)(os:OsState):FdE.di PySem.Challenge.pw_fairdraw_k52_choices_and_rounds (Hook.obs (kHook FdE.pre.heap_1 ((FdE.pre.heap_1 FdE.P0).map (·.1)) (λ_=>by kernel_rfl))) (Hook.val (kHook FdE.pre.heap_1 ((FdE.pre.heap_1 FdE.P0).map (·.1)) (λ_=>by kernel_rfl))) 5478 w os:=by
 refine FdE.dk ?_;rw[PySem.W.Fast.te10156331382660048174,PySem.W.Fast.te11892475500146522536,PySem.W.Fast.te14364793385576792824,PySem.W.Fast.te6613529449190102663];kernel_rfl
theorem FdE.left:LeftO PySem.Challenge.pw_fairdraw_k52_choices_and_rounds FdE.viewQ ["states"] (λs=>xlAt FdE.viewQ [] s && recOk (RowW.records (OpenRow.toRowW (OpenLaw.row PySem.Challenge.rw_fairdraw_k52_choices_and_rounds))) s) (Hook.obs (kHook FdE.pre.heap_1 ((FdE.pre.heap_1 FdE.P0).map (·.1)) (λ_=>by kernel_rfl))) (Hook.val (kHook FdE.pre.heap_1 ((FdE.pre.heap_1 FdE.P0).map (·.1)) (λ_=>by kernel_rfl))) 5478:=FdE.ie (by kernel_rfl) rfl (λs=>by kernel_rfl) (λw os=>FdE.t8 (FdE.run1 w os) (FdE.run2 w os) (FdE.run3 w os))
end FdEarly
set_option Elab.async false
set_option linter.all false
set_option maxRecDepth 100000
namespace L2
open PySem PySem.Spec PyProof.Rows
abbrev Key:=Sum Int Str
def ZB:Key->xY->Bool
 | .inl k,v=>Value.isInt k v
 | .inr x,v=>Value.isStrOf x v
def tq(w:J2):Key->Int
 | .inl k=>hashInt k
 | .inr x=>hashStr w x
theorem Xk:∀{k:Key}{v:xY},ZB k v=true->(∃i t,k=Sum.inl i/\v=Value.int i t)\/(∃x t,k=Sum.inr x/\v=Value.str x t)
 | .inl i,v,h=>by
  obtain⟨t,e⟩:=Value.isInt_shape (k:=i) (v:=v) h;exact .inl ⟨i,t,rfl,e⟩
 | .inr x,v,h=>by
  obtain⟨t,e⟩:=Value.isStrOf_shape (x:=x) (v:=v) h;exact .inr ⟨x,t,rfl,e⟩
def tw(i:Int)(t:Tok):ZB (.inl i) (.int i t)=true:=by simp[ZB,Value.isInt]
def tD(x:Str)(t:Tok):ZB (.inr x) (.str x t)=true:=by simp[ZB,Value.isStrOf]
def tE(a b:Int):decide ((Sum.inl a:Key)=Sum.inl b)=(a == b):=by
 by_cases e:a=b
 . subst e;simp
 . have h:¬(Sum.inl a:Key)=Sum.inl b:=λq=>e (Sum.inl.inj q);rw[qk h];exact(beq_eq_false_iff_ne.mpr e).symm
def tF(a b:Str):decide ((Sum.inr a:Key)=Sum.inr b)=decide (a=b):=by
 by_cases e:a=b
 . subst e;simp
 . have h:¬(Sum.inr a:Key)=Sum.inr b:=λq=>e (Sum.inr.inj q);rw[qk h,qk e]
def tG(a:Int)(b:Str):decide ((Sum.inl a:Key)=Sum.inr b)=false:=qk (λq=>nomatch q)
def tH(a:Str)(b:Int):decide ((Sum.inr a:Key)=Sum.inl b)=false:=qk (λq=>nomatch q)
def JA(prog:J1)(w:J2):PySem.KeyKind prog w Key where
 is:=ZB
 hash:=tq w
 inj:=λv a b ha hb=>by
  rcases Xk ha with ⟨i,t,rfl,rfl⟩ | ⟨x,t,rfl,rfl⟩
  . rcases Xk hb with ⟨j,u,rfl,e⟩ | ⟨y,u,rfl,e⟩
    . injection e with e1 _;rw[e1]
    . exact nomatch e
  . rcases Xk hb with ⟨j,u,rfl,e⟩ | ⟨y,u,rfl,e⟩
    . exact nomatch e
    . injection e with e1 _;rw[e1]
 byValue:=λk v h=>by
  rcases Xk h with ⟨i,t,rfl,rfl⟩ | ⟨x,t,rfl,rfl⟩<;>rfl
 pyHash:=λhv h=>by
  rcases Xk hv with ⟨i,t,rfl,rfl⟩ | ⟨x,t,rfl,rfl⟩
  . exact wpAny_pyHash_int h
  . exact wpAny_pyHash_str h
 eqBool:=λhu hv h=>by
  rcases Xk hu with ⟨i,t,rfl,rfl⟩ | ⟨x,t,rfl,rfl⟩
  . rcases Xk hv with ⟨j,u,rfl,rfl⟩ | ⟨y,u,rfl,rfl⟩
    . rw[tE]at h;exact wpAny_eqBool_int h
    . rw[tG]at h;exact SeqAt.EqAt.int_str i t y u _ _ _ _ h
  . rcases Xk hv with ⟨j,u,rfl,rfl⟩ | ⟨y,u,rfl,rfl⟩
    . rw[tH]at h;exact SeqAt.EqAt.str_int x t j u _ _ _ _ h
    . rw[tF]at h;exact wpAny_eqBool_str h
 «strs»:=λk x t v h=>by
  rcases Xk h with ⟨i,u,rfl,e⟩ | ⟨y,u,rfl,e⟩
  . exact nomatch e
  . injection e with e1 _
    subst e1
    cases v<;>rfl
def tI(prog:J1)(w:J2)(i:Int)(t:Tok):(JA prog w).is (.inl i) (.int i t)=true:=tw i t
def tJ(prog:J1)(w:J2)(x:Str)(t:Tok):(JA prog w).is (.inr x) (.str x t)=true:=tD x t
inductive V where
 | non | bl (b:Bool) | int (i:Int) | str (x:Str) | byt (b:Array UInt8) | flt (b:UInt64) | ref (a:J0) | ty (n:String)
 deriving DecidableEq
def RelV:V->xY->Prop
 | .non,u=>u=Value.none
 | .bl b,u=>u=Value.bool b
 | .int i,u=>∃t,u=Value.int i t
 | .str x,u=>∃t,u=Value.str x t
 | .byt b,u=>∃t,u=Value.bytes b t
 | .flt b,u=>∃t,u=Value.float b t
 | .ref a,u=>u=Value.ref a
 | .ty n,u=>u=Value.type n
abbrev Vals:List V->xx->Prop:=Paired RelV
theorem Vals.length(r:Vals xs us):xs.length=us.length:=Paired.length r
theorem Vals.get:∀{xs:List V}{us:xx}{i:Nat}{x:V},Vals xs us->xs[i]? = some x->∃u,us[i]? = some u/\RelV x u
 | _,_,_,_,.nil,e=>by simp at e
 | _,_,0,_,.cons r _,e=>by simp at e;subst e;exact⟨_,rfl,r⟩
 | _,_,i + 1,x,.cons _ t,e=>by
  obtain⟨u,h1,h2⟩:=Vals.get (i:=i) (x:=x) t (by simpa using e);exact⟨u,by simpa using h1,h2⟩
theorem Vals.append:∀{xs ys:List V}{us ws:xx},Vals xs us->Vals ys ws->Vals (xs ++ ys) (us ++ ws)
 | _,_,_,_,.nil,s=>s
 | _,_,_,_,.cons r t,s => .cons r (Vals.append t s)
theorem Vals.take:∀{xs:List V}{us:xx} (n:Nat),Vals xs us->Vals (xs.take n) (us.take n)
 | _,_,0,_ => .nil
 | _,_,_ + 1,.nil => .nil
 | _,_,n + 1,.cons r t => .cons r (Vals.take n t)
theorem Vals.drop:∀{xs:List V}{us:xx} (n:Nat),Vals xs us->Vals (xs.drop n) (us.drop n)
 | _,_,0,r=>r
 | _,_,_ + 1,.nil => .nil
 | _,_,n + 1,.cons _ t=>Vals.drop n t
def RelO:Option V->xu->Prop
 | some v,some u=>RelV v u
 | none,none=>True
 | _,_=>False
def KV{κ:Type}:List (κ×V)->List (κ×xY)->Prop:=Paired λ(p:κ×V) (q:κ×xY)=>p.1=q.1/\RelV p.2 q.2
def kV:Key->V
 | .inl i => .int i
 | .inr x => .str x
inductive HO where
 /-- a list -/
 | lst (xs:List V)
 /-- a tuple (never changes) -/
 | tup (xs:List V)
 /-- a dict whose keys are ints and texts;one whose keys are tuples of ints and texts (the empty one is both) -/
 | dK (kvs:List (Key×V)) | dT (kvs:List (List Key×V))
 /-- a set of ints: its members,its size -/
 | set (S:Int->Bool) (n:Nat)
 /-- an instance of the class at C,its dict at dx,its attributes -/
 | ins (C dx:J0) (fs:List (Str×V))
 /-- the dict of the instance at x -/
 | own (x:J0)
 /-- the dict of an exception -/
 | xd (fs:List (Str×V))
 /-- a bound method,f of x -/
 | met (f x:J0)
 /-- a range object lo,lo + 1,.. below hi -/
 | rng (lo hi:Int)
 /-- a thing that is known to the object (the script;a dict while a loop walks it): read,never written while it is so -/
 | frz (o:Obj) (u:HO)
 /-- a code object's table -/
 | tbl (ps:xw)
 /-- any other thing,by what is true of its one object (a def of one's own: SetO a S n:=HO.ext λh => ..) -/
 | ext (φ:Heap->Prop)
abbrev Hp:=J0->Option HO
def upd(H:Hp)(a:J0)(o:HO):Hp:=λb=>if b=a then some o else H b
def J8:upd H a o a=some o:=by unfold upd;rw[qh rfl]
def Jb(h:b≠a):upd H a o b=H b:=by unfold upd;rw[qg h]
def QN{H:Hp}{a b:J0}{o u:HO}(h:H a=some o)(h':H b=some u)(d:o≠u):a≠b:=by
 intro e;subst e;rw[h]at h';exact d (Option.some.inj h')
def Jv{H:Hp}{a b:J0}{o:HO}(h:H a=some o)(h':H b=none):a≠b:=by
 intro e;subst e;rw[h]at h';cases h'
section
variable (P:J1) (w:J2)
def ObjOk(H:Hp)(h:Heap)(a:J0):HO->Prop
 | .lst xs=>xs.length<=sizeLine/\∃(its:xx) (n:Nat),Vals xs its/\h.get? a=some { cls := .type "list",data := .seq its.toArray n }
 | .tup xs=>xs.length<=sizeLine/\∃its:xx,Vals xs its/\IsTup h a its.toArray
 | .dK kvs=>kvs.length<=sizeLine/\(a == sysModules)=false/\∃vs,KV kvs vs/\h.DictOf (JA P w) a vs
 | .dT kvs=>kvs.length<=sizeLine/\(a == sysModules)=false/\∃xs:List (List Key×J0×xY),
  Paired (λ(p:List Key×V) (q:List Key×J0×xY)=>p.1=q.1/\H q.2.1=some (.tup (p.1.map kV))/\RelV p.2 q.2.2) kvs xs /\
  ∃o es ep,h.get? a=some o/\o.ExactDict/\o.data = .dict es ep/\es.toList=xs.map (entryOfKey (tupleKind (JA P w)))/\(xs.map (·.1)).Nodup
 | .set S n=>h.SetOf (intKind P w) a S n
 | .ins C dx fs=>H dx=some (.own a)/\fs.length<=1000/\dx≠a/\h.get? a=some (PySem.W.instObj C dx) /\
  ∃mA,h.Ns1 dx mA/\(∀f,RelO (fs.lookup f) (mA f))/\PySem.Within mA (fs.map (·.1))
 | .own _=>∃o,h.get? a=some o
 | .xd fs=>∃mA,h.Ns1 a mA/\∀f,RelO (fs.lookup f) (mA f)
 | .rng lo hi=>∃t u v,h.get? a=some { cls := .type "range",data := .fields #[.int lo t,.int hi u,.int 1 v] }
 | .frz o u=>h.get? a=some o/\ObjOk H h a u
 | .tbl ps=>h.get? a=some { cls := .none,data := .fields ps }
 | .met f x=>h.get? a=some (PySem.W.methodObj (.ref f) (.ref x))
 | .ext φ=>φ h/\(∃o,h.get? a=some o)/\∀h1 h2:Heap,φ h1->(∀o,h1.get? a=some o->h2.get? a=some o)->φ h2
def HOk(H:Hp)(h:Heap):Prop:=∀a o,H a=some o->ObjOk P w H h a o
end
section
variable {P:J1}{w:J2}{H H':Hp}{h h':Heap}{a:J0}{o:HO}
theorem ObjOk.lt(x:ObjOk P w H h a o):a < h.objs.size:=by
 cases o with
 | lst xs=>obtain⟨_,_,_,_,e⟩:=x;exact jG e
 | tup xs=>obtain⟨_,_,_,p⟩:=x;exact p.lt
 | dK kvs=>obtain⟨_,_,_,_,o,_,_,e,_⟩:=x;exact jG e
 | dT kvs=>obtain⟨_,_,_,_,o,_,_,e,_⟩:=x;exact jG e
 | set S n=>obtain⟨o,_,_,_,e,_⟩:=x;exact jG e
 | ins C dx fs=>obtain⟨_,_,_,e,_⟩:=x;exact jG e
 | own y=>obtain⟨_,e⟩:=x;exact jG e
 | xd fs=>obtain⟨_,⟨_,_,_,e,_⟩,_⟩:=x;exact jG e
 | rng lo hi=>obtain⟨_,_,_,e⟩:=x;exact jG e
 | frz ob u=>obtain⟨e,_⟩:=x;exact jG e
 | tbl ps=>exact jG (show h.get? a=some _ from x)
 | met f y=>exact jG (show h.get? a=some _ from x)
 | ext φ=>obtain⟨_,⟨_,e⟩,_⟩:=x;exact jG e
theorem Paired.mapP{α β:Type}{F G:α->β->Prop}:∀{l₁:List α}{l₂:List β},Paired F l₁ l₂->(∀a b,F a b->G a b)->Paired G l₁ l₂
 | _,_,.nil,_ => .nil
 | _,_,.cons r t,f => .cons (f _ _ r) (Paired.mapP t f)
def ObjOk.stay(x:ObjOk P w H h a o)(k:∀b u,(b=a\/H b=some (.own a))->h.get? b=some u->h'.get? b=some u)
 (ho:∀b,H b=some (.own a)->H' b=some (.own a)) (ht:∀b xs,H b=some (.tup xs)->H' b=some (.tup xs)):ObjOk P w H' h' a o:=by
 induction o with
 | lst xs=>obtain⟨z,its,n,r,e⟩:=x;exact⟨z,its,n,r,k _ _ (.inl rfl) e⟩
 | tup xs=>obtain⟨z,its,r,ob,e,c⟩:=x;exact⟨z,its,r,ob,k _ _ (.inl rfl) e,c⟩
 | dK kvs=>obtain⟨z,y,vs,r,ob,es,ep,e,c⟩:=x;exact⟨z,y,vs,r,ob,es,ep,k _ _ (.inl rfl) e,c⟩
 | dT kvs =>
  obtain⟨z,y,xs,r,ob,es,ep,e,c⟩:=x;exact⟨z,y,xs,Paired.mapP r λp q z=>⟨z.1,ht _ _ z.2.1,z.2.2⟩,ob,es,ep,k _ _ (.inl rfl) e,c⟩
 | set S n=>obtain⟨ob,es,ep,t,e,c⟩:=x;exact⟨ob,es,ep,t,k _ _ (.inl rfl) e,c⟩
 | ins C dx fs =>
  obtain⟨d,z,ne,e,mA,⟨od,es,ep,e2,c⟩,r⟩:=x;exact⟨ho _ d,z,ne,k _ _ (.inl rfl) e,mA,⟨od,es,ep,k _ _ (.inr d) e2,c⟩,r⟩
 | own y=>obtain⟨ob,e⟩:=x;exact⟨ob,k _ _ (.inl rfl) e⟩
 | xd fs=>obtain⟨mA,⟨od,es,ep,e,c⟩,r⟩:=x;exact⟨mA,⟨od,es,ep,k _ _ (.inl rfl) e,c⟩,r⟩
 | rng lo hi=>obtain⟨t,u,v,e⟩:=x;exact⟨t,u,v,k _ _ (.inl rfl) e⟩
 | frz ob u ih=>obtain⟨e,q⟩:=x;exact⟨k _ _ (.inl rfl) e,ih q⟩
 | tbl ps =>
  have e:h.get? a=some { cls := .none,data := .fields ps }:=x;show h'.get? a=some { cls := .none,data := .fields ps };exact k a _ (.inl rfl) e
 | met f y =>
  have e:h.get? a=some (PySem.W.methodObj (.ref f) (.ref y)):=x;show h'.get? a=some (PySem.W.methodObj (.ref f) (.ref y));exact k a _ (.inl rfl) e
 | ext φ=>obtain⟨p,⟨o,e⟩,st⟩:=x;exact⟨st _ _ p λo q=>k _ _ (.inl rfl) q,⟨o,k _ _ (.inl rfl) e⟩,st⟩
theorem HOk.lt(x:HOk P w H h)(e:H a=some o):a < h.objs.size:=(x a o e).lt
def HOk.fresh(x:HOk P w H h)(e:h.objs.size<=a):H a=none:=by
 cases q:H a with
 | none=>rfl
 | some u=>exact absurd (jc (x.lt q) e) (j7 _)
def HOk.kept(x:HOk P w H h)(k:∀b u,h.get? b=some u->h'.get? b=some u):HOk P w H h':=λa o e =>
 (x a o e).stay (λb u _ q=>k b u q) (λ_ q=>q) λ_ _ q=>q
def HOk.laid(x:HOk P w H h)(k:∀b u,h.get? b=some u->h'.get? b=some u)(hp:h.objs.size<=a)(new:ObjOk P w (upd H a o) h' a o):HOk P w (upd H a o) h':=λb u e=>by
 have hn:=x.fresh hp
 by_cases hb:b=a
 . subst hb;rw[J8]at e;cases e;exact new
 . rw[Jb hb]at e;exact(x b u e).stay (λc v _ q=>k c v q) (λc q=>by rw[Jb (Jv q hn)];exact q) λc xs q=>by rw[Jb (Jv q hn)];exact q
end
def Rd(H:Hp)(a:J0)(u:HO):Prop:=H a=some u\/∃o,H a=some (.frz o u)
def Rd.of(h:H a=some u):Rd H a u := .inl h
def Rd.ok(r:Rd H a u)(x:HOk P w H h):ObjOk P w H h a u:=by
 rcases r with r | ⟨o,r⟩
 . exact x a u r
 . obtain⟨_,q⟩:=x a _ r;exact q
def Mut:Option HO->Prop
 | some (.lst _)=>True
 | some (.dK _)=>True
 | some (.dT _)=>True
 | some (.set _ _)=>True
 | some (.ins _ _ _)=>True
 | some (.ext _)=>True
 | _=>False
section
variable {P:J1}{w:J2}{H:Hp}{h h':Heap}{x e:J0}{o':HO}
def HOk.write(ok:HOk P w H h)(mu:Mut (H x))(he:e=x\/H e=some (.own x))(k:∀b u,b≠e->h.get? b=some u->h'.get? b=some u)(heo:∃u,h'.get? e=some u)
 (new:ObjOk P w (upd H x o') h' x o'):HOk P w (upd H x o') h':=λb u q=>by
 have nown:∀c y,H c=some (.own y)->c≠x:=λc y r z=>by subst z;rw[r]at mu;exact mu
 have ntup:∀c xs,H c=some (.tup xs)->c≠x:=λc xs r z=>by subst z;rw[r]at mu;exact mu
 by_cases hb:b=x
 . subst hb;rw[J8]at q;cases q;exact new
 . rw[Jb hb]at q
   by_cases hbe:b=e
   . have q':H b=some (.own x):=by
      rcases he with z | z
      . exact absurd (hbe.trans z) hb
      . rw[hbe];exact z
     rw[q]at q';cases q';obtain⟨v,hv⟩:=heo;exact⟨v,by rw[hbe];exact hv⟩
   . refine(ok b u q).stay (λc v hc r=>k c v ?_ r) (λc r=>by rw[Jb (nown c b r)];exact r) λc xs r=>by rw[Jb (ntup c xs r)];exact r
     rcases hc with rfl | hc
     . exact hbe
     . rintro rfl;rcases he with z | z
       . exact nown c b hc z
       . rw[hc]at z;cases z;exact hb rfl
end
structure Un (fs ex:List J0) (H H':Hp) (h h':Heap):Prop where
 keep:∀b o,h.get? b=some o->H b=none->b∉fs->b∉ex->h'.get? b=some o
 slot:∀b o,h.get? b=some o->H b=none->b∈fs->b∉ex->∃sl,h'.get? b=some { o with slots:=sl }
 free:∀b o,h.get? b=some o->H b=none->b∉ex->H' b=none
 there:∀b o,h.get? b=some o->b∉ex->∃o',h'.get? b=some o'
 tups:∀b xs,H b=some (.tup xs)->H' b=some (.tup xs)
 frzs:∀b o u,H b=some (.frz o u)->H' b=some (.frz o u)
 tbls:∀b ps,H b=some (.tbl ps)->∃more,H' b=some (.tbl (ps ++ more))
section
variable {fs fs' ex ex':List J0}{H H1 H2:Hp}{h h1 h2 h':Heap}{a x e:J0}{o:HO}
def Un.any(u:Un fs ex H H1 h h1)(q:h.get? b=some ob)(n:H b=none)(hx:b∉ex):∃sl,h1.get? b=some { ob with slots:=sl }:=by
 by_cases hb:b∈fs
 . exact u.slot b ob q n hb hx
 . exact⟨ob.slots,u.keep b ob q n hb hx⟩
def Un.kept(k:∀b u,h.get? b=some u->h'.get? b=some u):Un fs ex H H h h' :=
 ⟨λb ob q _ _ _=>k b ob q,λb ob q _ _ _=>⟨ob.slots,k b ob q⟩,λ_ _ _ n _=>n,λb ob q _=>⟨ob,k b ob q⟩,λ_ _ q=>q,λ_ _ _ q=>q,λ_ ps q=>⟨#[],by rw[q];simp⟩⟩
def Un.refl:Un fs ex H H h h:=Un.kept λ_ _ q=>q
theorem Un.laid(k:∀b u,h.get? b=some u->h'.get? b=some u)(hp:h.objs.size<=a)(hn:H a=none):Un fs ex H (upd H a o) h h' where
 keep:=λb u q _ _ _=>k b u q
 slot:=λb u q _ _ _=>⟨u.slots,k b u q⟩
 free:=λb u q n _=>by rw[Jb (jQ (jc (jG q) hp))];exact n
 there:=λb u q _=>⟨u,k b u q⟩
 tups:=λb xs q=>by rw[Jb (Jv q hn)];exact q
 frzs:=λb u xs q=>by rw[Jb (Jv q hn)];exact q
 tbls:=λb ps q=>⟨#[],by rw[Jb (Jv q hn),q];simp⟩
def Un.write(mu:Mut (H x))(he:e=x\/H e=some (.own x))(k:∀b u,b≠e->h.get? b=some u->h'.get? b=some u)(heo:∃u,h'.get? e=some u):Un fs ex H (upd H x o) h h':=by
 have hx:∀b,H b=none->b≠x:=λb n z=>by subst z;rw[n]at mu;exact mu
 have hb:∀b,H b=none->b≠e:=λb n z=>by
  subst z;rcases he with r | r
  . exact hx b n r
  . rw[n]at r;cases r
 have hm:∀b u,H b=some u->¬Mut (some u)->b≠x:=λb u q nm z=>by subst z;rw[q]at mu;exact nm mu
 refine⟨λb u q n _ _=>k b u (hb b n) q,λb u q n _ _=>⟨u.slots,k b u (hb b n) q⟩,λb u q n _=>by rw[Jb (hx b n)];exact n,λb u q _=>?_,
  λb xs q=>by rw[Jb (hm b _ q λz=>z)];exact q,λb u xs q=>by rw[Jb (hm b _ q λz=>z)];exact q,λb ps q=>⟨#[],by rw[Jb (hm b _ q λz=>z),q];simp⟩⟩
 by_cases hbe:b=e
 . subst hbe;exact heo
 . exact⟨u,k b u hbe q⟩
end
def trk(h:Heap)(H:Hp):List J0:=(List.range h.objs.size).filter λa=>(H a).isSome
def Xl(h:Heap)(H:Hp):Heap:=PySem.W.hideAll h (trk h H)
def tK(h:Heap)(H:Hp):(Xl h H).objs.size=h.objs.size:=PySem.W.hideAll_size _ _
def tL(e:h.get? b=some o)(n:H b=none):(Xl h H).get? b=some o :=
 PySem.W.hideAll_get _ e λhm=>by
  have q:(H b).isSome=true:=(ko.mp hm).2;rw[n]at q;simp at q
def tM(e:(Xl h H).get? b=some o):h.get? b=some o/\H b=none:=by
 have e':h.get? b=some o:=PySem.W.of_hideAll (trk h H) e;refine⟨e',?_⟩
 cases q:H b with
 | none=>rfl
 | some x =>
  have hm:b∈trk h H:=ko.mpr ⟨kh.mpr (jG e'),by simp[q]⟩;have z:(Xl h H).get? b=none:=PySem.W.hideAll_none (trk h H) hm;rw[z]at e;cases e
structure Mod (K:xt) (mg:xq) (base:Heap):Prop where
 kin:K.In base
 glob:base.Ns mainGlobals mg
 blt:∃mb,base.Ns builtinsNs mb/\∀x:Str,x ≠ "__name__" -> mb x=bootBuiltins x
 nolimit:base.NoLimit
structure Cx where
 prog:J1
 w:J2
 K:xt
 mg:xq
 base:Heap
 A:J3
 N:xy
 s₀:xZ
 H₀:Hp
 env:Env
 outer:List Env
 stack:List Env
 ex:List J0
 fn:Str->Bool
 calm:Bool
 pn:xr
 xe:xp
def frs(l:List Env):List J0:=l.filterMap (·.frame)
abbrev Cx.fs(X:Cx):List J0:=frs X.outer
def Vis(sc:Scope)(x:Str):Prop:=sc.names.lookup x=some .local\/sc.names.lookup x=some .cell\/sc.names.lookup x=some .free
def Loc(sc:Scope)(x:Str):Prop:=sc.names.lookup x=some .local\/sc.names.lookup x=some .cell
def Look(env:Env)(h:Heap)(m:xq)(x:Str)(u:xY):Prop :=
 (env.kindOf x=some .local/\m x=some u)\/((env.kindOf x=some .cell\/env.kindOf x=some .free)/\∃c,env.cells.lookup x=some c/\h.IsCell c (some u))
structure Cx.Ok (X:Cx):Prop where
 mod:Mod X.K X.mg X.base
 kind:X.env.scope.kind = .function
 glob:X.env.globals=mainGlobals
 blt:X.env.builtins=builtinsNs
 above:X.s₀.heap.objs.size<=X.env.locals
 inj:∀x y c,X.env.cells.lookup x=some c->X.env.cells.lookup y=some c->x=y
 has:∀x,(X.env.kindOf x=some .cell\/X.env.kindOf x=some .free)->∃c,X.env.cells.lookup x=some c
 cab:∀x c,X.fn x=true->X.env.cells.lookup x=some c->X.s₀.heap.objs.size<=c
 hd:X.calm=true->X.A.handled=none
 frames:X.A.frames=some X.stack
 stk:X.stack=X.outer\/(X.stack=X.env :: X.outer/\X.env.frame=some X.env.locals)
 exf:∀b∈X.ex,b≠X.env.locals/\∀x c,X.env.cells.lookup x=some c->c≠b
 bs:∀b o,X.base.get? b=some o->X.s₀.heap.get? b=some o/\X.H₀ b=none
 bsz:X.base.objs.size<=X.s₀.heap.objs.size
 noex:∀b o,X.base.get? b=some o->b∉X.ex
 exfs:∀b∈X.ex,b∉X.fs
 funs:X.s₀.heap.FunFrames X.base X.outer
 frf:∀b∈X.fs,X.H₀ b=none
structure Inv (X:Cx) (xB:xr) (σ:List (Option V)) (H:Hp) (s:xZ):Prop where
 ok:X.Ok
 os:s.os=X.s₀.os
 bare:AllBare s.gens
 base:Un X.fs X.ex X.H₀ H X.s₀.heap s.heap
 loc:∃m,s.heap.Ns X.env.locals m/\∀(i:Nat) (x:Str) (v:V),X.N[i]? = some x->σ[i]? = some (some v)->Vis X.env.scope x->∃u,RelV v u/\Look X.env s.heap m x u
 cell:∀x c,X.env.cells.lookup x=some c->∃v,s.heap.IsCell c v
 free:H X.env.locals=none
 freeC:∀x c,X.env.cells.lookup x=some c->H c=none
 pin:∀p∈X.pn ++ xB,s.heap.get? p.1=some p.2/\H p.1=none/\p.1≠X.env.locals/\p.1∉X.fs/\∀v,p.2.data ≠ .cell v
 hok:HOk X.prog X.w H s.heap
 len:σ.length=X.N.length
section
variable {X:Cx}{xB:xr}{σ:List (Option V)}{H H':Hp}{s:xZ}{h':Heap}
def Cx.Ok.nofr(ok:X.Ok)(e:X.base.get? b=some o):b∉X.fs:=λhb=>by
 have:=(ok.funs.mem hb).1;rw[e]at this;cases this
theorem Inv.bs(I:Inv X xB σ H s):∀b o,X.base.get? b=some o->s.heap.get? b=some o/\H b=none:=λb o e =>
 ⟨I.base.keep b o (I.ok.bs b o e).1 (I.ok.bs b o e).2 (I.ok.nofr e) (I.ok.noex b o e),I.base.free b o (I.ok.bs b o e).1 (I.ok.bs b o e).2 (I.ok.noex b o e)⟩
def Inv.bk(I:Inv X xB σ H s):∀b o,X.base.get? b=some o->s.heap.get? b=some o:=λb o e=>(I.bs b o e).1
theorem Inv.mod(I:Inv X xB σ H s):Mod X.K X.mg X.base:=I.ok.mod
def Inv.kIn(I:Inv X xB σ H s):X.K.In s.heap:=I.ok.mod.kin.keeps I.bk
theorem Inv.lt(I:Inv X xB σ H s):X.env.locals < s.heap.objs.size:=let ⟨_,hn,_⟩:=I.loc;hn.lt
def Inv.sz(I:Inv X xB σ H s):X.s₀.heap.objs.size<=s.heap.objs.size:=jh I.ok.above (kE I.lt)
def Inv.nofs(I:Inv X xB σ H s){a:J0}(h:s.heap.objs.size<=a):a∉X.fs:=λhb=>by
 obtain⟨_,o,ho,_⟩:=I.ok.funs.mem hb;exact absurd (jc (jG ho) (jh I.sz h)) (j7 _)
def Inv.cne(I:Inv X xB σ H s):∀x c,X.env.cells.lookup x=some c->c≠X.env.locals:=λx c e z=>by
 obtain⟨v,o,ho,hd⟩:=I.cell x c e;obtain⟨m,⟨o',es,ep,ho',hd',_⟩,_⟩:=I.loc;rw[z,ho']at ho;cases ho;rw[hd']at hd;cases hd
theorem Inv.funs(I:Inv X xB σ H s):s.heap.FunFrames X.base X.outer:=by
 have all:∀(l:List Env),(∀b∈frs l,b∈X.fs)->X.s₀.heap.FunFrames X.base l->s.heap.FunFrames X.base l:=by
  intro l
  induction l with
  | nil=>intro _ _;trivial
  | cons env r ih =>
   intro hs hl;obtain⟨hk,⟨L,o,hf,hn,ho,hd⟩,hr⟩:=hl;have hL:L∈X.fs:=hs L (by unfold frs;rw[List.filterMap_cons,hf];exact jb);obtain⟨sl,e⟩:=I.base.slot L o ho (I.ok.frf L hL) hL λz=>I.ok.exfs L z hL;exact⟨hk,⟨L,_,hf,hn,e,hd⟩,ih (λb hb=>hs b (by unfold frs;rw[List.filterMap_cons,hf];exact jS _ hb)) hr⟩
 exact all X.outer (λ_ hb=>hb) I.ok.funs
theorem Inv.stack(I:Inv X xB σ H s):s.heap.FunFrames X.base X.stack:=by
 rcases I.ok.stk with e | ⟨e,hf⟩
 . rw[e];exact I.funs
 . rw[e];obtain⟨m,hn,_⟩:=I.loc;refine .cons (by rw[I.ok.kind];decide) hf hn ?_ I.funs;exact Heap.get?_none_of_le (jh I.ok.bsz I.ok.above)
def Inv.stkSub(I:Inv X xB σ H s):∀b∈frs X.stack,b∈X.env.locals :: X.fs:=λb hb=>by
 rcases I.ok.stk with e | ⟨e,hf⟩
 . rw[e]at hb;exact jS _ hb
 . rw[e]at hb;unfold frs at hb;rw[List.filterMap_cons,hf]at hb;exact hb
def Inv.stkFree(I:Inv X xB σ H s):∀b∈frs X.stack,H b=none:=λb hb=>by
 rcases jL.mp (I.stkSub b hb) with e | hb
 . rw[e];exact I.free
 . obtain⟨_,o,ho,_⟩:=I.ok.funs.mem hb;exact I.base.free b o ho (I.ok.frf b hb) λz=>I.ok.exfs b z hb
def Inv.step{g':Array GenState}{t':Nat}{d':Drawn}{ch:List J0}(I:Inv X xB σ H s)
 (hch:∀b∈ch,(b∈X.ex\/X.s₀.heap.objs.size<=b)/\b≠X.env.locals/\(∀x c,X.env.cells.lookup x=some c->c≠b)/\∀p∈X.pn ++ xB,p.1≠b)
 (keep:∀b o,b≠X.env.locals->b∉X.fs->b∉ch->s.heap.get? b=some o->H b=none->h'.get? b=some o)
 (slot:∀b o,b≠X.env.locals->b∈X.fs->b∉ch->s.heap.get? b=some o->H b=none->∃sl,h'.get? b=some { o with slots:=sl }) (free:∀b o,b∉ch->s.heap.get? b=some o->H b=none->H' b=none)
 (there:∀b o,b∉ch->s.heap.get? b=some o->∃o',h'.get? b=some o')
 (tups:∀b xs,H b=some (.tup xs)->H' b=some (.tup xs)) (frzs:∀b o u,H b=some (.frz o u)->H' b=some (.frz o u)) (tbls:∀b ps,H b=some (.tbl ps)->∃more,H' b=some (.tbl (ps ++ more)))
 (ns:∀m,s.heap.Ns X.env.locals m->h'.Ns X.env.locals m) (hok:HOk X.prog X.w H' h') (hg:AllBare g') :
 Inv X xB σ H' { s with heap:=h',gens:=g',drawn:=d',toks:=t' }:=by
 have neL:∀b o,X.s₀.heap.get? b=some o->b≠X.env.locals:=λb o e=>jQ (jc (jG e) I.ok.above)
 have neC:∀b o,X.s₀.heap.get? b=some o->b∉X.ex->b∉ch:=λb o e hx hb=>by
  rcases(hch b hb).1 with z | z
  . exact hx z
  . exact absurd (jc (jG e) z) (j7 _)
 have cellK:∀x c,X.env.cells.lookup x=some c->∀v,s.heap.IsCell c v->h'.IsCell c v:=λx c e v ⟨o,ho,hd⟩=>by
  have nch:c∉ch:=λz=>(hch c z).2.2.1 x c e rfl
  by_cases hc:c∈X.fs
  . obtain⟨sl,q⟩:=slot c o (I.cne x c e) hc nch ho (I.freeC x c e);exact⟨_,q,hd⟩
  . exact⟨o,keep c o (I.cne x c e) hc nch ho (I.freeC x c e),hd⟩
 refine⟨I.ok,I.os,hg,⟨λb o e n hb hx=>?_,λb o e n hb hx=>?_,λb o e n hx=>?_,λb o e hx=>?_,λb xs e=>tups b xs (I.base.tups b xs e),λb o xs e=>frzs b o xs (I.base.frzs b o xs e),λb ps e=>?_⟩,?_,λx c e=>?_,?_,λx c e=>?_,λp hp=>?_,hok,I.len⟩
 . exact keep b o (neL b o e) hb (neC b o e hx) (I.base.keep b o e n hb hx) (I.base.free b o e n hx)
 . obtain⟨sl,e1⟩:=I.base.slot b o e n hb hx;obtain⟨sl',e2⟩:=slot b _ (neL b o e) hb (neC b o e hx) e1 (I.base.free b o e n hx);exact⟨sl',e2⟩
 . obtain⟨o',e1⟩:=I.base.there b o e hx;exact free b o' (neC b o e hx) e1 (I.base.free b o e n hx)
 . obtain⟨o',e1⟩:=I.base.there b o e hx;exact there b o' (neC b o e hx) e1
 . obtain⟨m1,e1⟩:=I.base.tbls b ps e;obtain⟨m2,e2⟩:=tbls b _ e1;exact⟨m1 ++ m2,by rw[e2,Array.append_assoc]⟩
 . obtain⟨m,hn,hl⟩:=I.loc;refine⟨m,ns m hn,λi x v e1 e2 e3=>?_⟩;obtain⟨u,r,l⟩:=hl i x v e1 e2 e3;refine⟨u,r,?_⟩;rcases l with l | ⟨k,c,e,z⟩
   . exact .inl l
   . exact .inr ⟨k,c,e,cellK x c e _ z⟩
 . obtain⟨v,z⟩:=I.cell x c e;exact⟨v,cellK x c e v z⟩
 . obtain⟨m,⟨o,_,_,ho,_⟩,_⟩:=I.loc;exact free _ o (λz=>(hch _ z).2.1 rfl) ho I.free
 . obtain⟨v,o,ho,hd⟩:=I.cell x c e;exact free c o (λz=>(hch c z).2.2.1 x c e rfl) ho (I.freeC x c e)
 . obtain⟨e,n,ne,nf,d⟩:=I.pin p hp;have nch:p.1∉ch:=λz=>(hch p.1 z).2.2.2 p hp rfl;exact⟨keep p.1 p.2 ne nf nch e n,free p.1 p.2 nch e n,ne,nf,d⟩
theorem Inv.un(I:Inv X xB σ H s)(u:Un X.fs [] H H' s.heap h')(hok:HOk X.prog X.w H' h'):Inv X xB σ H' { s with heap:=h',toks:=t' }:=by
 obtain⟨m,⟨o,es,ep,ho,r⟩,_⟩:=id I.loc;obtain⟨sl,hL⟩:=u.any ho I.free 'j'
 exact I.step (g':=s.gens) (d':=s.drawn) (ch:=[]) (λ_ z=>nomatch z) (λb o _ hb _ e n=>u.keep b o e n hb 'j') (λb o _ hb _ e n=>u.slot b o e n hb 'j') (λb o _ e n=>u.free b o e n 'j') (λb o _ e=>u.there b o e 'j') u.tups u.frzs u.tbls (λm' hm=>by
  obtain⟨o',es',ep',ho',r'⟩:=hm;rw[ho]at ho';cases ho';exact⟨_,es',ep',hL,r'⟩) hok I.bare
theorem Inv.call(I:Inv X xB σ H s)(u:Un (frs X.stack) ch H H' s.heap h')(hok:HOk X.prog X.w H' h')(hg:AllBare g')
 (hch:∀b∈ch,(b∈X.ex\/X.s₀.heap.objs.size<=b)/\b≠X.env.locals/\(∀x c,X.env.cells.lookup x=some c->c≠b)/\∀p∈X.pn ++ xB,p.1≠b) :
 Inv X xB σ H' { s with heap:=h',gens:=g',drawn:=d',toks:=t' }:=by
 obtain⟨m,⟨o,es,ep,ho,r⟩,_⟩:=id I.loc;obtain⟨sl,hL⟩:=u.any ho I.free λz=>(hch _ z).2.1 rfl
 exact I.step (ch:=ch) hch (λb o hL hb hc e n=>u.keep b o e n (λz=>(jL.mp (I.stkSub b z)).elim hL hb) hc) (λb o _ _ hc e n=>u.any e n hc) (λb o hc e n=>u.free b o e n hc) (λb o hc e=>u.there b o e hc) u.tups u.frzs u.tbls (λm' hm=>by
  obtain⟨o',es',ep',ho',r'⟩:=hm;rw[ho]at ho';cases ho';exact⟨_,es',ep',hL,r'⟩) hok hg
def Inv.turned(I:Inv X xB σ H s)(k:∀b o,b≠it->s.heap.get? b=some o->h'.get? b=some o)(hn:H it=none)(hL:it≠X.env.locals)
 (h1:it∈X.ex\/X.s₀.heap.objs.size<=it) (h2:∀x c,X.env.cells.lookup x=some c->c≠it) (h3:∀p∈X.pn ++ xB,p.1≠it):Inv X xB σ H { s with heap:=h',toks:=t' }:=by
 have nit:∀b u,H b=some u->b≠it:=λb u e z=>by rw[z,hn]at e;cases e
 refine I.step (g':=s.gens) (d':=s.drawn) (ch:=[it]) (λb hb=>?_) (λb o _ _ hc e _=>k b o (λz=>hc (by simp[z])) e) (λb o _ _ hc e _=>⟨o.slots,k b o (λz=>hc (by simp[z])) e⟩) (λ_ _ _ _ n=>n)
  (λb o hc e=>⟨o,k b o (λz=>hc (by simp[z])) e⟩) (λ_ _ e=>e) (λ_ _ _ e=>e) (λb ps e=>⟨#[],by rw[e];simp⟩) (λm hm=>?_) (λb u e=>?_) I.bare
 . have e:b=it:=by simpa using hb
   subst e;exact⟨h1,hL,h2,h3⟩
 . obtain⟨o,es,ep,ho,r⟩:=hm;exact⟨o,es,ep,k _ o (Ne.symm hL) ho,r⟩
 . refine(I.hok b u e).stay (λc v hc q=>k c v ?_ q) (λ_ q=>q) λ_ _ q=>q;rcases hc with z | z
   . rw[z];exact nit b u e
   . exact nit c _ z
def Inv.tok(I:Inv X xB σ H s)(t:Nat):Inv X xB σ H { s with toks:=t }:=I.un (h':=s.heap) (t':=t) Un.refl I.hok
theorem Inv.kept(I:Inv X xB σ H s)(k:∀b u,s.heap.get? b=some u->h'.get? b=some u):Inv X xB σ H { s with heap:=h',toks:=t' }:=I.un (Un.kept k) (I.hok.kept k)
theorem Inv.laid{a:J0}{o:HO}{t':Nat}(I:Inv X xB σ H s)(k:∀b u,s.heap.get? b=some u->h'.get? b=some u)(hp:s.heap.objs.size<=a)(new:ObjOk X.prog X.w (upd H a o) h' a o) :
 Inv X xB σ (upd H a o) { s with heap:=h',toks:=t' }:=I.un (Un.laid k hp (I.hok.fresh hp)) (I.hok.laid k hp new)
theorem Inv.write(I:Inv X xB σ H s)(mu:Mut (H x))(he:e=x\/H e=some (.own x))(k:∀b u,b≠e->s.heap.get? b=some u->h'.get? b=some u)(heo:∃u,h'.get? e=some u)
 (new:ObjOk X.prog X.w (upd H x o) h' x o):Inv X xB σ (upd H x o) { s with heap:=h',toks:=t' }:=I.un (Un.write mu he k heo) (I.hok.write mu he k heo new)
def Inv.pins_of(I:Inv X xB σ H s)(h:∀p∈pins',s.heap.get? p.1=some p.2/\H p.1=none/\p.1≠X.env.locals/\p.1∉X.fs/\∀v,p.2.data ≠ .cell v):Inv X pins' σ H s :=
 ⟨I.ok,I.os,I.bare,I.base,I.loc,I.cell,I.free,I.freeC,λp hp=>(jO.mp hp).elim (λz=>I.pin p (jZ _ z)) (h p),I.hok,I.len⟩
def io{N:xy}(hN:N.Nodup){i j:Nat}{x:Str}(a:N[i]? = some x)(b:N[j]? = some x):i=j:=by
 obtain⟨h1,e1⟩:=jJ.mp a;obtain⟨h2,e2⟩:=jJ.mp b;exact(List.getElem_inj hN).mp (e1.trans e2.symm)
theorem iq(I:Inv X xB σ H s)(hN:X.N.Nodup)(hi:X.N[i]? = some x)(hx:Loc X.env.scope x)(r:RelV v u)
 (h:∀s',Inv X xB (σ.set i (some v)) H s'->(∃a,Heap.SameBut a s.heap s'.heap/\(a=X.env.locals\/X.env.cells.lookup x=some a))->Q () s') (hf:X.fn x=true\/X.env.scope.names.lookup x=some .local:=by first | exact .inl rfl | exact .inr rfl | assumption):wpAny M A (storeName X.env x u) Q E s:=by
 obtain⟨m,hn,hl⟩:=id I.loc;have hcls:(X.env.scope.kind == .class || (X.env.scope.kind == .module && X.env.locals != X.env.globals))=false:=by rw[I.ok.kind];rfl
 have hiσ:i < σ.length:=by rw[I.len];exact(jJ.mp hi).1
 have cne:=I.cne
 have tracked:∀{a:J0}{h':Heap},(∃o,s.heap.get? a=some o/\H a=none)->Heap.SameBut a s.heap h'->HOk X.prog X.w H h':=fun {a h'} ha hs b ob e=>by
  obtain⟨_,_,hfree⟩:=ha;refine(I.hok b ob e).stay (λc w' hc q=>(hs.2 c ?_).trans q) (λ_ q=>q) λ_ _ q=>q;rintro rfl;rcases hc with rfl | hc
  . rw[hfree]at e;cases e
  . rw[hfree]at hc;cases hc
 rcases hx with hk | hk
 . refine wpAny_storeName_local hk hn (λh' hn' hs=>?_) hcls;obtain⟨oL,_,_,hoL,_⟩:=id hn;refine h _ ⟨I.ok,I.os,I.bare,⟨λb o e n hb hx=>?_,λb o e n hb hx=>?_,I.base.free,λb o e hx=>?_,I.base.tups,I.base.frzs,I.base.tbls⟩,⟨_,hn',λj y v' e1 e2 e3=>?_⟩,λy c e=>?_,I.free,I.freeC,λp hp=>?_,tracked ⟨oL,hoL,I.free⟩ hs,by simpa using I.len⟩ ⟨_,hs,.inl rfl⟩
   . exact(hs.2 b (jQ (jc (jG e) I.ok.above))).trans (I.base.keep b o e n hb hx)
   . obtain⟨sl,e1⟩:=I.base.slot b o e n hb hx;exact⟨sl,(hs.2 b (jQ (jc (jG e) I.ok.above))).trans e1⟩
   . obtain⟨o',e1⟩:=I.base.there b o e hx;exact⟨o',(hs.2 b (jQ (jc (jG e) I.ok.above))).trans e1⟩
   . by_cases hj:j=i
     . subst hj;rw[hi]at e1;cases e1;rw[List.getElem?_set_self hiσ]at e2
       cases e2
       exact⟨u,r,.inl ⟨hk,by simp⟩⟩
     . rw[List.getElem?_set_ne (Ne.symm hj)]at e2;obtain⟨u',r',q⟩:=hl j y v' e1 e2 e3;refine⟨u',r',?_⟩;rcases q with ⟨k,e⟩ | ⟨k,c,e,z⟩
       . refine .inl ⟨k,?_⟩;have:y≠x:=λe=>hj (io hN e1 (e ▸ hi));simp[this,e]
       . exact .inr ⟨k,c,e,z.sameBut hs (cne y c e)⟩
   . obtain⟨w',z⟩:=I.cell y c e;exact⟨w',z.sameBut hs (cne y c e)⟩
   . obtain⟨e,n,ne,nf,d⟩:=I.pin p hp;exact⟨(hs.2 p.1 ne).trans e,n,ne,nf,d⟩
 . have hfn:X.fn x=true:=by
    rcases hf with z | z
    . exact z
    . rw[z]at hk;cases hk
   obtain⟨c,hc⟩:=I.ok.has x (.inl hk);obtain⟨w',z⟩:=I.cell x c hc;refine wpAny_storeName_cell I.ok.kind hk hc z (λh' hc' hs=>?_);obtain⟨oc,hoc,hocd⟩:=id z;refine h { s with heap:=h' } ⟨I.ok,I.os,I.bare,⟨λb o e n hb hx=>?_,λb o e n hb hx=>?_,I.base.free,λb o e hx=>?_,I.base.tups,I.base.frzs,I.base.tbls⟩,⟨m,hn.sameBut hs (Ne.symm (cne x c hc)),λj y v' e1 e2 e3=>?_⟩,λy c' e=>?_,I.free,I.freeC,λp hp=>?_,tracked ⟨oc,hoc,I.freeC x c hc⟩ hs,by simpa using I.len⟩ ⟨c,hs,.inr hc⟩
   . exact(hs.2 b (jQ (jc (jG e) (I.ok.cab x c hfn hc)))).trans (I.base.keep b o e n hb hx)
   . obtain⟨sl,e1⟩:=I.base.slot b o e n hb hx;exact⟨sl,(hs.2 b (jQ (jc (jG e) (I.ok.cab x c hfn hc)))).trans e1⟩
   . obtain⟨o',e1⟩:=I.base.there b o e hx;exact⟨o',(hs.2 b (jQ (jc (jG e) (I.ok.cab x c hfn hc)))).trans e1⟩
   . by_cases hj:j=i
     . subst hj;rw[hi]at e1;cases e1;rw[List.getElem?_set_self hiσ]at e2
       cases e2
       exact⟨u,r,.inr ⟨.inl hk,c,hc,hc'⟩⟩
     . rw[List.getElem?_set_ne (Ne.symm hj)]at e2;obtain⟨u',r',q⟩:=hl j y v' e1 e2 e3;refine⟨u',r',?_⟩;rcases q with q | ⟨k,c',e,z'⟩
       . exact .inl q
       . refine .inr ⟨k,c',e,z'.sameBut hs ?_⟩;rintro rfl;exact hj (io hN e1 (I.ok.inj _ _ _ e hc ▸ hi))
   . by_cases hcc:c'=c
     . subst hcc;exact⟨_,hc'⟩
     . obtain⟨w2,z2⟩:=I.cell y c' e;exact⟨w2,z2.sameBut hs hcc⟩
   . obtain⟨e,n,ne,nf,d⟩:=I.pin p hp;refine⟨(hs.2 p.1 ?_).trans e,n,ne,nf,d⟩;intro q;rw[q,hoc]at e;have q':oc=p.2:=Option.some.inj e;exact d w' (by rw[<- q'];exact hocd)
def au(I:Inv X xB σ H s)(hN:X.N.Nodup)(hi:X.N[i]? = some x)(hx:Loc X.env.scope x)(r:RelV v u)
 (h:∀s',Inv X xB (σ.set i (some v)) H s'->Q () s') (hf:X.fn x=true\/X.env.scope.names.lookup x=some .local:=by first | exact .inl rfl | exact .inr rfl | assumption):wpAny M A (storeName X.env x u) Q E s :=
 iq I hN hi hx r (λs' I' _=>h s' I') hf
def Inv.call'(I:Inv X xB σ H s)(ho:s'.os=s.os)(u:Un (frs X.stack) ch H H' s.heap s'.heap)(hok:HOk X.prog X.w H' s'.heap)(hg:AllBare s'.gens)
 (hch:∀b∈ch,(b∈X.ex\/X.s₀.heap.objs.size<=b)/\b≠X.env.locals/\(∀x c,X.env.cells.lookup x=some c->c≠b)/\∀p∈X.pn ++ xB,p.1≠b):Inv X xB σ H' s':=by
 obtain⟨h',g',d',t',o'⟩:=s';have e:o'=s.os:=ho;subst e;exact I.call (g':=g') (t':=t') (d':=d') u hok hg hch
end
abbrev XK:=xY->Option J0->Hp->Prop
abbrev St:=List (Option V)
abbrev VK:=V->Hp->Prop
abbrev TE:=St->Hp->VK->Prop
abbrev TT:=St->Hp->(Bool->Hp->Prop)->Prop
abbrev TA:=St->Hp->(List V->Hp->Prop)->Prop
structure Ends where
 nx:St->Hp->Prop
 rt:VK
 bk:St->Hp->Prop:=λ_ _=>False
 ct:St->Hp->Prop:=λ_ _=>False
abbrev TS:=Ends->St->Hp->Prop
def EP(X:Cx)(xB:xr)(σ:St)(Q:VK)(u:xY)(s':xZ):Prop:=∃v H',Inv X xB σ H' s'/\RelV v u/\Q v H'
def TP(X:Cx)(xB:xr)(σ:St)(Q:Bool->Hp->Prop)(b:Bool)(s':xZ):Prop:=∃H',Inv X xB σ H' s'/\Q b H'
def AP(X:Cx)(xB:xr)(σ:St)(Q:List V->Hp->Prop)(us:xx)(s':xZ):Prop:=∃vs H',Inv X xB σ H' s'/\Vals vs us/\Q vs H'
def SP(X:Cx)(xB:xr)(D:Ends)(f:Flow)(s':xZ):Prop :=
 match f with
 | .next=>∃xE H',Inv X xB xE H' s'/\D.nx xE H'
 | .brk=>∃xE H',Inv X xB xE H' s'/\D.bk xE H'
 | .cont=>∃xE H',Inv X xB xE H' s'/\D.ct xE H'
 | .ret u=>∃v xE H',Inv X xB xE H' s'/\RelV v u/\D.rt v H'
def PE(X:Cx)(e:Expr)(t:TE):Prop :=
 ∀(xB:xr) (s:xZ) (σ:St) (H:Hp) (Q:VK),Inv X xB σ H s->t σ H Q->wpAny (model X.prog X.w) X.A (eval e X.env) (EP X xB σ Q) X.xe s
def PT(X:Cx)(e:Expr)(t:TT):Prop :=
 ∀(xB:xr) (s:xZ) (σ:St) (H:Hp) (Q:Bool->Hp->Prop),Inv X xB σ H s->t σ H Q->wpAny (model X.prog X.w) X.A (isTrue e X.env (eval e X.env)) (TP X xB σ Q) X.xe s
def PW(X:Cx)(e:Expr)(t:TT):Prop :=
 ∀(whole:Sem xY) (xB:xr) (s:xZ) (σ:St) (H:Hp) (Q:Bool->Hp->Prop),Inv X xB σ H s->t σ H Q->wpAny (model X.prog X.w) X.A (isTrue e X.env whole) (TP X xB σ Q) X.xe s
def PW.pt(h:PW X e t):PT X e t:=h _
def PA(X:Cx)(es:List Expr)(t:TA):Prop :=
 ∀(pos:Pos) (xB:xr) (s:xZ) (σ:St) (H:Hp) (Q:List V->Hp->Prop),Inv X xB σ H s->t σ H Q->wpAny (model X.prog X.w) X.A (spliced (backTo pos (starEach es X.env))) (AP X xB σ Q) X.xe s
def PS(X:Cx)(st:Stmt)(t:TS):Prop :=
 ∀(xB:xr) (s:xZ) (σ:St) (H:Hp) (D:Ends),Inv X xB σ H s->t D σ H->wpAny (model X.prog X.w) X.A (exec st X.env) (SP X xB D) X.xe s
def PSs(X:Cx)(st:List Stmt)(t:TS):Prop :=
 ∀(xB:xr) (s:xZ) (σ:St) (H:Hp) (D:Ends),Inv X xB σ H s->t D σ H->wpAny (model X.prog X.w) X.A (execs st X.env) (SP X xB D) X.xe s
def thn{α:Type}{t:Sem α}{Q Q':α->xZ->Prop}{M:Model}{E:xp}(h:wpAny M A t Q E s)(hQ:∀a s,Q a s->Q' a s):wpAny M A t Q' E s:=qQ h hQ λ_ _ x=>x
section
variable {X:Cx}
def bin{a b:Expr}{ta tb:TE}(ha:PE X a ta)(hb:PE X b tb){xB:xr}{s:xZ}{σ:St}{H:Hp}{R:V->V->Hp->Prop}(I:Inv X xB σ H s)(h:ta σ H λx H1=>tb σ H1 λy H2=>R x y H2)
 {α:Type}{Q:α->xZ->Prop}{f:xY->xY->Sem α}
 (hf:∀v u s2 x y H2,Inv X xB σ H2 s2->RelV x v->RelV y u->R x y H2->wpAny (model X.prog X.w) X.A (f v u) Q X.xe s2) :
 wpAny (model X.prog X.w) X.A (eval a X.env) (λv s₁=>wpAny (model X.prog X.w) X.A (eval b X.env) (λu s₂=>wpAny (model X.prog X.w) X.A (f v u) Q X.xe s₂) X.xe s₁) X.xe s:=by
 refine thn (ha xB s σ H _ I h) λv s1 fv=>?_;obtain⟨x,H1,I1,r1,q1⟩:=fv;refine thn (hb xB s1 σ H1 _ I1 q1) λu s2 fv=>?_;obtain⟨y,H2,I2,r2,q2⟩:=fv;exact hf v u s2 x y H2 I2 r1 r2 q2
def Ym(i:Nat):TE:=λσ H Q=>∃v,σ[i]? = some (some v)/\Q v H
def tC(v:V):TE:=λ_ H Q=>Q v H
def tN{i:Nat}{x:Str}{pos:Pos}(hN:X.N[i]? = some x)(hv:Vis X.env.scope x)(hd:(x == ("__debug__" : Str))=false:=by decide)(hcd:(x == ("__classdict__" : Str))=false:=by decide):PE X (.Name x pos) (Ym i):=by
 intro xB s σ H Q I h;obtain⟨v,e,h⟩:=h;obtain⟨m,hn,hl⟩:=I.loc;obtain⟨u,r,l⟩:=hl i x v hN e hv;have fin:EP X xB σ Q u s:=⟨v,H,I,r,h⟩;rcases l with ⟨hk,hm⟩ | ⟨hk,c,hc,hcell⟩
 . exact wpAny_Name (wpAny_loadName_local I.ok.kind hk hn hm fin) hd
 . rcases hk with hk | hk
   . exact wpAny_Name (wpAny_loadName_cell I.ok.kind hk hc hcell fin) hd
   . exact wpAny_Name (wpAny_loadName_free I.ok.kind hk hc hcell fin hcd) hd
def J5:PE X (.Constant (.int i) j pos) (tC (.int i)):=λ_ _ _ H _ I h=>wpAny_Constant_int ⟨.int i,H,I.tok _,⟨_,rfl⟩,h⟩
def ir:PE X (.Constant (.bool b) j pos) (tC (.bl b)):=λ_ _ _ H _ I h=>Constant_bool ⟨.bl b,H,I,rfl,h⟩
def Jl:PE X (.Constant (.str x) j pos) (tC (.str x)):=λ_ _ _ H _ I h=>Calls.Constant_str ⟨.str x,H,I.tok _,⟨_,rfl⟩,h⟩
def Gl(X:Cx)(x:Str):Prop:=X.env.kindOf x=some .globalImplicit
def dm{E:xp}{xB:xr}{s:xZ}{σ:St}{H:Hp}{x:Str}{u:xY}{pos:Pos}{Q:xp}(I:Inv X xB σ H s)(hg:Gl X x)(hm:X.mg x=some u)(h:Q u s)
 (hd:(x == ("__debug__" : Str))=false:=by decide):wpAny (model X.prog X.w) X.A (eval (.Name x pos) X.env) Q E s :=
 Calls.Name_function_global I.ok.kind hg (Calls.loadGlobal_global (by rw[I.ok.glob];exact I.mod.glob.keeps I.bk) hm h) hd
def QB{E:xp}{xB:xr}{s:xZ}{σ:St}{H:Hp}{x:Str}{u:xY}{pos:Pos}{Q:xp}(I:Inv X xB σ H s)(hg:Gl X x)(hm:X.mg x=none)(hv:bootBuiltins x=some u)(h:Q u s)
 (hn:x ≠ "__name__" := by decide) (hd:(x == ("__debug__" : Str))=false:=by decide):wpAny (model X.prog X.w) X.A (eval (.Name x pos) X.env) Q E s:=by
 obtain⟨mb,h1,h2⟩:=I.mod.blt;exact Calls.Name_function_global I.ok.kind hg (Calls.loadGlobal_builtin (by rw[I.ok.glob];exact I.mod.glob.keeps I.bk) hm (by rw[I.ok.blt];exact h1.keeps I.bk) ((h2 x hn).trans hv) h) hd
def iu{x:Str}{v:V}{pos:Pos}(hg:Gl X x)(hm:X.mg x=none)(hv:bootBuiltins x=some u)(r:RelV v u)(hn:x ≠ "__name__" := by decide)(hd:(x == ("__debug__" : Str))=false:=by decide):PE X (.Name x pos) (tC v) :=
 λ_ _ _ H _ I h=>QB I hg hm hv ⟨v,H,I,r,h⟩ hn hd
variable {a b:Expr}{ta tb:TE}{pos:Pos}
def tB(t:TE):TT:=λσ H Q=>t σ H λx H1=>∃c,x = .bl c/\Q c H1
def av(h:PE X e t)(he:∀whole,isTrue e X.env whole=(do let v <- whole;standAt e.pos;holding [v] (truthy v)):=by intro _;rfl):PT X e (tB t):=by
 intro xB s σ H Q I hw;refine isTrue_plain (thn (h xB s σ H _ I hw) λv s1 fv=>?_) (he _);obtain⟨x,H1,I1,r1,q1⟩:=fv;obtain⟨d,rfl,q⟩:=q1
 cases r1
 exact wpAny_truthy_bool ⟨H1,I1,q⟩
variable {tA tB':TT}{xG:List Expr}
def tO(t u:TT):TT:=λσ H Q=>t σ H λc H1=>if c=true then u σ H1 Q else Q false H1
def tOr(t u:TT):TT:=λσ H Q=>t σ H λc H1=>if c=true then Q true H1 else u σ H1 Q
def tP(t:TT):TT:=λσ H Q=>t σ H λc H1=>Q (!c) H1
def tQ(ha:PT X a tA):PW X (.BoolOp .And [a] pos) tA:=by
 intro wh xB s σ H Q I h;refine isTrue_and (thn (ha xB s σ H Q I h) λc s1 e=>?_)
 cases c with
 | true=>exact isTrue_and_nil e
 | false=>exact e
def tR(ha:PT X a tA):PW X (.BoolOp .Or [a] pos) tA:=by
 intro wh xB s σ H Q I h;refine isTrue_or (thn (ha xB s σ H Q I h) λc s1 e=>?_)
 cases c with
 | false=>exact isTrue_or_nil e
 | true=>exact e
def tU(ha:PT X a tA)(hb:PW X (.BoolOp .And (b :: xG) pos) tB'):PW X (.BoolOp .And (a :: b :: xG) pos) (tO tA tB'):=by
 intro wh xB s σ H Q I h;refine isTrue_and (thn (ha xB s σ H _ I h) λc s1 ⟨H1,I1,q1⟩=>?_)
 cases c with
 | true=>exact hb wh xB s1 σ H1 Q I1 q1
 | false=>exact⟨H1,I1,q1⟩
def tV(ha:PT X a tA)(hb:PW X (.BoolOp .Or (b :: xG) pos) tB'):PW X (.BoolOp .Or (a :: b :: xG) pos) (tOr tA tB'):=by
 intro wh xB s σ H Q I h;refine isTrue_or (thn (ha xB s σ H _ I h) λc s1 ⟨H1,I1,q1⟩=>?_)
 cases c with
 | true=>exact⟨H1,I1,q1⟩
 | false=>exact hb wh xB s1 σ H1 Q I1 q1
def du(ha:PT X a tA):PT X (.UnaryOp .Not a pos) (tP tA):=by
 intro xB s σ H Q I h;exact isTrue_not (ha xB s σ H (λc H1=>Q (!c) H1) I h)
def tW(ta tb:TE):TE:=λσ H Q=>ta σ H λx H1=>∃c,x = .bl c/\if c=true then tb σ H1 Q else Q (.bl false) H1
def tX(ta tb:TE):TE:=λσ H Q=>ta σ H λx H1=>∃c,x = .bl c/\if c=true then Q (.bl true) H1 else tb σ H1 Q
def tY(ta:TE):TE:=λσ H Q=>ta σ H λx H1=>∃c,x = .bl c/\Q (.bl (!c)) H1
def dA(h:PE X a t):PE X (.BoolOp op [a] pos) t:=λxB s σ H Q I hw=>BoolOp_one (h xB s σ H Q I hw)
def iw(ha:PE X a ta)(hb:PE X (.BoolOp .And (b :: xG) pos) tb):PE X (.BoolOp .And (a :: b :: xG) pos) (tW ta tb):=by
 intro xB s σ H Q I h;refine BoolOp_and (thn (ha xB s σ H _ I h) λv s1 fv=>?_);obtain⟨x,H1,I1,r1,q1⟩:=fv;obtain⟨c,rfl,q1⟩:=q1
 cases r1
 refine wpAny_truthy_bool ?_
 cases c with
 | true=>exact hb xB s1 σ H1 Q I1 q1
 | false=>exact⟨.bl false,H1,I1,rfl,q1⟩
def tZ(ha:PE X a ta)(hb:PE X (.BoolOp .Or (b :: xG) pos) tb):PE X (.BoolOp .Or (a :: b :: xG) pos) (tX ta tb):=by
 intro xB s σ H Q I h;refine BoolOp_or (thn (ha xB s σ H _ I h) λv s1 fv=>?_);obtain⟨x,H1,I1,r1,q1⟩:=fv;obtain⟨c,rfl,q1⟩:=q1
 cases r1
 refine wpAny_truthy_bool ?_
 cases c with
 | false=>exact hb xB s1 σ H1 Q I1 q1
 | true=>exact⟨.bl true,H1,I1,rfl,q1⟩
def u5(ha:PE X a ta):PE X (.UnaryOp .Not a pos) (tY ta):=by
 intro xB s σ H Q I h;refine UnaryOp_ (thn (ha xB s σ H _ I h) λv s1 fv=>?_);obtain⟨x,H1,I1,r1,q1⟩:=fv;obtain⟨c,rfl,q1⟩:=q1
 cases r1
 exact not_of (wpAny_truthy_bool ⟨.bl (!c),H1,I1,rfl,q1⟩)
def tIf(t:TT)(ta tb:TE):TE:=λσ H Q=>t σ H λc H1=>if c=true then ta σ H1 Q else tb σ H1 Q
def Yn(hc:PT X c tA)(ha:PE X a ta)(hb:PE X b tb):PE X (.IfExp c a b pos) (tIf tA ta tb):=by
 intro xB s σ H Q I h;refine wpAny_IfExp (thn (hc xB s σ H _ I h) λd s1 ⟨H1,I1,q1⟩=>?_)
 cases d with
 | true=>exact ha xB s1 σ H1 Q I1 q1
 | false=>exact hb xB s1 σ H1 Q I1 q1
end
def SqL(K:xt)(H:Hp)(a:J0)(xs:List V):Prop :=
 Rd H a (.lst xs) \/
  ∃(o:Obj) (its:xw) (n:Nat),K.lookup a=some o/\o.cls = .type "list" /\ o.dict=none/\o.data = .seq its n/\its.size<=sizeLine/\Vals xs its.toList
def SqT(K:xt)(H:Hp)(a:J0)(xs:List V):Prop :=
 Rd H a (.tup xs) \/
  ∃(o:Obj) (its:xw) (n:Nat),K.lookup a=some o/\o.cls = .type "tuple" /\ o.data = .seq its n/\its.size<=sizeLine/\Vals xs its.toList
def u6:xY->Option V
 | .none=>some .non
 | .bool b=>some (.bl b)
 | .int i _=>some (.int i)
 | .str x _=>some (.str x)
 | .bytes b _=>some (.byt b)
 | .float b _=>some (.flt b)
 | .ref a=>some (.ref a)
 | .type n=>some (.ty n)
 | _=>none
def RelV.abs(r:RelV x u):u6 u=some x:=by
 cases x with
 | non=>cases r;rfl
 | bl _=>cases r;rfl
 | int _=>obtain⟨t,rfl⟩:=r;rfl
 | str _=>obtain⟨t,rfl⟩:=r;rfl
 | byt _=>obtain⟨t,rfl⟩:=r;rfl
 | flt _=>obtain⟨t,rfl⟩:=r;rfl
 | ref _=>cases r;rfl
 | ty _=>cases r;rfl
theorem RelV.inj(r:RelV x u)(q:RelV y u):x=y:=Option.some.inj (r.abs.symm.trans q.abs)
theorem Vals.inj:∀{xs ys:List V}{us:xx},Vals xs us->Vals ys us->xs=ys
 | _,_,_,.nil,.nil=>rfl
 | _,_,_,.cons r t,.cons r' t'=>by rw[r.inj r',Vals.inj t t']
section
variable {X:Cx}{xB:xr}{σ:St}{H:Hp}{s:xZ}{a:J0}{xs ys:List V}
def SqL.of{K:xt}(h:H a=some (.lst xs)):SqL K H a xs := .inl (.inl h)
def SqT.of{K:xt}(h:H a=some (.tup xs)):SqT K H a xs := .inl (.inl h)
def Inv.list(I:Inv X xB σ H s)(h:SqL X.K H a xs):∃its:xx,Vals xs its/\PlainL s.heap a its.toArray/\xs.length<=sizeLine:=by
 rcases h with h | ⟨o,its,n,hk,hc,hd,hs,hz,r⟩
 . obtain⟨z,its,n,r,e⟩:=h.ok I.hok;exact⟨its,r,⟨_,n,e,rfl,rfl,rfl⟩,z⟩
 . refine⟨its.toList,r,⟨o,n,I.kIn a o hk,hc,hd,by simpa using hs⟩,?_⟩;have e:=r.length;simp only[jU]at e;omega
def Inv.tuple(I:Inv X xB σ H s)(h:SqT X.K H a xs):∃its:xx,Vals xs its/\IsTup s.heap a its.toArray/\xs.length<=sizeLine:=by
 rcases h with h | ⟨o,its,n,hk,hc,hs,hz,r⟩
 . obtain⟨z,its,r,p⟩:=h.ok I.hok;exact⟨its,r,p,z⟩
 . refine⟨its.toList,r,⟨o,I.kIn a o hk,hc,n,by simpa using hs⟩,?_⟩;have e:=r.length;simp only[jU]at e;omega
def Inv.list_inj(I:Inv X xB σ H s)(h:SqL X.K H a xs)(h':SqL X.K H a ys):xs=ys:=by
 obtain⟨its,r,⟨o,n,e,_,_,d⟩,_⟩:=I.list h;obtain⟨its',r',⟨o',n',e',_,_,d'⟩,_⟩:=I.list h';rw[e]at e';cases e';rw[d]at d';injection d' with d1 _
 have:its=its':=by simpa using qP Array.toList d1
 subst this;exact r.inj r'
def Inv.tuple_inj(I:Inv X xB σ H s)(h:SqT X.K H a xs)(h':SqT X.K H a ys):xs=ys:=by
 obtain⟨its,r,⟨o,e,_,n,d⟩,_⟩:=I.tuple h;obtain⟨its',r',⟨o',e',_,n',d'⟩,_⟩:=I.tuple h';rw[e]at e';cases e';rw[d]at d';injection d' with d1 _
 have:its=its':=by simpa using qP Array.toList d1
 subst this;exact r.inj r'
end
abbrev Cx.wish(X:Cx)(E:xp):Cx:={ X with xe:=E }
abbrev Cx.nox(X:Cx):Cx:=X.wish λ_ _=>False
theorem Cx.Ok.wish{X:Cx}(ok:X.Ok)(E:xp):(X.wish E).Ok :=
 ⟨ok.mod,ok.kind,ok.glob,ok.blt,ok.above,ok.inj,ok.has,ok.cab,ok.hd,ok.frames,ok.stk,ok.exf,ok.bs,ok.bsz,ok.noex,ok.exfs,ok.funs,ok.frf⟩
def Cx.Ok.unwish{X:Cx}{E:xp}(ok:(X.wish E).Ok):X.Ok :=
 ⟨ok.mod,ok.kind,ok.glob,ok.blt,ok.above,ok.inj,ok.has,ok.cab,ok.hd,ok.frames,ok.stk,ok.exf,ok.bs,ok.bsz,ok.noex,ok.exfs,ok.funs,ok.frf⟩
section
variable {X:Cx}{xB:xr}{σ:St}{H:Hp}{s:xZ}{E:xp}
theorem Inv.wish(I:Inv X xB σ H s)(E:xp):Inv (X.wish E) xB σ H s:=⟨I.ok.wish E,I.os,I.bare,I.base,I.loc,I.cell,I.free,I.freeC,I.pin,I.hok,I.len⟩
theorem Inv.unwish(I:Inv (X.wish E) xB σ H s):Inv X xB σ H s:=⟨I.ok.unwish,I.os,I.bare,I.base,I.loc,I.cell,I.free,I.freeC,I.pin,I.hok,I.len⟩
theorem SP.unwish(h:SP (X.wish E) xB D f s'):SP X xB D f s':=by
 cases f with
 | next=>obtain⟨xE,H',I,q⟩:=h;exact⟨xE,H',I.unwish,q⟩
 | brk=>obtain⟨xE,H',I,q⟩:=h;exact⟨xE,H',I.unwish,q⟩
 | cont=>obtain⟨xE,H',I,q⟩:=h;exact⟨xE,H',I.unwish,q⟩
 | ret u=>obtain⟨v,xE,H',I,r,q⟩:=h;exact⟨v,xE,H',I.unwish,r,q⟩
theorem PSs.nox{st:List Stmt}{t:TS}(h:PSs X.nox st t):PSs X st t:=λxB s σ H D I hw =>
 qQ (h xB s σ H D (I.wish _) hw) (λ_ _ q=>q.unwish) λ_ _ z=>False.elim z
end
section
variable {X:Cx}{st:Stmt}{xG:List Stmt}{t u:TS}{e:Expr}{te:TE}{pos:Pos}
def iy:TS:=λD σ H=>D.nx σ H
def XI(t u:TS):TS:=λD σ H=>t { D with nx:=u D } σ H
def Ju:PSs X [] iy:=λ_ _ σ H _ I h=>wpAny_execs_nil ⟨σ,H,I,h⟩
def J7(h1:PS X st t)(h2:PSs X xG u):PSs X (st :: xG) (XI t u):=by
 intro xB s σ H D I h;refine wpAny_execs_cons (thn (h1 xB s σ H { D with nx:=u D } I h) λf s1 q=>?_)
 cases f with
 | next =>
  obtain⟨xE,H',I',q⟩:=q;exact h2 xB s1 xE H' D I' q
 | ret v=>exact q
 | brk=>exact q
 | cont=>exact q
def Jc(h1:PS X st t):PSs X [st] t:=by
 intro xB s σ H D I h;refine wpAny_execs_cons (thn (h1 xB s σ H D I h) λf s1 q=>?_)
 cases f with
 | next=>exact wpAny_execs_nil q
 | ret v=>exact q
 | brk=>exact q
 | cont=>exact q
def Inv.quiet{xB:xr}{σ:St}{H:Hp}{s:xZ}(I:Inv X xB σ H s):interactive X.env=false:=by simp[interactive,I.ok.kind]
def iz(te:TE):TS:=λD σ H=>te σ H λ_ H1=>D.nx σ H1
def Qa(he:PE X e te)(hs:swapsWith e none pos.line X.env=pure false:=by rfl):PS X (.Expr e pos) (iz te):=by
 intro xB s σ H D I h;exact wpAny_Expr_any (thn (he xB s σ H _ I h) λv s1 ⟨x,H1,I1,r1,q1⟩=>⟨σ,H1,I1,q1⟩) I.quiet hs
def dB(te:TE):TS:=λD σ H=>te σ H D.rt
def Ji(he:PE X e te):PS X (.Return (some e) pos) (dB te):=by
 intro xB s σ H D I h;exact wpAny_Return_some (thn (he xB s σ H _ I h) λv s1 ⟨x,H1,I1,r1,q1⟩=>⟨x,σ,H1,I1,r1,q1⟩)
def iA(c:TT)(t u:TS):TS:=λD σ H=>c σ H λb H1=>if b=true then t D σ H1 else u D σ H1
def Js(hc:PT X c tc)(ha:PSs X a t)(hb:PSs X b u):PS X (.If c a b pos) (iA tc t u):=by
 intro xB s σ H D I h;refine wpAny_If (thn (hc xB s σ H _ I h) λd s1 ⟨H1,I1,q1⟩=>?_)
 cases d with
 | true=>exact ha xB s1 σ H1 D I1 q1
 | false=>exact hb xB s1 σ H1 D I1 q1
def u8:TS:=λ_ _ _=>False
def iB:PS X st u8:=λ_ _ _ _ _ _ h=>h.elim
end
abbrev TG:=V->St->Hp->(St->Hp->Prop)->Prop
abbrev TGs:=List V->St->Hp->(St->Hp->Prop)->Prop
def PG(X:Cx)(target:Expr)(t:TG):Prop :=
 ∀(xB:xr) (s:xZ) (σ:St) (H:Hp) (v:V) (u:xY) (Q:St->Hp->Prop),Inv X xB σ H s->RelV v u->t v σ H Q ->
  wpAny (model X.prog X.w) X.A (assign target X.env u) (λ_ s'=>∃xE H',Inv X xB xE H' s'/\Q xE H') X.xe s
def PGs(X:Cx)(ts:List Expr)(t:TGs):Prop :=
 ∀(xB:xr) (s:xZ) (σ:St) (H:Hp) (vs:List V) (us:xx) (Q:St->Hp->Prop),Inv X xB σ H s->Vals vs us->t vs σ H Q ->
  wpAny (model X.prog X.w) X.A (assignInOrder ((assignEach ts X.env).map (·.2)) us) (λ_ s'=>∃xE H',Inv X xB xE H' s'/\Q xE H') X.xe s
section
variable {X:Cx}{pos:Pos}
def Jm(i:Nat):TG:=λv σ H Q=>Q (σ.set i (some v)) H
def JD(hN:X.N.Nodup)(hi:X.N[i]? = some x)(hx:Loc X.env.scope x)(hf:X.fn x=true\/X.env.scope.names.lookup x=some .local:=by first | exact .inl rfl | exact .inr rfl | assumption):PG X (.Name x pos) (Jm i):=by
 intro xB s σ H v u Q I r h;exact wpAny_assign_Name (au I hN hi hx r (λs' I'=>⟨_,H,I',h⟩) hf)
def u9:TGs:=λvs σ H Q=>vs=[]/\Q σ H
def ua(t:TG)(u:TGs):TGs:=λvs σ H Q=>∃v r,vs=v :: r/\t v σ H λxE H'=>u r xE H' Q
def QY:PGs X [] u9:=by
 intro xB s σ H vs us Q I r h;obtain⟨e,h⟩:=h;subst e
 cases r
 exact assignInOrder_nil ⟨σ,H,I,h⟩
def JZ(h1:PG X e t)(h2:PGs X es u)
 (hs:(assignEach (e :: es) X.env).map (·.2)=assign e X.env :: (assignEach es X.env).map (·.2):=by rfl):PGs X (e :: es) (ua t u):=by
 intro xB s σ H vs us Q I r h;obtain⟨v,vr,e1,h⟩:=h;subst e1
 cases r with
 | cons r rr =>
  rw[hs];refine assignInOrder_cons (thn (h1 xB s σ H _ _ _ I r h) λ_ s1 ⟨σ1,H1,I1,q1⟩=>?_);exact h2 xB s1 σ1 H1 _ _ Q I1 rr q1
def ub(K:xt)(n:Nat)(t:TGs):TG:=λv σ H Q=>∃a xs,v = .ref a/\SqT K H a xs/\xs.length=n/\t xs σ H Q
def QZ{k:Nat}{n:Nat}(hc:X.calm=true)(h:PGs X es t)
 (hn:(assignEach es X.env).length=n:=by rfl) (xX:(assignEach es X.env).findIdx? (·.1)=none:=by rfl):PG X (.Tuple es k pos) (ub X.K n t):=by
 intro xB s σ H v u Q I r hw;obtain⟨a,xs,e1,hq,hl,hw⟩:=hw;subst e1
 cases r
 obtain⟨its,rv,ht,hz⟩:=I.tuple hq;refine assign_Tuple_tuple (I.ok.hd hc) ht (by simp[hn,<- hl,rv.length]) xX λh' hx=>?_;have I1:Inv X xB σ H { s with heap:=h' }:=I.kept (t':=s.toks) λb o e=>hx b o (jQ (jG e)) e;exact h xB _ σ H xs _ Q I1 (by simpa using rv) hw
def X0(te:TE)(g:TG):TS:=λD σ H=>te σ H λx H1=>g x σ H1 D.nx
def uc(he:PE X e te)(hg:PG X tg g)(hs:swapsWithSole [tg] e pos.line X.env=pure false:=by rfl)(hw:swappedStores [tg] e X.env=pure none:=by rfl)
 (h1:(assignEach [tg] X.env).map (·.2)=[assign tg X.env]:=by rfl):PS X (.Assign [tg] e pos) (X0 te g):=by
 intro xB s σ H D I h;refine wpAny_Assign_stores (thn (he xB s σ H _ I h) λv s1 fv=>?_) hs hw;obtain⟨x,H1,I1,r1,q1⟩:=fv;rw[h1];exact thn (hg xB s1 σ H1 x v _ I1 r1 q1) λ_ s2 q=>q
def Jg(hN:X.N.Nodup)(hi:X.N[i]? = some x)(hx:Loc X.env.scope x)(he:PE X e te)(hs:swapsWith e (some (.Name x pos')) pos.line X.env=pure false:=by rfl)(hf:X.fn x=true\/X.env.scope.names.lookup x=some .local:=by first | exact .inl rfl | exact .inr rfl | assumption) :
 PS X (.Assign [.Name x pos'] e pos) (X0 te (Jm i)):=by
 intro xB s σ H D I h;refine wpAny_Assign_Name (thn (he xB s σ H _ I h) λv s1 fv=>?_) hs;obtain⟨y,H1,I1,r1,q1⟩:=fv;exact au I1 hN hi hx r1 (λs2 I2=>⟨_,H1,I2,q1⟩) hf
def ud(i j:Nat)(ta:TA):TS:=λD σ H=>ta σ H λvs H1=>∃v w,vs=[v,w]/\D.nx ((σ.set i (some v)).set j (some w)) H1
def ue(hc:X.calm=true)(hN:X.N.Nodup)(hi:X.N[i]? = some x)(hj:X.N[j]? = some y)(xK:i≠j)
 (hx:X.env.scope.names.lookup x=some .local) (hy:X.env.scope.names.lookup y=some .local) (ha:PA X [a,b] ta)
 (hw:swappedStores [.Tuple [.Name x px,.Name y py] kt pt] (.Tuple [a,b] k2 pt2) X.env=pure (some [x,y]))
 (hs:swapsWithSole [.Tuple [.Name x px,.Name y py] kt pt] (.Tuple [a,b] k2 pt2) pos.line X.env=pure false:=by rfl) :
 PS X (.Assign [.Tuple [.Name x px,.Name y py] kt pt] (.Tuple [a,b] k2 pt2) pos) (ud i j ta):=by
 intro xB s σ H D I h;rw[exec_Assign_arm];refine q8 (wpAny_standAt ?_);rw[hs];refine q8 (qf ?_);rw[qg 'f'];refine q8 (Tuple_ (thn (ha _ xB s σ H _ I h) λus s1 fv=>?_));obtain⟨vs,H1,I1,r1,q1⟩:=fv;obtain⟨v,w,e1,q1⟩:=q1;subst e1
 obtain⟨u1,u2,rfl,rv,rw'⟩:∃u1 u2,us=[u1,u2]/\RelV v u1/\RelV w u2:=by
  cases r1 with
  | cons p q =>
   cases q with
   | cons p' q' =>
    cases q'
    exact⟨_,_,rfl,p,p'⟩
 refine qw ?_ (by show 2<=sizeLine;decide);have I2:Inv X xB σ H1 { s1 with heap:=s1.heap.push { cls := .type "tuple",data := .seq [u1,u2].toArray } }:=I1.kept (t':=s1.toks) λb o e=>jB _ e;rw[hw];refine q8 (qf ?_);show wpAny (model X.prog X.w) X.A (do rule "assign.swapped-stores";let items <- unpackItems (.ref s1.heap.objs.size) 2 none;assignInOrder [λv=>bindName X.env y v,λv=>bindName X.env x v] items.reverse;pure Flow.next) _ _ _;refine q8 (x9 (q8 (unpackItems_tuple (items:=#[u1,u2]) (I.ok.hd hc) (IsTup.new s1.heap _) λh' hx'=>?_)));have I3:=I2.kept (h':=h') (t':=s1.toks) λb o e=>hx' b o (jQ (jG e)) e;show wpAny _ _ (assignInOrder [λv=>bindName X.env y v,λv=>bindName X.env x v] [u2,u1] >>= λ_=>pure Flow.next) _ _ _;refine q8 (assignInOrder_cons (wpAny_bindName (au I3 hN hj (.inl hy) rw' (λs2 I4=>?_) (.inr hy))));refine assignInOrder_cons (wpAny_bindName (au I4 hN hi (.inl hx) rv (λs3 I5=>assignInOrder_nil (qf ?_)) (.inr hx)));rw[List.set_comm _ _ (Ne.symm xK)]at I5;exact⟨_,H1,I5,q1⟩
end
section
variable {X:Cx}{pos:Pos}
def iC(c:TT)(tb:TS):TS:=λD σ H=>∃W:Nat->St->Hp->Prop,(∃m,W m σ H)/\∀m σ H,W m σ H ->
 c σ H λb H1=>if b=true then ∃N:St->Hp->Prop,(∀xE H',N xE H'->∃m',m' < m/\W m' xE H')/\tb { D with nx:=N,ct:=N,bk:=D.nx } σ H1 else D.nx σ H1
def iD(hp:PassesOwn (model X.prog X.w) X.A X.env X.xe)(hc:PT X c tc)(hb:PSs X body tb):PS X (.While c body [] pos) (iC tc tb):=by
 intro xB s σ H D I h;obtain⟨W,⟨m0,w0⟩,turn⟩:=h;refine wpAny_While (codeAny_whileLoop (λn s'=>∃xE H',Inv X xB xE H' s'/\W n xE H') ?_ m0 ⟨σ,H,I,w0⟩);rintro n s1 ⟨σ1,H1,I1,w1⟩;refine xg hp (thn (hc xB s1 σ1 H1 _ I1 (turn n σ1 H1 w1)) λb s2 ⟨H2,I2,q2⟩=>?_)
 cases b with
 | true =>
  obtain⟨N,hN,q2⟩:=q2;rw[qh rfl];refine xg hp (thn (hb xB s2 σ1 H2 _ I2 q2) λf s3 q3=>?_)
  cases f with
  | next =>
   obtain⟨σ3,H3,I3,n3⟩:=q3;obtain⟨m',hm,w3⟩:=hN σ3 H3 n3;exact⟨m',hm,σ3,H3,I3,w3⟩
  | cont =>
   obtain⟨σ3,H3,I3,n3⟩:=q3;obtain⟨m',hm,w3⟩:=hN σ3 H3 n3;exact⟨m',hm,σ3,H3,I3,w3⟩
  | brk=>exact q3
  | ret v=>exact q3
 | false =>
  rw[qg jR];exact wpAny_execs_nil ⟨σ1,H2,I2,q2⟩
end
structure It where
 go:Nat->Hp->Prop
 yld:Nat->Hp->V->Hp->Prop
 stop:Nat->Hp->Prop
def FpOk(X:Cx)(xB:xr)(H:Hp)(b:J0):Prop :=
 H b=none/\b≠X.env.locals/\b∉X.fs/\(b∈X.ex\/X.s₀.heap.objs.size<=b)/\(∀x c,X.env.cells.lookup x=some c->c≠b)/\∀p∈X.pn ++ xB,p.1≠b
def Inv.fpOk{X:Cx}{xB:xr}{σ:St}{H H':Hp}{s:xZ}{b:J0}(I:Inv X xB σ H s)(hb:s.heap.objs.size<=b)(hn:H' b=none):FpOk X xB H' b:=by
 refine⟨hn,jn (jc I.lt hb),I.nofs hb,.inr (jh I.sz hb),λx c e z=>?_,λp hp z=>?_⟩
 . obtain⟨v,q⟩:=I.cell x c e;exact absurd (jc q.lt (by rw[z];exact hb)) (j7 _)
 . exact absurd (jc (jG (I.pin p hp).1) (by rw[z];exact hb)) (j7 _)
structure Turn (P:J1) (w:J2) (K:xt) (tg:Expr) (J:It) (fp:List J0) (it:J0) (tn:Nat->Heap->Prop):Prop where
 mem:it∈fp
 obj:∀i h,tn i h->∀b∈fp,∃o,h.get? b=some o/\∀v,o.data ≠ .cell v
 keep:∀i h h',tn i h->(∀b∈fp,∀o,h.get? b=some o->h'.get? b=some o)->tn i h'
 item:∀(X:Cx),X.prog=P->X.w=w->X.K=K->X.calm=true->∀(i:Nat) (xB:xr) (s:xZ) (σ:St) (H:Hp) (E:xp),Inv X xB σ H s->(∀b∈fp,FpOk X xB H b)->tn i s.heap->J.go i H ->
  wpAny (model P w) X.A (pyNext (.ref it)) (λr s1=>∃u,r=some u /\
   wpAny (model P w) X.A (letOwnedTupleGo tg (.ref it) u) (λ_ s2=>∃x H',Inv X xB σ H' s2/\RelV x u/\J.yld i H x H'/\tn (i + 1) s2.heap/\∀b∈fp,H' b=none) E s1) E s
 done:∀(X:Cx),X.prog=P->X.w=w->X.K=K->X.calm=true->∀(i:Nat) (xB:xr) (s:xZ) (σ:St) (H:Hp) (E:xp),Inv X xB σ H s->(∀b∈fp,FpOk X xB H b)->tn i s.heap->J.stop i H ->
  wpAny (model P w) X.A (pyNext (.ref it)) (λr s1=>r=none/\Inv X xB σ H s1) E s
 self:∀(A:J3) (i:Nat) (s:xZ) (Q:xp) (E:xp),tn i s.heap->Q (.ref it) s->wpAny (model P w) A (pyIter (.ref it)) Q E s
abbrev TI:=St->Hp->(It->Hp->Prop)->Prop
def PIE(X:Cx)(xB:xr)(σ:St)(tg:Expr)(R:It->Hp->Prop)(itv:xY)(s2:xZ):Prop :=
 ∃(it:J0) (fp:List J0) (tn:Nat->Heap->Prop) (J:It) (H':Hp),itv = .ref it/\Inv X xB σ H' s2/\Turn X.prog X.w X.K tg J fp it tn/\tn 0 s2.heap/\(∀b∈fp,FpOk X xB H' b)/\R J H'
def PI(X:Cx)(tg iter:Expr)(wi:TI):Prop :=
 ∀(xB:xr) (s:xZ) (σ:St) (H:Hp) (R:It->Hp->Prop),Inv X xB σ H s->wi σ H R ->
  wpAny (model X.prog X.w) X.A (eval iter X.env) (λv s1=>wpAny (model X.prog X.w) X.A (pyIter v) (PIE X xB σ tg R) X.xe s1) X.xe s
def dC(ho:s.heap.get? it=some o)(hc:o.cls = .type n)(hd:o.data = .fields vs)
 (hn:["enumerate", "zip", "dict_itemiterator", "dict_reverseitemiterator", "odict_iterator", "itertools.zip_longest", "itertools.pairwise"].contains n=false) (hQ:Q () s):wpAny M A (letOwnedTupleGo tg (.ref it) u) Q E s:=by
 unfold letOwnedTupleGo
 cases tg<;>first
  | exact qf hQ
  | (cases u<;>first
   | exact qf hQ
   | (refine q8 (wpAny_load ho ?_)
      rw[hc,hd];show wpAny M A (if (["enumerate", "zip", "dict_itemiterator", "dict_reverseitemiterator", "odict_iterator", "itertools.zip_longest", "itertools.pairwise"].contains n && vs[0]? == some (rawInt _))=true then _ else _) Q E s;rw[qg (by intro h;rw[hn,Bool.false_and]at h;cases h)];exact qf hQ))
def Itl(K:xt)(a:J0):It :=
 ⟨λi H=>∃xs x,SqL K H a xs/\xs[i]? = some x,λi H x H'=>H'=H/\∀xs,SqL K H a xs->xs[i]? = some x,λi H=>∃xs,SqL K H a xs/\xs.length<=i⟩
def Itt(K:xt)(a:J0):It :=
 ⟨λi H=>∃xs x,SqT K H a xs/\xs[i]? = some x,λi H x H'=>H'=H/\∀xs,SqT K H a xs->xs[i]? = some x,λi H=>∃xs,SqT K H a xs/\xs.length<=i⟩
def Itr(lo:Int)(n:Nat):It:=⟨λi _=>i < n,λi H x H'=>H'=H/\x = .int (lo + i),λi _=>n<=i⟩
theorem iE{P:J1}{w:J2}{K:xt}{tg:Expr}(a it:J0):Turn P w K tg (Itl K a) [it] it (λi h=>h.IsListIter it a i) where
 mem:=by simp
 obj:=λi h st b hb=>by
  have e:b=it:=by simpa using hb
  subst e;obtain⟨o,e,c,d⟩:=st;exact⟨o,e,λv z=>by rw[d]at z;cases z⟩
 keep:=λi h h' st k=>st.at λo e=>k it 'j' o e
 item:=by
  intro X hP hw hK hc i xB s σ H E I hf st hg;subst hP hw hK;obtain⟨xs,x,hq,hx⟩:=hg;obtain⟨its,rv,p,hz⟩:=I.list hq;obtain⟨u,hu,ru⟩:=rv.get hx;obtain⟨f0,f1,f2,f3,f4,f5⟩:=hf it 'j';refine wpAny_pyNext_list_item st p.isList (x:=u) (by simpa using hu) λh' xC sb=>?_;have I1:Inv X xB σ H { s with heap:=h' }:=I.turned (t':=s.toks) (λb o hb e=>(sb.2 b hb).trans e) f0 f1 f3 f4 f5;obtain⟨o,e,c,d⟩:=id xC;exact⟨u,rfl,dC (s:={ s with heap:=h' }) e c d 'f' ⟨x,H,I1,ru,⟨rfl,λys hy=>by rw[I.list_inj hy hq];exact hx⟩,xC,λb hb=>(hf b hb).1⟩⟩
 done:=by
  intro X hP hw hK hc i xB s σ H E I hf st hg;subst hP hw hK;obtain⟨xs,hq,hx⟩:=hg;obtain⟨its,rv,p,hz⟩:=I.list hq;obtain⟨f0,f1,f2,f3,f4,f5⟩:=hf it 'j';have hl:=rv.length;exact wpAny_pyNext_list_end (I.ok.hd hc) st p.isList (by simp;omega) λh' eb=>⟨rfl,I.turned (t':=s.toks) (λb o hb e=>eb b o hb e) f0 f1 f3 f4 f5⟩
 self:=λ_ _ _ _ _ st h=>wpAny_pyIter_listiter st h
theorem iF{P:J1}{w:J2}{K:xt}{tg:Expr}(a it:J0):Turn P w K tg (Itt K a) [it] it (λi h=>h.IsTupleIter it a i) where
 mem:=by simp
 obj:=λi h st b hb=>by
  have e:b=it:=by simpa using hb
  subst e;obtain⟨o,e,c,d⟩:=st;exact⟨o,e,λv z=>by rw[d]at z;cases z⟩
 keep:=λi h h' st k=>st.at λo e=>k it 'j' o e
 item:=by
  intro X hP hw hK hc i xB s σ H E I hf st hg;subst hP hw hK;obtain⟨xs,x,hq,hx⟩:=hg;obtain⟨its,rv,p,hz⟩:=I.tuple hq;obtain⟨u,hu,ru⟩:=rv.get hx;obtain⟨f0,f1,f2,f3,f4,f5⟩:=hf it 'j';refine wpAny_pyNext_tuple_item st (show s.heap.IsTuple a its.toArray from p) (x:=u) (by simpa using hu) λh' xC sb=>?_;have I1:Inv X xB σ H { s with heap:=h' }:=I.turned (t':=s.toks) (λb o hb e=>(sb.2 b hb).trans e) f0 f1 f3 f4 f5;obtain⟨o,e,c,d⟩:=id xC;exact⟨u,rfl,dC (s:={ s with heap:=h' }) e c d 'f' ⟨x,H,I1,ru,⟨rfl,λys hy=>by rw[I.tuple_inj hy hq];exact hx⟩,xC,λb hb=>(hf b hb).1⟩⟩
 done:=by
  intro X hP hw hK hc i xB s σ H E I hf st hg;subst hP hw hK;obtain⟨xs,hq,hx⟩:=hg;obtain⟨its,rv,p,hz⟩:=I.tuple hq;obtain⟨f0,f1,f2,f3,f4,f5⟩:=hf it 'j';have hl:=rv.length;exact wpAny_pyNext_tuple_end (I.ok.hd hc) st (show s.heap.IsTuple a its.toArray from p) (by simp;omega) λh' eb=>⟨rfl,I.turned (t':=s.toks) (λb o hb e=>eb b o hb e) f0 f1 f3 f4 f5⟩
 self:=λ_ _ _ _ _ st h=>wpAny_pyIter_tupleiter st h
theorem uf{P:J1}{w:J2}{K:xt}{tg:Expr}(it:J0)(lo:Int)(n:Nat):Turn P w K tg (Itr lo n) [it] it (λi h=>IsRangeIter h it (lo + (i:Nat) * 1) ((n:Int) - (i:Nat)) 1) where
 mem:=by simp
 obj:=λi h st b hb=>by
  have e:b=it:=by simpa using hb
  subst e
  exact⟨_,st,λv z=>by
   have z':Data.fields _=Data.cell v:=z
   cases z'⟩
 keep:=λi h h' st k=>k it 'j' _ st
 item:=by
  intro X hP hw hK hc i xB s σ H E I hf st hg;subst hP hw hK;obtain⟨f0,f1,f2,f3,f4,f5⟩:=hf it 'j';have W:=Walks.range (prog:=X.prog) (w:=X.w) (I.ok.hd hc) it lo 1 n;refine W.item i s _ _ hg st λv h' tk hv xC kk=>?_;obtain⟨t,rfl⟩:=hv;have I1:Inv X xB σ H { s with heap:=h',toks:=tk }:=I.turned (λb o hb e=>kk b o (by simpa using hb) e) f0 f1 f3 f4 f5;refine⟨_,rfl,dC (s:={ s with heap:=h',toks:=tk }) (n := "range_iterator") xC rfl rfl 'f' ⟨.int (lo + i),H,I1,⟨t,?_⟩,⟨rfl,rfl⟩,xC,λb hb=>(hf b hb).1⟩⟩;rw[Int.mul_one]
 done:=by
  intro X hP hw hK hc i xB s σ H E I hf st hg;subst hP hw hK;obtain⟨f0,f1,f2,f3,f4,f5⟩:=hf it 'j';exact wpAny_pyNext_range_end (I.ok.hd hc) st (by have:n<=i:=hg;omega) λh' eb=>⟨rfl,I.turned (t':=s.toks) (λb o hb e=>eb b o hb e) f0 f1 f3 f4 f5⟩
 self:=λ_ _ _ _ _ st h=>wpAny_pyIter_rangeiter st h
section
variable {X:Cx}{tg:Expr}
def ug(K:xt)(tl:TE):TI:=λσ H R=>tl σ H λx H1=>∃a,x = .ref a/\(∃xs,SqL K H1 a xs)/\R (Itl K a) H1
def uh(K:xt)(tl:TE):TI:=λσ H R=>tl σ H λx H1=>∃a,x = .ref a/\(∃xs,SqT K H1 a xs)/\R (Itt K a) H1
def Qi(hl:PE X l tl):PI X tg l (ug X.K tl):=by
 intro xB s σ H R I h;refine thn (hl xB s σ H _ I h) λv s1 fv=>?_;obtain⟨x,H1,I1,r1,q1⟩:=fv;obtain⟨a,e,⟨xs,hq⟩,q⟩:=q1;subst e
 cases r1
 obtain⟨its,rv,p,hz⟩:=I1.list hq;refine wpAny_pyIter_list p.isList ?_;refine⟨s1.heap.objs.size,[s1.heap.objs.size],_,_,H1,rfl,I1.kept (t':=s1.toks) λb o e=>jB _ e,iE a _,⟨_,jK _ rfl,rfl,rfl⟩,λb hb=>?_,q⟩;have e:b=s1.heap.objs.size:=by simpa using hb
 subst e;exact I1.fpOk (jD _) (I1.hok.fresh (jD _))
def iG(hl:PE X l tl):PI X tg l (uh X.K tl):=by
 intro xB s σ H R I h;refine thn (hl xB s σ H _ I h) λv s1 fv=>?_;obtain⟨x,H1,I1,r1,q1⟩:=fv;obtain⟨a,e,⟨xs,hq⟩,q⟩:=q1;subst e
 cases r1
 obtain⟨its,rv,p,hz⟩:=I1.tuple hq;refine wpAny_pyIter_tuple (show s1.heap.IsTuple a its.toArray from p) ?_;refine⟨s1.heap.objs.size,[s1.heap.objs.size],_,_,H1,rfl,I1.kept (t':=s1.toks) λb o e=>jB _ e,iF a _,⟨_,jK _ rfl,rfl,rfl⟩,λb hb=>?_,q⟩;have e:b=s1.heap.objs.size:=by simpa using hb
 subst e;exact I1.fpOk (jD _) (I1.hok.fresh (jD _))
def ui{xB:xr}{σ:St}{H:Hp}{s:xZ}{R:It->Hp->Prop}{E:xp}{lo hi:Int}{t u v:Tok}{tk:Nat}(I:Inv X xB σ H s)(h1 : -(2 ^ 62)<=lo)(h2:lo < 2 ^ 62)(h3 : -(2 ^ 62)<=hi)(h4:hi < 2 ^ 62)
 (q:R (Itr lo (hi - lo).toNat) H):wpAny (model X.prog X.w) X.A (pyIter (.ref s.heap.objs.size)) (PIE X xB σ tg R) E { s with heap:=s.heap.push { cls := .type "range",data := .fields #[.int lo t,.int hi u,.int 1 v] },toks:=tk }:=by
 refine wpAny_pyIter_range (IsRange.new ..) (small_one h1 h2 h3 h4) ?_;have I1:Inv X xB σ H { s with heap:=s.heap.push { cls := .type "range",data := .fields #[.int lo t,.int hi u,.int 1 v] },toks:=tk }:=I.kept λb o e=>jB _ e
 refine⟨(s.heap.push { cls := .type "range",data := .fields #[.int lo t,.int hi u,.int 1 v] }).objs.size,[(s.heap.push { cls := .type "range",data := .fields #[.int lo t,.int hi u,.int 1 v] }).objs.size],_,_,H,rfl,
  I1.kept (t':=tk) λb o e=>jB _ e,uf _ lo (hi - lo).toNat,?_,λb hb=>?_,q⟩
 . have e1:lo + ((0:Nat):Int) * 1=lo:=by simp
   have e2:(((hi - lo).toNat:Nat):Int) - ((0:Nat):Int)=Builtin.Range.rangeSize lo hi 1:=by rw[rangeSize_one];split<;>omega
   show IsRangeIter _ _ (lo + ((0:Nat):Int) * 1) ((((hi - lo).toNat:Nat):Int) - ((0:Nat):Int)) 1;rw[e1,e2];exact jK _ rfl
 . have e:b=(s.heap.push { cls := .type "range",data := .fields #[.int lo t,.int hi u,.int 1 v] }).objs.size:=by simpa using hb
   subst e;exact I1.fpOk (jD _) (I1.hok.fresh (jD _))
def uj(ta:TA):TI:=λσ H R=>ta σ H λvs H1=>∃j:Int,vs=[.int j] /\ -(2 ^ 62)<=j/\j < 2 ^ 62/\R (Itr 0 j.toNat) H1
def XJ(hg:Gl X "range")(hm:X.mg "range" = none)(ha:PA X [a] ta)(hs:starEach [a] X.env=[(false,eval a X.env)]:=by rfl):PI X tg (.Call (.Name "range" p) [a] [] pos) (uj ta):=by
 intro xB s σ H R I h;refine Call_ (QB I hg hm boot_range (PyProof.Rows.callWith_type1 (thn (ha pos xB s σ H _ I h) λus s1 fv=>?_) hs rfl));obtain⟨vs,H1,I1,r1,q1⟩:=fv;obtain⟨j,e,q1,q2,q⟩:=q1;subst e
 cases r1 with
 | cons r rr =>
  cases rr
  obtain⟨t,rfl⟩:=r;exact call_range_1 (ui I1 'd' 'd' q1 q2 (by simpa using q))
def iH(wi:TI)(g:TG)(tb:TS):TS:=λD σ H=>wi σ H λJ H1=>∃W:Nat->Nat->St->Hp->Prop,(∃m,W 0 m σ H1)/\∀i m σ H,W i m σ H ->
 (J.stop i H/\D.nx σ H)\/(J.go i H/\∃N:St->Hp->Prop,(∀xE H',N xE H'->∃m',m' < m/\W (i + 1) m' xE H')/\∀x H',J.yld i H x H'->g x σ H' λσ2 H2=>tb { D with nx:=N,ct:=N,bk:=D.nx } σ2 H2)
def Yo(fp:List J0)(h:Heap):xr:=fp.filterMap λb=>(h.get? b).map λo=>(b,o)
def aw(hb:b∈fp)(e:h.get? b=some o):(b,o)∈Yo fp h:=List.mem_filterMap.mpr ⟨b,hb,by rw[e];rfl⟩
def uk(hp:p∈Yo fp h):p.1∈fp/\h.get? p.1=some p.2:=by
 obtain⟨b,hb,e⟩:=List.mem_filterMap.mp hp
 cases q:h.get? b with
 | none=>rw[q]at e;cases e
 | some o =>
  rw[q]at e;have e':(b,o)=p:=Option.some.inj e;subst e';exact⟨hb,q⟩
def Inv.pinned{xB:xr}{σ:St}{H:Hp}{s:xZ}{fp:List J0}(I:Inv X xB σ H s)(hf:∀b∈fp,FpOk X xB H b)(ho:∀b∈fp,∃o,s.heap.get? b=some o/\∀v,o.data ≠ .cell v):Inv X (xB ++ Yo fp s.heap) σ H s :=
 I.pins_of λp hp=>(jO.mp hp).elim (λz=>I.pin p (jN _ z)) λz=>by
  obtain⟨hb,e⟩:=uk z;obtain⟨f0,f1,f2,_⟩:=hf p.1 hb;obtain⟨o,e',d⟩:=ho p.1 hb;rw[e]at e';cases e';exact⟨e,f0,f1,f2,d⟩
def Inv.unpinned{xB pl:xr}{σ:St}{H:Hp}{s:xZ}(I:Inv X (xB ++ pl) σ H s):Inv X xB σ H s:=I.pins_of λp hp=>I.pin p (jN _ (jZ _ hp))
def Zc(hp:PassesOwn (model X.prog X.w) X.A X.env X.xe)(hc:X.calm=true)(hi:PI X tg iter wi)(hg:PG X tg g)(hb:PSs X body tb)
 (hs:∀x,foldedSetIterable iter X.env x=pure x:=by intro _;rfl):PS X (.For tg iter body [] pos) (iH wi g tb):=by
 intro xB s σ H D I h;refine wpAny_For (thn (hi xB s σ H _ I h) λv s1 h1=>thn h1 λitv s2 h2=>?_) hs;obtain⟨it,fp,tn,J,H2,e,I2,T,xJ,f2,W,⟨m0,w0⟩,turn⟩:=h2;subst e
 -- what stays true of the iterator's objects through the loop
 have stat:∀{H':Hp},(∀b∈fp,H' b=none)->∀b∈fp,FpOk X xB H' b:=λhn b hb=>⟨hn b hb,(f2 b hb).2⟩;refine codeAny_forLoop_any (λn s'=>∃i xE H',Inv X xB xE H' s'/\tn i s'.heap/\(∀b∈fp,H' b=none)/\W i n xE H') ?_ m0 ⟨0,σ,H2,I2,xJ,λb hb=>(f2 b hb).1,w0⟩;rintro n s3 ⟨i,σ3,H3,I3,st3,fr3,w3⟩;rcases turn i n σ3 H3 w3 with ⟨stop,qn⟩ | ⟨go,N,hN,step⟩
 . refine xg hp (thn (T.done X rfl rfl rfl hc i xB s3 σ3 H3 X.xe I3 (stat fr3) st3 stop) λr s4 ⟨hr,I4⟩=>?_);subst hr;exact wpAny_execs_nil ⟨σ3,H3,I4,qn⟩
 . refine xg hp (thn (T.item X rfl rfl rfl hc i xB s3 σ3 H3 X.xe I3 (stat fr3) st3 go) λr s4 ⟨u,hr,h4⟩=>?_);subst hr;refine xg hp (thn h4 λ_ s5 fv=>?_);obtain⟨x,H5,I5,r5,y5,st5,fr5⟩:=fv;have I5':=I5.pinned (stat fr5) (T.obj _ _ st5);refine xg hp (thn (hg _ s5 σ3 H5 x u _ I5' r5 (step x H5 y5)) λ_ s6 ⟨σ6,H6,I6,q6⟩=>?_);refine xg hp (thn (hb _ s6 σ6 H6 _ I6 q6) λf s7 q7=>?_)
   have again:∀{σ7:St}{H7:Hp},Inv X (xB ++ Yo fp s5.heap) σ7 H7 s7->N σ7 H7->∃m,m < n/\∃i xE H',Inv X xB xE H' s7/\tn i s7.heap/\(∀b∈fp,H' b=none)/\W i m xE H':=fun {σ7 H7} I7 n7=>by
    obtain⟨m',hm,w7⟩:=hN σ7 H7 n7;refine⟨m',hm,i + 1,σ7,H7,I7.unpinned,T.keep _ _ _ st5 λb hb o e=>(I7.pin (b,o) (jN _ (jN _ (aw hb e)))).1,λb hb=>?_,w7⟩;obtain⟨o,e,d⟩:=T.obj _ _ st5 b hb;exact(I7.pin (b,o) (jN _ (jN _ (aw hb e)))).2.1
   cases f with
   | next=>obtain⟨σ7,H7,I7,n7⟩:=q7;exact again I7 n7
   | cont=>obtain⟨σ7,H7,I7,n7⟩:=q7;exact again I7 n7
   | brk=>obtain⟨σ7,H7,I7,q7⟩:=q7;exact⟨σ7,H7,I7.unpinned,q7⟩
   | ret v=>obtain⟨x7,σ7,H7,I7,r7,q7⟩:=q7;exact⟨x7,σ7,H7,I7.unpinned,r7,q7⟩
end
def X1{K:xt}{a:J0}{xs:List V}{g:TG}{tb:TS}{D:Ends}{σ:St}{H:Hp}(Pv:Nat->St->Hp->Prop)(h0:Pv 0 σ H)(hl:∀i σ H,i<=xs.length->Pv i σ H->SqL K H a xs)
 (hs:∀i x σ H,xs[i]? = some x->Pv i σ H->g x σ H λσ2 H2=>tb { D with nx:=Pv (i + 1),ct:=Pv (i + 1),bk:=D.nx } σ2 H2) (hd:∀σ H,Pv xs.length σ H->D.nx σ H) :
 ∃W:Nat->Nat->St->Hp->Prop,(∃m,W 0 m σ H)/\∀i m σ H,W i m σ H ->
  ((Itl K a).stop i H/\D.nx σ H)\/((Itl K a).go i H/\∃N:St->Hp->Prop,(∀xE H',N xE H'->∃m',m' < m/\W (i + 1) m' xE H')/\∀x H',(Itl K a).yld i H x H'->g x σ H' λσ2 H2=>tb { D with nx:=N,ct:=N,bk:=D.nx } σ2 H2):=by
 refine⟨λi m σ H=>m=xs.length - i/\i<=xs.length/\Pv i σ H,⟨xs.length,by simp,jX _,h0⟩,?_⟩;rintro i m σ H ⟨rfl,hi,p⟩;have q:=hl i σ H hi p
 by_cases hlt:i < xs.length
 . refine .inr ⟨⟨xs,xs[i],q,by simp[hlt]⟩,Pv (i + 1),λxE H' p'=>⟨xs.length - (i + 1),by omega,rfl,hlt,p'⟩,λx H' y=>?_⟩;obtain⟨e,y⟩:=y;subst e;exact hs i x σ _ (y xs q) p
 . have e:i=xs.length:=by omega
   subst e;exact .inl ⟨⟨xs,q,jD _⟩,hd σ H p⟩
def ul{K:xt}{a:J0}{xs:List V}{g:TG}{tb:TS}{D:Ends}{σ:St}{H:Hp}(Pv:Nat->St->Hp->Prop)(h0:Pv 0 σ H)(hl:∀i σ H,i<=xs.length->Pv i σ H->SqT K H a xs)
 (hs:∀i x σ H,xs[i]? = some x->Pv i σ H->g x σ H λσ2 H2=>tb { D with nx:=Pv (i + 1),ct:=Pv (i + 1),bk:=D.nx } σ2 H2) (hd:∀σ H,Pv xs.length σ H->D.nx σ H) :
 ∃W:Nat->Nat->St->Hp->Prop,(∃m,W 0 m σ H)/\∀i m σ H,W i m σ H ->
  ((Itt K a).stop i H/\D.nx σ H)\/((Itt K a).go i H/\∃N:St->Hp->Prop,(∀xE H',N xE H'->∃m',m' < m/\W (i + 1) m' xE H')/\∀x H',(Itt K a).yld i H x H'->g x σ H' λσ2 H2=>tb { D with nx:=N,ct:=N,bk:=D.nx } σ2 H2):=by
 refine⟨λi m σ H=>m=xs.length - i/\i<=xs.length/\Pv i σ H,⟨xs.length,by simp,jX _,h0⟩,?_⟩;rintro i m σ H ⟨rfl,hi,p⟩;have q:=hl i σ H hi p
 by_cases hlt:i < xs.length
 . refine .inr ⟨⟨xs,xs[i],q,by simp[hlt]⟩,Pv (i + 1),λxE H' p'=>⟨xs.length - (i + 1),by omega,rfl,hlt,p'⟩,λx H' y=>?_⟩;obtain⟨e,y⟩:=y;subst e;exact hs i x σ _ (y xs q) p
 . have e:i=xs.length:=by omega
   subst e;exact .inl ⟨⟨xs,q,jD _⟩,hd σ H p⟩
def iI{lo:Int}{n:Nat}{g:TG}{tb:TS}{D:Ends}(Pv:Nat->St->Hp->Prop)(h0:Pv 0 σ H)
 (hs:∀i σ H,i < n->Pv i σ H->g (.int (lo + i)) σ H λσ2 H2=>tb { D with nx:=Pv (i + 1),ct:=Pv (i + 1),bk:=D.nx } σ2 H2) (hd:∀σ H,Pv n σ H->D.nx σ H) :
 ∃W:Nat->Nat->St->Hp->Prop,(∃m,W 0 m σ H)/\∀i m σ H,W i m σ H ->
  ((Itr lo n).stop i H/\D.nx σ H)\/((Itr lo n).go i H/\∃N:St->Hp->Prop,(∀xE H',N xE H'->∃m',m' < m/\W (i + 1) m' xE H')/\∀x H',(Itr lo n).yld i H x H'->g x σ H' λσ2 H2=>tb { D with nx:=N,ct:=N,bk:=D.nx } σ2 H2):=by
 refine⟨λi m σ H=>m=n - i/\i<=n/\Pv i σ H,⟨n,by simp,jX _,h0⟩,?_⟩;rintro i m σ H ⟨rfl,hi,p⟩
 by_cases hlt:i < n
 . refine .inr ⟨hlt,Pv (i + 1),λxE H' p'=>⟨n - (i + 1),by omega,rfl,hlt,p'⟩,λx H' y=>?_⟩;obtain⟨e,y⟩:=y;subst e y;exact hs i σ _ hlt p
 . have e:i=n:=by omega
   subst e;exact .inl ⟨jD _,hd σ H p⟩
def iJ(Pv:St->Hp->Prop)(μ:St->Hp->Nat)(h0:Pv σ H)
 (hs:∀σ H,Pv σ H->c σ H λb H1=>if b=true then tb { D with nx:=λxE H'=>Pv xE H'/\μ xE H' < μ σ H,ct:=λxE H'=>Pv xE H'/\μ xE H' < μ σ H,bk:=D.nx } σ H1 else D.nx σ H1)
 (mono:∀σ H Q Q',(∀b H1,Q b H1->Q' b H1)->c σ H Q->c σ H Q'):iC c tb D σ H:=by
 refine⟨λm σ H=>m=μ σ H/\Pv σ H,⟨_,rfl,h0⟩,?_⟩;rintro m σ H ⟨rfl,p⟩;refine mono σ H _ _ (λb H1 q=>?_) (hs σ H p)
 cases b with
 | true=>exact⟨_,λxE H' ⟨p',l⟩=>⟨_,l,rfl,p'⟩,q⟩
 | false=>exact q
abbrev R2:=V->V->Hp->VK->Prop
def OpR(X:Cx)(f:xY->xY->Sem xY)(r:R2):Prop :=
 ∀(xB:xr) (s:xZ) (σ:St) (H:Hp) (x y:V) (v u:xY) (Q:VK),Inv X xB σ H s->RelV x v->RelV y u->r x y H Q ->
  wpAny (model X.prog X.w) X.A (f v u) (EP X xB σ Q) X.xe s
def UnR(X:Cx)(f:xY->Sem xY)(r:V->Hp->VK->Prop):Prop :=
 ∀(xB:xr) (s:xZ) (σ:St) (H:Hp) (x:V) (v:xY) (Q:VK),Inv X xB σ H s->RelV x v->r x H Q ->
  wpAny (model X.prog X.w) X.A (f v) (EP X xB σ Q) X.xe s
def Q7(X:Cx)(f:xY)(r:List V->Hp->VK->Prop):Prop :=
 ∀(xB:xr) (s:xZ) (σ:St) (H:Hp) (xs:List V) (us:xx) (Q:VK),Inv X xB σ H s->Vals xs us->r xs H Q ->
  wpAny (model X.prog X.w) X.A (call f us) (EP X xB σ Q) X.xe s
def tOp(r:R2)(ta tb:TE):TE:=λσ H Q=>ta σ H λx H1=>tb σ H1 λy H2=>r x y H2 Q
def tUn(r:V->Hp->VK->Prop)(ta:TE):TE:=λσ H Q=>ta σ H λx H1=>r x H1 Q
def rI(C:Int->Int->Prop)(g:Int->Int->V):R2:=λx y H Q=>∃i j,x = .int i/\y = .int j/\C i j/\Q (g i j) H
def rI0(g:Int->Int->V):R2:=λx y H Q=>∃i j,x = .int i/\y = .int j/\Q (g i j) H
def rU(g:Int->V):V->Hp->VK->Prop:=λx H Q=>∃i,x = .int i/\Q (g i) H
section
variable {X:Cx}{a b c:Expr}{ta tb tc:TE}{pos:Pos}
def dD(ha:PE X a ta)(hb:PE X b tb){xB:xr}{s:xZ}{σ:St}{H:Hp}{R:V->V->Hp->Prop}(I:Inv X xB σ H s)
 (h:ta σ H λx H1=>tb σ H1 λy H2=>R x y H2) {Q:xp}{f:xY->xY->Sem xY}
 (hf:∀v u s2 x y H2,Inv X xB σ H2 s2->RelV x v->RelV y u->R x y H2->wpAny (model X.prog X.w) X.A (f v u) Q X.xe s2) :
 wpAny (model X.prog X.w) X.A (eval a X.env) (λv s₁=>wpAny (model X.prog X.w) X.A (eval b X.env) (λu s₂=>wpAny (model X.prog X.w) X.A (f v u) Q X.xe s₂) X.xe s₁) X.xe s:=by
 refine thn (ha xB s σ H _ I h) λv s1 fv=>?_;obtain⟨x,H1,I1,r1,q1⟩:=fv;refine thn (hb xB s1 σ H1 _ I1 q1) λu s2 fv=>?_;obtain⟨y,H2,I2,r2,q2⟩:=fv;exact hf v u s2 x y H2 I2 r1 r2 q2
def J9(ho:OpR X (binaryOp op) r)(ha:PE X a ta)(hb:PE X b tb):PE X (.BinOp a op b pos) (tOp r ta tb):=by
 intro xB s σ H Q I h;exact wpAny_BinOp (dD ha hb I h λv u s2 x y H2 I2 rx ry q=>ho xB s2 σ H2 x y v u Q I2 rx ry q)
def um(ho:UnR X (unaryOp op) r)(ha:PE X a ta):PE X (.UnaryOp op a pos) (tUn r ta):=by
 intro xB s σ H Q I h;exact UnaryOp_ (thn (ha xB s σ H _ I h) λv s1 ⟨x,H1,I1,r1,q1⟩=>ho xB s1 σ H1 x v Q I1 r1 q1)
def opI{f:xY->xY->Sem xY}{C:Int->Int->Prop}{g:Int->Int->Int}
 (rule:∀(i j:Int) (t u:Tok) (s:xZ) (Q:xp) (E:xp),C i j->Q (.int (g i j) s.toks) { s with toks:=s.toks + 1 }->wpAny (model X.prog X.w) X.A (f (.int i t) (.int j u)) Q E s) :
 OpR X f (rI C λi j => .int (g i j)):=by
 intro xB s σ H x y v u Q I rx ry h;obtain⟨i,j,rfl,rfl,hc,q⟩:=h;obtain⟨t,rfl⟩:=rx;obtain⟨t',rfl⟩:=ry;exact rule i j t t' s _ _ hc ⟨.int (g i j),H,I.tok _,⟨_,rfl⟩,q⟩
def iK{f:xY->xY->Sem xY}{g:Int->Int->Int}
 (rule:∀(i j:Int) (t u:Tok) (s:xZ) (Q:xp) (E:xp),Q (.int (g i j) s.toks) { s with toks:=s.toks + 1 }->wpAny (model X.prog X.w) X.A (f (.int i t) (.int j u)) Q E s) :
 OpR X f (rI0 λi j => .int (g i j)):=by
 intro xB s σ H x y v u Q I rx ry h;obtain⟨i,j,rfl,rfl,q⟩:=h;obtain⟨t,rfl⟩:=rx;obtain⟨t',rfl⟩:=ry;exact rule i j t t' s _ _ ⟨.int (g i j),H,I.tok _,⟨_,rfl⟩,q⟩
def ay{f:xY->xY->Sem xY}{g:Int->Int->Bool}
 (rule:∀(i j:Int) (t u:Tok) (s:xZ) (Q:xp) (E:xp),Q (.bool (g i j)) s->wpAny (model X.prog X.w) X.A (f (.int i t) (.int j u)) Q E s) :
 OpR X f (rI0 λi j => .bl (g i j)):=by
 intro xB s σ H x y v u Q I rx ry h;obtain⟨i,j,rfl,rfl,q⟩:=h;obtain⟨t,rfl⟩:=rx;obtain⟨t',rfl⟩:=ry;exact rule i j t t' s _ _ ⟨.bl (g i j),H,I,rfl,q⟩
def uo(i j:Int):Prop:=0<=j/\j<=1000000/\i.natAbs < 2 ^ 64
def JB:OpR X (binaryOp .Add) (rI0 λi j => .int (i + j)):=iK λ_ _ _ _ _ _ _ q=>add_int q
def Yp:OpR X (binaryOp .Sub) (rI0 λi j => .int (i - j)):=iK λ_ _ _ _ _ _ _ q=>sub_int q
def JH:OpR X (binaryOp .Mod) (rI (λ_ j=>0 < j) λi j => .int (i % j)):=opI λi j _ _ _ _ _ hc q=>by
 have h1:(0:Int) < j:=hc;exact mod_int' 'd' (by rw[Int.fmod_eq_emod_of_nonneg i 'd'];exact q)
def aA:OpR X (binaryOp .Pow) (rI uo λi j => .int (i ^ j.toNat)):=opI λ_ _ _ _ _ _ _ hc q=>pow_int_small hc.1 hc.2.1 hc.2.2 q
def unI{f:xY->Sem xY}{g:Int->Int}
 (rule:∀(i:Int) (t:Tok) (s:xZ) (Q:xp) (E:xp),Q (.int (g i) s.toks) { s with toks:=s.toks + 1 }->wpAny (model X.prog X.w) X.A (f (.int i t)) Q E s) :
 UnR X f (rU λi => .int (g i)):=by
 intro xB s σ H x v Q I rx h;obtain⟨i,rfl,q⟩:=h;obtain⟨t,rfl⟩:=rx;exact rule i t s _ _ ⟨.int (g i),H,I.tok _,⟨_,rfl⟩,q⟩
def uq:UnR X (unaryOp .USub) (rU λi => .int (-i)):=unI λ_ _ _ _ _ q=>neg_int q
end
def iL:V->V->Bool
 | .non,.non=>true | .non,.int _=>true | .int _,.non=>true | .non,.bl _=>true | .bl _,.non=>true | .non,.str _=>true | .str _,.non=>true
 | .int _,.int _=>true | .bl _,.bl _=>true | .str _,.str _=>true | .byt _,.byt _=>true
 | .int _,.str _=>true | .str _,.int _=>true | .bl _,.str _=>true | .str _,.bl _=>true
 | _,_=>false
def rEq:R2:=λx y H Q=>iL x y=true/\Q (.bl (decide (x=y))) H
def rNe:R2:=λx y H Q=>iL x y=true/\Q (.bl (!decide (x=y))) H
def iM:decide (V.int i=V.int j)=(i == j):=by
 rw[Bool.eq_iff_iff];simp
def iN:decide (V.bl i=V.bl j)=(i == j):=by
 rw[Bool.eq_iff_iff];simp
def iO:decide (V.str i=V.str j)=(i == j):=by
 rw[Bool.eq_iff_iff];simp
def iP:decide (V.byt i=V.byt j)=(i.toList == j.toList):=by
 rw[Bool.eq_iff_iff]
 cases i
 cases j
 simp
section
variable {X:Cx}{a b c:Expr}{ta tb tc:TE}{pos:Pos}
def JC{xB:xr}{σ:St}{H:Hp}{s:xZ}{Q:VK}{k k':Bool}(I:Inv X xB σ H s)(q:Q (.bl k) H)(e:k=k'):EP X xB σ Q (.bool k') s:=by
 subst e;exact⟨.bl k,H,I,rfl,q⟩
def iQ:OpR X (compareOp .Eq) rEq:=by
 intro xB s σ H x y v u Q I rx ry h;obtain⟨hs,q⟩:=h
 cases x with
 | non =>
  cases rx
  cases y with
  | non=>cases ry;exact PySem.EqNone.eq_none_none (JC I q 'j')
  | bl j=>cases ry;exact PySem.EqNone.eq_none_bool (JC I q 'j')
  | int j=>obtain⟨t',rfl⟩:=ry;exact PySem.EqNone.eq_none_int (JC I q 'j')
  | str j=>obtain⟨t',rfl⟩:=ry;exact PySem.EqNone.eq_none_str (JC I q 'j')
  | _=>exact absurd (show false=true from hs) jR
 | bl i =>
  cases rx
  cases y with
  | non=>cases ry;exact PySem.EqNone.eq_bool_none (JC I q 'j')
  | bl j=>cases ry;exact eq_bool (JC I q iN)
  | str j=>obtain⟨t',rfl⟩:=ry;exact PySem.EqMixed.eq_bool_str (JC I q 'j')
  | _=>exact absurd (show false=true from hs) jR
 | int i =>
  obtain⟨t,rfl⟩:=rx
  cases y with
  | non=>cases ry;exact PySem.EqNone.eq_int_none (JC I q 'j')
  | int j=>obtain⟨t',rfl⟩:=ry;exact eq_int (JC I q iM)
  | str j=>obtain⟨t',rfl⟩:=ry;exact PySem.EqMixed.eq_int_str (JC I q 'j')
  | _=>exact absurd (show false=true from hs) jR
 | str i =>
  obtain⟨t,rfl⟩:=rx
  cases y with
  | non=>cases ry;exact PySem.EqNone.eq_str_none (JC I q 'j')
  | bl j=>cases ry;exact PySem.EqMixed.eq_str_bool (JC I q 'j')
  | int j=>obtain⟨t',rfl⟩:=ry;exact PySem.EqMixed.eq_str_int (JC I q 'j')
  | str j=>obtain⟨t',rfl⟩:=ry;exact eq_str (JC I q iO)
  | _=>exact absurd (show false=true from hs) jR
 | byt i =>
  obtain⟨t,rfl⟩:=rx
  cases y with
  | byt j=>obtain⟨t',rfl⟩:=ry;exact PySem.W.eq_bytes (JC I q iP)
  | _=>exact absurd (show false=true from hs) jR
 | _=>cases y<;>exact absurd (show false=true from hs) jR
def iR:OpR X (compareOp .NotEq) rNe:=by
 intro xB s σ H x y v u Q I rx ry h;obtain⟨hs,q⟩:=h
 cases x with
 | non =>
  cases rx
  cases y with
  | non=>cases ry;exact PySem.EqNone.ne_none_none (JC I q 'j')
  | bl j=>cases ry;exact PySem.EqNone.ne_none_bool (JC I q 'j')
  | int j=>obtain⟨t',rfl⟩:=ry;exact PySem.EqNone.ne_none_int (JC I q 'j')
  | str j=>obtain⟨t',rfl⟩:=ry;exact PySem.EqNone.ne_none_str (JC I q 'j')
  | _=>exact absurd (show false=true from hs) jR
 | bl i =>
  cases rx
  cases y with
  | non=>cases ry;exact PySem.EqNone.ne_bool_none (JC I q 'j')
  | bl j=>cases ry;exact ne_bool (JC I q (qP not iN))
  | str j=>obtain⟨t',rfl⟩:=ry;exact PySem.EqMixed.ne_bool_str (JC I q 'j')
  | _=>exact absurd (show false=true from hs) jR
 | int i =>
  obtain⟨t,rfl⟩:=rx
  cases y with
  | non=>cases ry;exact PySem.EqNone.ne_int_none (JC I q 'j')
  | int j=>obtain⟨t',rfl⟩:=ry;exact ne_int (JC I q (qP not iM))
  | str j=>obtain⟨t',rfl⟩:=ry;exact PySem.EqMixed.ne_int_str (JC I q 'j')
  | _=>exact absurd (show false=true from hs) jR
 | str i =>
  obtain⟨t,rfl⟩:=rx
  cases y with
  | non=>cases ry;exact PySem.EqNone.ne_str_none (JC I q 'j')
  | bl j=>cases ry;exact PySem.EqMixed.ne_str_bool (JC I q 'j')
  | int j=>obtain⟨t',rfl⟩:=ry;exact PySem.EqMixed.ne_str_int (JC I q 'j')
  | str j=>obtain⟨t',rfl⟩:=ry;exact ne_str (JC I q (qP not iO))
  | _=>exact absurd (show false=true from hs) jR
 | byt i =>
  obtain⟨t,rfl⟩:=rx
  cases y with
  | byt j=>obtain⟨t',rfl⟩:=ry;exact PySem.W.ne_bytes (JC I q (qP not iP))
  | _=>exact absurd (show false=true from hs) jR
 | _=>cases y<;>exact absurd (show false=true from hs) jR
def Yq:OpR X (compareOp .Lt) (rI0 λi j => .bl (decide (i < j))):=ay λ_ _ _ _ _ _ _ q=>lt_int q
def dG:OpR X (compareOp .Gt) (rI0 λi j => .bl (decide (j < i))):=ay λ_ _ _ _ _ _ _ q=>gt_int q
def ur:OpR X (compareOp .In) (λx y H Q=>∃i j,x = .str i/\y = .str j/\Q (.bl (!(Builtin.Str.occurrences j i 0 j.length 1).isEmpty)) H):=by
 intro xB s σ H x y v u Q I rx ry h;obtain⟨i,j,rfl,rfl,q⟩:=h;obtain⟨t,rfl⟩:=rx;obtain⟨t',rfl⟩:=ry;exact in_str (JC I q rfl)
def iS:OpR X (compareOp .NotIn) (λx y H Q=>∃i j,x = .str i/\y = .str j/\Q (.bl (!(!(Builtin.Str.occurrences j i 0 j.length 1).isEmpty))) H):=by
 intro xB s σ H x y v u Q I rx ry h;obtain⟨i,j,rfl,rfl,q⟩:=h;obtain⟨t,rfl⟩:=rx;obtain⟨t',rfl⟩:=ry;exact notIn_str (JC I q rfl)
def OpR.or(h:OpR X f r)(h':OpR X f r'):OpR X f (λx y H Q=>r x y H Q\/r' x y H Q):=by
 intro xB s σ H x y v u Q I rx ry q;rcases q with q | q
 . exact h xB s σ H x y v u Q I rx ry q
 . exact h' xB s σ H x y v u Q I rx ry q
def Jk(b:Expr)(h:op ≠ .In:=by decide)(h2:op ≠ .NotIn:=by decide):behindInMarks op b=false:=by
 have e1:(op == CmpOp.In)=false:=by cases op<;>first | rfl | exact absurd rfl h
 have e2:(op == CmpOp.NotIn)=false:=by cases op<;>first | rfl | exact absurd rfl h2
 cases b<;>simp[behindInMarks,e1,e2]
def X2(ho:OpR X (compareOp op) r)(ha:PE X a ta)(hb:PE X b tb)(hm:behindInMarks op b=false):PE X (.Compare a [op] [b] pos) (tOp r ta tb):=by
 intro xB s σ H Q I h;exact wpAny_Compare1 (dD ha hb I h λv u s2 x y H2 I2 rx ry q=>ho xB s2 σ H2 x y v u Q I2 rx ry q) hm
def ut(t:TE):TT:=λσ H Q=>t σ H λx H'=>∃k,x = .bl k/\Q k H'
def Jo(ho:OpR X (compareOp op) r)(ha:PE X a ta)(hb:PE X b tb)(hm:behindInMarks op b=false):PT X (.Compare a [op] [b] pos) (ut (tOp r ta tb)):=by
 intro xB s σ H Q I h
 refine wpAny_isTrue_Compare1 (thn (ha xB s σ H _ I h) λv s1 ⟨x,H1,I1,r1,q1⟩=>thn (hb xB s1 σ H1 _ I1 q1) λu s2 ⟨y,H2,I2,r2,q2⟩ =>
  thn (ho xB s2 σ H2 x y v u _ I2 r1 r2 q2) λc s3 ⟨z,H3,I3,r3,k,e,q3⟩=>?_) hm
 subst e
 cases r3
 exact wpAny_truthy_bool ⟨H3,I3,q3⟩
def Yr:(sizeLine:Nat) < 2 ^ 63:=by rw[qR];decide
def JI:OpR X (binaryOp .Add) (λx y H Q=>∃i j,x = .str i/\y = .str j/\i.length + j.length<=sizeLine/\Q (.str (i ++ j)) H):=by
 intro xB s σ H x y v u Q I rx ry h;obtain⟨i,j,rfl,rfl,hz,q⟩:=h;obtain⟨t,rfl⟩:=rx;obtain⟨t',rfl⟩:=ry;exact add_str (λt' tk=>⟨.str (i ++ j),H,I.tok _,⟨_,rfl⟩,q⟩) hz
def Qj(r:Vals [x] us):∃u,us=[u]/\RelV x u:=by
 cases r with
 | cons r1 r2=>cases r2;exact⟨_,rfl,r1⟩
def dH(r:Vals [x,y] us):∃u w',us=[u,w']/\RelV x u/\RelV y w':=by
 cases r with
 | cons r1 r2 =>
  cases r2 with
  | cons r3 r4=>cases r4;exact⟨_,_,rfl,r1,r3⟩
def iT:Q7 X (.builtin "abs") (λxs H Q=>∃i,xs=[.int i]/\Q (.int (if i < 0 then -i else i)) H):=by
 intro xB s σ H xs us Q I r h;obtain⟨i,rfl,q⟩:=h;obtain⟨u,rfl,t,rfl⟩:=Qj r;exact call_abs_int λu tk=>⟨.int (if i < 0 then -i else i),H,I.tok _,⟨_,rfl⟩,q⟩
def uv:Q7 X (.type "int") (λxs H Q=>(∃i,xs=[.int i]/\Q (.int i) H)\/∃k,xs=[.bl k]/\Q (.int (if k then 1 else 0)) H):=by
 intro xB s σ H xs us Q I r h;rcases h with ⟨i,rfl,q⟩ | ⟨k,rfl,q⟩
 . obtain⟨u,rfl,t,rfl⟩:=Qj r;exact call_int_int ⟨.int i,H,I,⟨_,rfl⟩,q⟩
 . obtain⟨u,rfl,r1⟩:=Qj r
   cases r1
   exact call_int_bool ⟨.int (if k then 1 else 0),H,I.tok _,⟨_,rfl⟩,q⟩
def uw:Q7 X (.type "str") (λxs H Q=>∃i,xs=[.int i]/\i.natAbs.log2 < 1920/\Q (.str (toString i)) H):=by
 intro xB s σ H xs us Q I r h;obtain⟨i,rfl,hz,q⟩:=h;obtain⟨u,rfl,t,rfl⟩:=Qj r;exact PySem.P.str_of_int hz ⟨.str _,H,I.tok _,⟨_,rfl⟩,q⟩
def dI(K:xt)(x:V)(H:Hp)(n:Nat):Prop :=
 match x with
 | .str y=>y.length<=sizeLine/\n=y.length
 | .byt y=>y.size<=sizeLine/\n=y.size
 | .ref p=>(∃xs,SqL K H p xs/\n=xs.length)\/∃xs,SqT K H p xs/\n=xs.length
 | _=>False
def ux:Q7 X (.builtin "len") (λxs H Q=>∃x n,xs=[x]/\dI X.K x H n/\Q (.int n) H):=by
 intro xB s σ H xs us Q I r h;obtain⟨x,n,rfl,e,q⟩:=h;obtain⟨u,rfl,rx⟩:=Qj r;have hl:=Yr;have hs:sizeLine=16777216:=qR
 cases x with
 | str y =>
  obtain⟨t,rfl⟩:=rx;obtain⟨hy,e'⟩:y.length<=sizeLine/\n=y.length:=e;subst e';exact len_str 'd' ⟨.int _,H,I.tok _,⟨_,rfl⟩,q⟩
 | byt y =>
  obtain⟨t,rfl⟩:=rx;obtain⟨hy,e'⟩:y.size<=sizeLine/\n=y.size:=e;subst e';exact PySem.W.len_bytes 'd' ⟨.int _,H,I.tok _,⟨_,rfl⟩,q⟩
 | ref p =>
  cases rx
  have e':(∃xs,SqL X.K H p xs/\n=xs.length)\/∃xs,SqT X.K H p xs/\n=xs.length:=e;rcases e' with ⟨xs,hx,e'⟩ | ⟨xs,hx,e'⟩
  . subst e';obtain⟨its,r',pl,hz⟩:=I.list hx;have xH:=r'.length;exact Calls.call_len_list pl.isList (by simp only[jH];omega) ⟨.int xs.length,H,I.tok _,⟨_,by simp only[jH];rw[xH]⟩,q⟩
  . subst e';obtain⟨its,r',pl,hz⟩:=I.tuple hx;have xH:=r'.length;exact len_tuple pl (by simp only[jH];omega) ⟨.int xs.length,H,I.tok _,⟨_,by simp only[jH];rw[xH]⟩,q⟩
 | _=>exact(show False from e).elim
end
structure ObjM (h:Heap) (x dx C:J0) (mA:xq):Prop where
 obj:h.get? x=some (PySem.W.instObj C dx)
 ns:h.Ns1 dx mA
 ne:dx≠x
def uy{h:Heap}{dx:J0}{mA:xq}(n:h.Ns1 dx mA):∃od,h.get? dx=some od/\∀name,PySem.W.lookIn name od=some (mA name):=by
 obtain⟨o,es,ep,ho,hd,hk,_,hm⟩:=n;refine⟨o,ho,λname=>?_⟩;have e:=hm name;unfold nsFind findBy at e;rw[<- Array.find?_toList]at e;unfold PySem.W.lookIn;rw[hd];dsimp only;split
 . rename_i y q;rw[q]at e;exact qP some e
 . rename_i q;rw[q]at e
   have a:es.toList.any (·.refKey)=false:=by
    rw[List.any_eq_false];intro y hy;obtain⟨z,t,hkey⟩:=hk y (Array.mem_toList_iff.mp hy);simp[DictEntry.refKey,hkey]
   have a':¬es.toList.any (·.refKey)=true:=by rw[a];exact jR
   rw[qg a'];exact qP some e
def ObjM.look(I:ObjM h x dx C mA):∃od,PySem.W.InstAt h x (PySem.W.instObj C dx) C (some od)/\∀name,PySem.W.lookIn name od=some (mA name) :=
 let ⟨od,ho,hl⟩:=uy I.ns
 ⟨od,⟨I.obj,rfl,rfl,ho⟩,hl⟩
section
variable {prog:J1}{w:J2}{A:J3}{E:xp}{s:xZ}{K:xt}{x dx C f:J0}{mA:xq}{name:Str}{v:xY}
def uD(X:K.In s.heap)(I:ObjM s.heap x dx C mA)(hg:PySem.W.plainGet K C name=true)(hh:PySem.W.hasDictIn K C=true)
 (ha:PySem.W.findIn K (.ref C) name=some none) (hv:mA name=some v) (hv':PySem.W.handedIn v=true) (h:Q v { s with toks:=s.toks + 1 }) :
 wpAny (model prog w) A (getAttr (.ref x) name expr) Q E s:=by
 obtain⟨od,J,hl⟩:=I.look;exact PySem.W.get_value X J (PySem.W.plainGet_of hg).1 (PySem.W.findObj_own hh ha rfl (by rw[hl,hv])) hv' h
def uF(X:K.In s.heap)(I:ObjM s.heap x dx C mA)(hg:PySem.W.plainGet K C name=true)
 (hf:PySem.W.findIn K (.ref C) name=some (some (.ref f))) (ht:PySem.W.isFn K (.ref f)=true) (hv:mA name=none) (h:Q (.ref f,[.ref x]) s) :
 wpAny (model prog w) A (getMethod (.ref x) name pl) Q E s:=by
 obtain⟨od,J,hl⟩:=I.look;exact PySem.W.method_fn X J (PySem.W.plainGet_of hg).1 (PySem.W.plainGet_of hg).2 hf (beq_iff_eq.mp ht) (by show(PySem.W.lookIn name od).map (·.isSome)=some false;rw[hl,hv];rfl) h
def uH(X:K.In s.heap)(I:ObjM s.heap x dx C mA)
 (hs:PySem.W.findIn K (.ref C) "__setattr__" = some (some (.builtin "object.__setattr__"))) (hp:PySem.W.plainOver K C=true) (ht:PySem.W.takerIn K C name=some none) (hh:PySem.W.hasDictIn K C=true)
 (hw:PySem.Within mA ns) (hsz:ns.length<=sizeLine)
 (h:∀h',ObjM h' x dx C (λy=>if y=name then some v else mA y)->Heap.SameBut dx s.heap h'->Q () { s with heap:=h',toks:=s.toks + 2 }) :
 wpAny (model prog w) A (setAttr (.ref x) name v) Q E s:=by
 obtain⟨od,J,hl⟩:=I.look;refine PySem.W.set_plain X J hs (PySem.W.osa_open (s:={ s with toks:=s.toks + 1 }) (r:=none) X J hp ht λb=>?_);obtain⟨cd,hc,hd'⟩:=PySem.W.any_some hh;have hx:s.heap.get? x=some ⟨.ref C,some dx,.plain,#[]⟩:=I.obj;refine q8 (qf (q8 (q8 (wpAny_loadPart hx (q8 (PySem.W.Looks.here (s:={ s with toks:=s.toks + 1 }) (PySem.W.looks_clsIn X hc) ?_))))));rw[hd'];refine qf (a:=some dx) (q8 (qf (q8 ?_)));refine wpAny_nsSet1 (s:={ s with toks:=s.toks + 1 }) I.ns λh' hn2 hs2=>?_;obtain⟨oD,esD,epD,hoD,hdD,hcD⟩:=hn2.count (PySem.Within.cons name v hw);refine q8 (wpAny_lookBehind hoD (by rw[hdD];exact pastItsLine_dict (jh hcD (by rw[jP];omega))) ?_);exact qf (h _ ⟨(hs2.2 _ (Ne.symm I.ne)).trans I.obj,hn2,I.ne⟩ hs2)
def uI(X:K.In s.heap)(hm:PySem.W.makesIn K C=true)
 (hi:PySem.W.findIn K (.ref C) "__init__" = some (some (.ref f))) (hf:PySem.W.typeIn K (.ref f)=some (.type "function"))
 (h:codeAny (model prog w) (A.under (.builtin "type.__call__" ⟨.ref C :: vs,kw⟩)) (.call (.ref f) ⟨.ref (s.heap.objs.size + 1) :: vs,kw⟩) (PySem.W.InitBack (s.heap.objs.size + 1) R)
  { s with heap:=(s.heap.push PySem.W.emptyDict).push (PySem.W.instObj C s.heap.objs.size) }) :
 codeAny (model prog w) A (.call (.ref C) ⟨vs,kw⟩) R s:=by
 obtain⟨hh,g,d,t,os⟩:=s;exact PySem.W.make_core (PySem.W.makes_of X hm) (PySem.W.looks_findIn X hi) (λself=>PySem.W.bind_fn X self hf) (.inl rfl) h
end
def Qe(f:Str)(v:V):List (Str×V)->List (Str×V)
 | []=>[(f,v)]
 | (g,x) :: r=>if g=f then(g,v) :: r else(g,x) :: Qe f v r
theorem iU(f g:Str)(v:V):∀fs:List (Str×V),(Qe f v fs).lookup g=if g=f then some v else fs.lookup g
 | []=>by
  show List.lookup g [(f,v)]=_
  by_cases h:g=f
  . have hb:(g == f)=true:=beq_iff_eq.mpr h;simp only[List.lookup,hb,qh h]
  . have hb:(g == f)=false:=beq_eq_false_iff_ne.mpr h;simp only[List.lookup,hb,qg h]
 | (k,x) :: r=>by
  have ih:=iU f g v r;rw[show Qe f v ((k,x) :: r)=(if k=f then(k,v) :: r else(k,x) :: Qe f v r) from rfl]
  by_cases hk:k=f
  . rw[qh hk]
    by_cases h:g=k
    . have hb:(g == k)=true:=beq_iff_eq.mpr h;simp only[List.lookup,hb,qh (h.trans hk)]
    . have hb:(g == k)=false:=beq_eq_false_iff_ne.mpr h;simp only[List.lookup,hb,qg (λe:g=f=>h (e.trans hk.symm))]
  . rw[qg hk]
    by_cases h:g=k
    . have hb:(g == k)=true:=beq_iff_eq.mpr h;simp only[List.lookup,hb,qg (λe:g=f=>hk (h.symm.trans e))]
    . have hb:(g == k)=false:=beq_eq_false_iff_ne.mpr h;simp only[List.lookup,hb];exact ih
theorem dJ(f:Str)(v:V):∀fs:List (Str×V),f∈(Qe f v fs).map (·.1)/\∀g,g∈fs.map (·.1)->g∈(Qe f v fs).map (·.1)
 | []=>⟨by simp[Qe],λg h=>by simp at h⟩
 | (k,x) :: r=>by
  obtain⟨i1,i2⟩:=dJ f v r;rw[show Qe f v ((k,x) :: r)=(if k=f then(k,v) :: r else(k,x) :: Qe f v r) from rfl]
  by_cases hk:k=f
  . rw[qh hk];subst hk;exact⟨by simp,λg h=>by simpa using h⟩
  . rw[qg hk];refine⟨?_,λg h=>?_⟩
    . rw[jf];exact jS _ i1
    . rw[jf]at h ⊢;rcases jL.mp h with e | e
      . exact jL.mpr (.inl e)
      . exact jS _ (i2 g e)
theorem iV(f:Str)(v:V):∀fs:List (Str×V),(Qe f v fs).length<=fs.length + 1
 | []=>by simp[Qe]
 | (k,x) :: r=>by
  have ih:=iV f v r;rw[show Qe f v ((k,x) :: r)=(if k=f then(k,v) :: r else(k,x) :: Qe f v r) from rfl]
  by_cases hk:k=f
  . rw[qh hk,jP,jP];omega
  . rw[qg hk,jP,jP];omega
def RelO.some_of(r:RelO (some v) o):∃u,o=some u/\RelV v u:=by
 cases o with
 | none=>exact(show False from r).elim
 | some u=>exact⟨u,rfl,r⟩
def RelO.none_of(r:RelO none o):o=none:=by
 cases o with
 | none=>rfl
 | some u=>exact(show False from r).elim
def uJ(r:RelV v u):PySem.W.handedIn u=true:=by
 cases v with
 | non=>cases (show u=Value.none from r);rfl
 | bl b=>cases (show u=Value.bool b from r);rfl
 | int i=>obtain⟨t,e⟩:=(show ∃t,u=Value.int i t from r);cases e;rfl
 | str x=>obtain⟨t,e⟩:=(show ∃t,u=Value.str x t from r);cases e;rfl
 | byt b=>obtain⟨t,e⟩:=(show ∃t,u=Value.bytes b t from r);cases e;rfl
 | flt b=>obtain⟨t,e⟩:=(show ∃t,u=Value.float b t from r);cases e;rfl
 | ref a=>cases (show u=Value.ref a from r);rfl
 | ty n=>cases (show u=Value.type n from r);rfl
section
variable {P:J1}{w:J2}{H H':Hp}{h h':Heap}{a C dx:J0}{fs fs':List (Str×V)}
def aB(hok:HOk P w H h)(e:H a=some (.ins C dx fs)):∃mA,ObjM h a dx C mA/\(∀f,RelO (fs.lookup f) (mA f))/\PySem.Within mA (fs.map (·.1))/\fs.length<=1000/\H dx=some (.own a):=by
 obtain⟨d,z,ne,ob,mA,n,r,q⟩:=(show ObjOk P w H h a (.ins C dx fs) from hok a _ e);exact⟨mA,⟨ob,n,ne⟩,r,q,z,d⟩
end
structure Cls (K:xt) (C:J0):Prop where
 pg:PySem.W.plainGet K C Str.empty=true
 hd:PySem.W.hasDictIn K C=true
 po:PySem.W.plainOver K C=true
 sa:PySem.W.findIn K (.ref C) "__setattr__" = some (some (.builtin "object.__setattr__"))
def Cls.get{K:xt}{C:J0}(c:Cls K C)(f:Str):PySem.W.plainGet K C f=true:=c.pg
def NoAttr(K:xt)(C:J0)(f:Str):Prop:=PySem.W.findIn K (.ref C) f=some none
def NoAttr.taker{K:xt}{C:J0}{f:Str}(n:NoAttr K C f):PySem.W.takerIn K C f=some none:=by
 unfold PySem.W.takerIn;rw[show PySem.W.findIn K (.ref C) f=some none from n];rfl
structure Meth (K:xt) (C:J0) (m:Str) (f:J0):Prop where
 at_:PySem.W.findIn K (.ref C) m=some (some (.ref f))
 fn:PySem.W.isFn K (.ref f)=true
 kp:PySem.W.keepIn K (.ref f)=true
section
variable {X:Cx}{xB:xr}{σ:St}{H:Hp}{s:xZ}{a C dx:J0}{fs:List (Str×V)}{f:Str}{v:V}{A:J3}{E:xp}
def uL(I:Inv X xB σ H s)(e:H a=some (.ins C dx fs))(c:Cls X.K C)(n:NoAttr X.K C f)(l:fs.lookup f=some v)
 (h:∀u s',Inv X xB σ H s'->RelV v u->Q u s'):wpAny (model X.prog X.w) A (getAttr (.ref a) f b) Q E s:=by
 obtain⟨mA,O,r,_,_,_⟩:=aB I.hok e;obtain⟨u,hu,ru⟩:=RelO.some_of (v:=v) (o:=mA f) (by rw[<- l];exact r f);exact uD I.kIn O (c.get f) c.hd n hu (uJ ru) (h u _ (I.tok _) ru)
def uM(I:Inv X xB σ H s)(e:H a=some (.ins C dx fs))(c:Cls X.K C)(k:Meth X.K C m g)(l:fs.lookup m=none)
 (h:Q (.ref g,[.ref a]) s):wpAny (model X.prog X.w) A (getMethod (.ref a) m pl) Q E s:=by
 obtain⟨mA,O,r,_,_,_⟩:=aB I.hok e;have hn:mA m=none:=RelO.none_of (by rw[<- l];exact r m);exact uF I.kIn O (c.get m) k.at_ k.fn hn h
def uN(I:Inv X xB σ H s)(e:H a=some (.ins C dx fs))(c:Cls X.K C)(n:NoAttr X.K C f)(hl:fs.length < 1000)(ry:RelV y u)
 (h:∀s',Inv X xB σ (upd H a (.ins C dx (Qe f y fs))) s'->Q () s'):wpAny (model X.prog X.w) A (setAttr (.ref a) f u) Q E s:=by
 obtain⟨mA,O,r,wi,_,ho⟩:=aB I.hok e;have hz:(fs.map (·.1)).length<=sizeLine:=by rw[jA,qR];omega
 refine uH I.kIn O c.sa c.po n.taker c.hd wi hz λh' O' sb=>h _ ?_;have hd:∃o,h'.get? dx=some o:=let ⟨o,_,_,e',_⟩:=O'.ns;⟨o,e'⟩;refine I.write (x:=a) (e:=dx) (by rw[e];exact True.intro) (.inr ho) (λb q hb z=>(sb.2 b hb).trans z) hd ?_;refine⟨by rw[Jb O.ne];exact ho,?_,O.ne,O'.obj,_,O'.ns,λg=>?_,λg hg=>?_⟩
 . have:=iV f y fs;omega
 . show RelO ((Qe f y fs).lookup g) (if g=f then some u else mA g);rw[iU]
   by_cases q:g=f
   . rw[qh q,qh q];exact ry
   . rw[qg q,qg q];exact r g
 . by_cases q:g=f
   . rw[q];exact(dJ f y fs).1
   . refine(dJ f y fs).2 g (wi g λz=>hg ?_);show(if g=f then some u else mA g)=none;rw[qg q];exact z
def Inv.made(I:Inv X xB σ H s):Inv X xB σ (upd (upd H s.heap.objs.size (.own (s.heap.objs.size + 1))) (s.heap.objs.size + 1) (.ins C s.heap.objs.size []))
 { s with heap:=(s.heap.push PySem.W.emptyDict).push (PySem.W.instObj C s.heap.objs.size) }:=by
 have e1:(s.heap.push PySem.W.emptyDict).get? s.heap.objs.size=some PySem.W.emptyDict:=jK s.heap rfl
 have e2:((s.heap.push PySem.W.emptyDict).push (PySem.W.instObj C s.heap.objs.size)).get? (s.heap.objs.size + 1)=some (PySem.W.instObj C s.heap.objs.size):=by
  have:=jK (s.heap.push PySem.W.emptyDict) (o:=PySem.W.instObj C s.heap.objs.size) rfl
  rwa [j6]at this
 have e3:(s.heap.push PySem.W.emptyDict).Ns s.heap.objs.size (λ_=>none):=⟨PySem.W.emptyDict,#[],_,e1,rfl,(λe he=>absurd he 'j'),λ_=>rfl⟩;have I1:=I.laid (a:=s.heap.objs.size) (o := .own (s.heap.objs.size + 1)) (h':=s.heap.push PySem.W.emptyDict) (t':=s.toks) (λb u q=>jB _ q) (jD _) ⟨_,e1⟩;refine I1.laid (a:=s.heap.objs.size + 1) (o := .ins C s.heap.objs.size []) (t':=s.toks) (λb u q=>jB _ q) (Nat.le_of_eq (j6 _ _)) ?_;have ne:s.heap.objs.size≠s.heap.objs.size + 1:=jQ (Nat.lt_succ_self _);refine⟨by rw[Jb ne,J8],jX _,ne,e2,λ_=>none,(Heap.Ns1.of_empty e3).at λo q=>jB _ q,λ_=>True.intro,λy hy=>absurd rfl hy⟩
def uO(hb:attributeBase e f env (eval e env)=eval e env)
 (h:wpAny (model prog w) A (eval e env) (λo s₁=>wpAny (model prog w) A (getAttr o f true) Q E s₁) E s):wpAny (model prog w) A (eval (.Attribute e f pos) env) Q E s :=
 Attribute_any_ h (by rw[arm_eval_Attribute,hb])
end
def uP(K:xt)(ta:TE)(f:Str):TE:=λσ H Q=>ta σ H λx H1=>∃a C dx fs v,x = .ref a/\H1 a=some (.ins C dx fs)/\Cls K C/\NoAttr K C f/\fs.lookup f=some v/\Q v H1
def iW(K:xt)(ta tv:TE)(f:Str):TS:=λD σ H=>tv σ H λy H1=>ta σ H1 λx H2=>∃a C dx fs,x = .ref a/\H2 a=some (.ins C dx fs)/\Cls K C/\NoAttr K C f/\fs.length < 1000 /\
 D.nx σ (upd H2 a (.ins C dx (Qe f y fs)))
section
variable {X:Cx}{o e value:Expr}{f:Str}{pos pos' tpos:Pos}{ta tv:TE}
def JF(he:PE X e ta)(hb:attributeBase e f X.env (eval e X.env)=eval e X.env):PE X (.Attribute e f pos) (uP X.K ta f):=by
 intro xB s σ H Q I h;refine uO hb (thn (he xB s σ H _ I h) λu s1 fv=>?_);obtain⟨x,H1,I1,rx,a,C,dx,fs,v,ex,ea,c,n,l,q⟩:=fv;subst ex;obtain rfl:u=Value.ref a:=rx;exact uL I1 ea c n l λu' s2 I2 ru=>⟨v,H1,I2,ru,q⟩
def ZC(ha:PE X o ta)(hv:PE X value tv)(hs:swapsWith value (some (.Attribute o f pos')) pos.line X.env=pure false):PS X (.Assign [.Attribute o f pos'] value pos) (iW X.K ta tv f):=by
 intro xB s σ H D I h;refine plainObj_wpAny_Assign_Attribute (thn (hv xB s σ H _ I h) λu s1 fv=>?_) hs;obtain⟨y,H1,I1,ry,q⟩:=fv;refine thn (ha xB s1 σ H1 _ I1 q) λov s2 p7=>?_;obtain⟨x,H2,I2,rx,a,C,dx,fs,ex,ea,c,n,l,q2⟩:=p7;subst ex;obtain rfl:ov=Value.ref a:=rx;exact uN I2 ea c n l ry λs3 I3=>⟨σ,_,I3,q2⟩
end
section
variable {X:Cx}{xB:xr}{σ:St}{H:Hp}{s:xZ}{A:J3}{E:xp}{Q:xp}{c:xY}{b:Bool}
inductive TyOf (K:xt) (H:Hp):V->xY->Prop where
 | non:TyOf K H .non (.type "NoneType")
 | bl (x:Bool):TyOf K H (.bl x) (.type "bool")
 | int (i:Int):TyOf K H (.int i) (.type "int")
 | str (x:Str):TyOf K H (.str x) (.type "str")
 | flt (x:UInt64):TyOf K H (.flt x) (.type "float")
 | lst {a:J0}{xs:List V} (e:H a=some (.lst xs)):TyOf K H (.ref a) (.type "list")
 | frz {a:J0}{o:Obj}{xs:List V} (e:H a=some (.frz o (.lst xs))):TyOf K H (.ref a) (.type "list")
 | tup {a:J0}{xs:List V} (e:H a=some (.tup xs)):TyOf K H (.ref a) (.type "tuple")
 | dK {a:J0}{kvs:List (Key×V)} (e:H a=some (.dK kvs)):TyOf K H (.ref a) (.type "dict")
 | dT {a:J0}{kvs:List (List Key×V)} (e:H a=some (.dT kvs)):TyOf K H (.ref a) (.type "dict")
 | ins {a C dx:J0}{fs:List (Str×V)} (e:H a=some (.ins C dx fs)) (cl:Cls K C) (ha:PySem.W.findIn K (.ref C) "__class__" = some (some (.builtin "object.__class__")))
  (hn:PySem.W.specialIn K (.builtin "object.__class__") "__get__" = some (some (.builtin "getset_descriptor.__get__"))) (htk:PySem.W.takesIn K (.builtin "object.__class__")=some true)
  (hm:PySem.W.mroIn K C (.type "object")=some true):TyOf K H (.ref a) (.ref C)
def uQ(I:Inv X xB σ H s)(rx:RelV x u)(ty:TyOf X.K H x t)(e:PySem.W.kitOne X.K t c=some b)(h:∀tk,Q (.bool b) { s with toks:=tk }) :
 wpAny (model X.prog X.w) A (call (.builtin "isinstance") [u,c]) Q E s:=by
 cases ty with
 | non=>cases (show u=Value.none from rx);exact PySem.W.kia_one PySem.W.kitx_none I.kIn True.intro e (λz=>nomatch z) h
 | bl y=>cases (show u=Value.bool y from rx);exact PySem.W.kia_one PySem.W.kitx_bool I.kIn True.intro e (λz=>nomatch z) h
 | int i=>obtain⟨t,q⟩:=(show ∃t,u=Value.int i t from rx);cases q;exact PySem.W.kia_one PySem.W.kitx_int I.kIn True.intro e (λz=>nomatch z) h
 | str y=>obtain⟨t,q⟩:=(show ∃t,u=Value.str y t from rx);cases q;exact PySem.W.kia_one PySem.W.kitx_str I.kIn True.intro e (λz=>nomatch z) h
 | flt y=>obtain⟨t,q⟩:=(show ∃t,u=Value.float y t from rx);cases q;exact PySem.W.kia_one PySem.W.kitx_float I.kIn True.intro e (λz=>nomatch z) h
 | @lst a xs ea =>
  cases (show u=Value.ref a from rx)
  obtain⟨_,_,n,_,h1⟩:=(show ObjOk X.prog X.w H s.heap a (.lst xs) from I.hok a _ ea);exact PySem.W.kia_one PySem.W.kitx_list I.kIn ⟨_,h1,rfl⟩ e (λz=>nomatch z) h
 | @frz a ob xs ea =>
  cases (show u=Value.ref a from rx)
  obtain⟨_,_,_,n,_,h1⟩:=(show ObjOk X.prog X.w H s.heap a (.frz ob (.lst xs)) from I.hok a _ ea);exact PySem.W.kia_one PySem.W.kitx_list I.kIn ⟨_,h1,rfl⟩ e (λz=>nomatch z) h
 | @tup a xs ea =>
  cases (show u=Value.ref a from rx)
  obtain⟨_,_,_,p⟩:=(show ObjOk X.prog X.w H s.heap a (.tup xs) from I.hok a _ ea);obtain⟨o,h1,h2,_⟩:=p;exact PySem.W.kia_one PySem.W.kitx_tuple I.kIn ⟨o,h1,h2⟩ e (λz=>nomatch z) h
 | @dK a kvs ea =>
  cases (show u=Value.ref a from rx)
  obtain⟨_,_,vs,_,p⟩:=(show ObjOk X.prog X.w H s.heap a (.dK kvs) from I.hok a _ ea);obtain⟨o,es,ep,h1,h2,_⟩:=p;exact PySem.W.kia_one PySem.W.kitx_dict I.kIn ⟨o,h1,h2.1⟩ e (λz=>nomatch z) h
 | @dT a kvs ea =>
  cases (show u=Value.ref a from rx)
  obtain⟨_,_,xs,_,o,es,ep,h1,h2,_⟩:=(show ObjOk X.prog X.w H s.heap a (.dT kvs) from I.hok a _ ea);exact PySem.W.kia_one PySem.W.kitx_dict I.kIn ⟨o,h1,h2.1⟩ e (λz=>nomatch z) h
 | @ins a C dx fs ea cl ha hn htk hm =>
  cases (show u=Value.ref a from rx)
  obtain⟨mA,O,_⟩:=aB I.hok ea;obtain⟨od,J,_⟩:=O.look;exact PySem.W.kia_one (PySem.W.kitx_own (cl.get _) cl.hd ha hn htk hm) I.kIn J e (λz=>nomatch z) h
end
structure Room (k:Nat) (A:J3):Prop where
 hd:A.handled=none
 dp:A.depth + 3 * k + 5 < recursionLimit
 un:A.units + 16 * k + 200 < cLine
def Room.mono(r:Room k A)(h:j<=k):Room j A:=⟨r.hd,by have:=r.dp;omega,by have:=r.un;omega⟩
theorem Room.deeper(r:Room (k + 1) A)(env:Env):Room k (A.deeper env) :=
 ⟨r.hd,by have:=r.dp;show A.depth + 1 + 3 * k + 5 < _;omega,by have:=r.un;show A.units + 3 + 16 * k + 200 < _;omega⟩
def uR{A:J3}{C:J0}{us:xx}{kw:List (Str×xY)}:(A.under (.builtin "type.__call__" ⟨.ref C :: us,kw⟩)).depth=A.depth + 1:=by
 first | rfl | simp[Around.under,Code.weight,Code.isCreation,Code.isGuard,Code.isCaller,Code.frames,Code.isFrame,guardIds]
def uS{A:J3}{C:J0}{us:xx}{kw:List (Str×xY)}:(A.under (.builtin "type.__call__" ⟨.ref C :: us,kw⟩)).units=A.units + 1:=by
 first | rfl | simp[Around.under,Code.cUnits,Code.frames,Code.isFrame]
def Room.make(r:Room (k + 1) A)(C:J0)(us:xx)(kw:List (Str×xY)):Room k (A.under (.builtin "type.__call__" ⟨.ref C :: us,kw⟩)) :=
 ⟨r.hd,by have:=r.dp;rw[uR];omega,by have:=r.un;rw[uS];omega⟩
theorem Room.depth(r:Room k A):A.depth < recursionLimit:=by have:=r.dp;omega
theorem Room.units(r:Room k A):A.units + 64 < cLine:=by have:=r.un;omega
def JR:TA:=λ_ H Q=>Q [] H
def Jy(ta:TE)(tr:TA):TA:=λσ H Q=>ta σ H λx H1=>tr σ H1 λxs H2=>Q (x :: xs) H2
section
variable {X:Cx}{e:Expr}{es:List Expr}{te:TE}{t:TA}{pos:Pos}
def J6:PA X [] JR:=λ_ _ _ _ H Q I h=>Calls.spliced_nil ⟨[],H,I,.nil,h⟩
def J4(ha:PE X e te)(hr:PA X es t)(hs:starEach (e :: es) X.env=(false,eval e X.env) :: starEach es X.env:=by rfl):PA X (e :: es) (Jy te t):=by
 intro pos xB s σ H Q I h;rw[hs];show wpAny _ _ (spliced ((false,eval e X.env) :: backTo pos (starEach es X.env))) _ _ s;refine Calls.spliced_cons (thn (ha xB s σ H _ I h) λu s1 fv=>?_);obtain⟨x,H1,I1,r1,q1⟩:=fv;exact thn (hr pos xB s1 σ H1 _ I1 q1) λus s2 ⟨xs,H2,I2,r2,q2⟩=>⟨x :: xs,H2,I2,.cons r1 r2,q2⟩
def Zd(t:TA):TE:=λσ H Q=>t σ H λxs H1=>xs.length<=sizeLine/\∀p,H1 p=none->Q (.ref p) (upd H1 p (.tup xs))
def dL(t:TA):TE:=λσ H Q=>t σ H λxs H1=>xs.length<=sizeLine/\∀p,H1 p=none->Q (.ref p) (upd H1 p (.lst xs))
def JV(h:PA X es t):PE X (.Tuple es x1 pos) (Zd t):=by
 intro xB s σ H Q I hq;refine wpAny_Tuple_spliced (thn (h pos xB s σ H _ I hq) λus s1 fv=>?_);obtain⟨xs,H1,I1,r,z,q⟩:=fv;refine ⟨by rw[<- r.length];exact z,?_⟩;have hf:H1 s1.heap.objs.size=none:=I1.hok.fresh (jD _);refine⟨.ref s1.heap.objs.size,upd H1 s1.heap.objs.size (.tup xs),I1.laid (t':=s1.toks) (λb u e=>jB _ e) (jD _) ?_,rfl,q _ hf⟩;exact⟨z,us,r,⟨_,jK _ rfl,rfl,_,rfl⟩⟩
def Qw(h:PA X es t):PE X (.List es pos) (dL t):=by
 intro xB s σ H Q I hq;refine wpAny_List_spliced (thn (h pos xB s σ H _ I hq) λus s1 fv=>?_);obtain⟨xs,H1,I1,r,z,q⟩:=fv;refine ⟨by rw[<- r.length];exact z,?_⟩;have hf:H1 s1.heap.objs.size=none:=I1.hok.fresh (jD _);refine⟨.ref s1.heap.objs.size,upd H1 s1.heap.objs.size (.lst xs),I1.laid (t':=s1.toks) (λb u e=>jB _ e) (jD _) ?_,rfl,q _ hf⟩;exact⟨z,us,0,r,jK _ rfl⟩
end
abbrev Sp:=List V->Hp->VK->XK->Prop
abbrev CXT:=List Env->Hp->xZ->XK->xp
structure Env0 (P:J1) (w:J2) (K:xt) (mg:xq) (base:Heap) (A:J3) (outer:List Env) (s:xZ) (H:Hp):Prop where
 frames:A.frames=some outer
 mod:Mod K mg base
 bs:∀b o,base.get? b=some o->s.heap.get? b=some o/\H b=none
 bsz:base.objs.size<=s.heap.objs.size
 funs:s.heap.FunFrames base outer
 frf:∀b∈frs outer,H b=none
 hok:HOk P w H s.heap
 bare:AllBare s.gens
def CE(outer:List Env)(P:J1)(w:J2)(H:Hp)(s:xZ)(Q:VK)(u:xY)(s':xZ):Prop :=
 ∃v H',s'.os=s.os/\AllBare s'.gens/\Un (frs outer) [] H H' s.heap s'.heap/\HOk P w H' s'.heap/\RelV v u/\Q v H'
def CR(CX:CXT)(outer:List Env)(P:J1)(w:J2)(H:Hp)(s:xZ)(Q:VK)(E:XK)(r:Result)(s':xZ):Prop :=
 match r with
 | .ok (.ret u)=>CE outer P w H s Q u s'
 | .ok _=>False
 | .error e=>CX outer H s E e s'
structure FnOk (P:J1) (w:J2) (K:xt) (mg:xq) (base:Heap) (CX:CXT) (k:Nat) (f:J0) (fd:FuncData) (ps:xy) (sp:Sp):Prop where
 len:∀vs H Q E,sp vs H Q E->vs.length=ps.length
 run:∀(A:J3) (outer:List Env) (s:xZ) (H:Hp) (args:Args) (us:xx) (vs:List V) (Q:VK) (E:XK),Room k A->Env0 P w K mg base A outer s H->BindsTo s fd args (ps.zip us)->Vals vs us->sp vs H Q E ->
  codeAny (model P w) A (.call (.ref f) args) (CR CX outer P w H s Q E) s
def Env0.make{P:J1}{w:J2}{K:xt}{mg:xq}{base:Heap}{A:J3}{outer:List Env}{s:xZ}{H:Hp}(e:Env0 P w K mg base A outer s H)(C:J0)(us:xx)(kw:List (Str×xY)) :
 Env0 P w K mg base (A.under (.builtin "type.__call__" ⟨.ref C :: us,kw⟩)) outer s H:=⟨by first | exact e.frames | (simpa [Around.under,Code.envs,Code.isFrame,pushEnvs] using e.frames),e.mod,e.bs,e.bsz,e.funs,e.frf,e.hok,e.bare⟩
section
variable {X:Cx}{xB:xr}{σ:St}{H:Hp}{s s':xZ}
def Inv.env0(I:Inv X xB σ H s):Env0 X.prog X.w X.K X.mg X.base X.A X.stack s H :=
 ⟨I.ok.frames,I.ok.mod,I.bs,jh I.ok.bsz I.sz,I.stack,I.stkFree,I.hok,I.bare⟩
def Inv.after(I:Inv X xB σ H s)(h:CE X.stack X.prog X.w H s Q u s'):EP X xB σ Q u s':=by
 obtain⟨v,H',os,bare,un,hok,r,q⟩:=h;obtain⟨hh,g,d,t,os'⟩:=s';obtain rfl:os'=s.os:=os;exact⟨v,H',I.call (h':=hh) (g':=g) (d':=d) (t':=t) (ch:=[]) un hok bare (λb z=>absurd z 'j'),r,q⟩
end
def ZD(sp:Sp)(dvs:List V)(E:XK)(t:TA):TE:=λσ H Q=>t σ H λvs H1=>sp (vs ++ dvs) H1 Q E
def dM(C:J0)(m:Str)(sp:Sp)(dvs:List V)(E:XK)(ta:TE)(t:TA):TE:=λσ H Q=>ta σ H λx H1=>∃a dx fs,x = .ref a/\H1 a=some (.ins C dx fs)/\fs.lookup m=none /\
 t σ H1 λvs H2=>sp (x :: (vs ++ dvs)) H2 Q E
def ZE(C:J0)(sp:Sp)(dvs:List V)(E:XK)(t:TA):TE:=λσ H Q=>t σ H λvs H1=>∀x dx,H1 x=none->H1 dx=none->dx≠x ->
 sp (.ref x :: (vs ++ dvs)) (upd (upd H1 dx (.own x)) x (.ins C dx [])) (λv H2=>v = .non/\Q (.ref x) H2) E
def Binds(K:xt)(fd:FuncData)(ps:xy)(ds:xx):Prop :=
 ∀(s:xZ) (us:xx),K.In s.heap->(us ++ ds).length=ps.length->BindsTo s fd ⟨us,[]⟩ (ps.zip (us ++ ds))
def Binds.all{K:xt}{fd:FuncData}{ps:xy}(h:∀us:xx,us.length=ps.length->bindArgs fd ⟨us,[]⟩=pure (ps.zip us)):Binds K fd ps []:=λs us _ hl=>by
 rw[ju]at hl ⊢;exact .of_eq (h us hl)
def QC(CX:CXT)(X:Cx)(E:XK):Prop:=∀(xB:xr) (σ:St) (H:Hp) (s:xZ) (e:xY) (s':xZ),Inv X xB σ H s->CX X.stack H s E e s'->X.xe e s'
section
variable {X:Cx}{CX:CXT}{k:Nat}{f C:J0}{fd:FuncData}{ps:xy}{sp:Sp}{dvs:List V}{ds:xx}{E:XK}{x m:Str}{p pos apos:Pos}{e o:Expr}{es:List Expr}{ta:TE}{t:TA}
def dN{xB:xr}{σ:St}{H:Hp}{s:xZ}{Q:VK}{us:xx}{vs:List V}(F:FnOk X.prog X.w X.K X.mg X.base CX k f fd ps sp)(hr:Room k X.A)(hb:Binds X.K fd ps ds)(hd:Vals dvs ds)(hx:QC CX X E)
 (I:Inv X xB σ H s) (r:Vals vs us) (h:sp (vs ++ dvs) H Q E):wpAny (model X.prog X.w) X.A (call (.ref f) us) (EP X xB σ Q) X.xe s:=by
 have r2:Vals (vs ++ dvs) (us ++ ds):=r.append hd;have hl:(us ++ ds).length=ps.length:=by rw[<- r2.length];exact F.len _ _ _ _ h
 refine wpAny_call (xh (F.run X.A X.stack s H ⟨us,[]⟩ (us ++ ds) (vs ++ dvs) Q E hr I.env0 (hb s us I.kIn hl) r2 h) λr s' hq=>?_)
 cases r with
 | error e=>exact hx xB σ H s e s' I hq
 | ok fl =>
  cases fl with
  | ret u=>exact I.after hq
  | next=>exact False.elim hq
  | brk=>exact False.elim hq
  | cont=>exact False.elim hq
def iX(F:FnOk X.prog X.w X.K X.mg X.base CX k f fd ps sp)(hr:Room k X.A)(hg:Gl X x)(hm:X.mg x=some (.ref f))(hk:PySem.W.keepIn X.K (.ref f)=true)(hb:Binds X.K fd ps ds)(hd:Vals dvs ds)(hx:QC CX X E)
 (ha:PA X (e :: es) t) (hdb:(x == ("__debug__" : Str))=false:=by decide) (he:starEach (e :: es) X.env=(false,eval e X.env) :: starEach es X.env:=by rfl) (hpl:(backTo pos (starEach es X.env)).any (·.1)=false:=by rfl) :
 PE X (.Call (.Name x p) (e :: es) [] pos) (ZD sp dvs E t):=by
 intro xB s σ H Q I h;refine qN (dm I hg hm ?_ hdb);refine PySem.W.callWith_K (h₀:=X.base) I.ok.mod.kin hk (thn (ha pos xB s σ H _ I h) λus s1 fv=>?_) he hpl;obtain⟨vs,H1,I1,r,q⟩:=fv;refine ⟨I1.kIn,?_⟩;exact dN F hr hb hd hx I1 r q
def uT{pl:Sem Bool}(he:PE X o ta)(c:Cls X.K C)(hm:Meth X.K C m f)(F:FnOk X.prog X.w X.K X.mg X.base CX k f fd ps sp)(hr:Room k X.A)(hb:Binds X.K fd ps ds)(hd:Vals dvs ds)(hx:QC CX X E)(ha:PA X (e :: es) t)
 (xX:starEach (e :: es) X.env=(false,eval e X.env) :: starEach es X.env:=by rfl) (hpl:(backTo pos (starEach es X.env)).any (·.1)=false:=by rfl)
 (ht:eval (.Call (.Attribute o m apos) (e :: es) [] pos) X.env=(do
  let ov <- eval o X.env
  standAt apos.atName
  let (f,first) <- holding [ov] (getMethod ov m pl)
  callWith pos f first (backTo pos (starEach (e :: es) X.env)) (backToKw pos (keywordEach [] X.env))):=by rfl) :
 PE X (.Call (.Attribute o m apos) (e :: es) [] pos) (dM C m sp dvs E ta t):=by
 intro xB s σ H Q I h;refine PySem.W.methodCall_KW (pl:=pl) (thn (he xB s σ H _ I h) λu s1 fv=>?_) ht;obtain⟨x,H1,I1,rx,a,dx,fs,ex,ea,l,q⟩:=fv;subst ex;obtain rfl:u=Value.ref a:=rx;refine uM I1 ea c hm l ?_;refine PySem.W.callWith_K (first:=[.ref a]) (h₀:=X.base) I.ok.mod.kin hm.kp (thn (ha pos xB s1 σ H1 _ I1 q) λus s2 fv=>?_) xX hpl;obtain⟨vs,H2,I2,r,q2⟩:=fv;refine ⟨I2.kIn,?_⟩;exact dN (us := .ref a :: us) (vs := .ref a :: vs) F hr hb hd hx I2 (.cons rfl r) q2
structure Mk (K:xt) (C f:J0):Prop where
 makes:PySem.W.makesIn K C=true
 init:PySem.W.findIn K (.ref C) "__init__" = some (some (.ref f))
 fn:PySem.W.isFn K (.ref f)=true
 kp:PySem.W.keepIn K (.ref C)=true
def uU{xB:xr}{σ:St}{H:Hp}{s:xZ}{Q:VK}{us:xx}{vs:List V}(M:Mk X.K C f)(F:FnOk X.prog X.w X.K X.mg X.base CX k f fd ps sp)(hr:Room (k + 1) X.A)(hb:Binds X.K fd ps ds)(hd:Vals dvs ds)
 (hx:QC CX X E) (I:Inv X xB σ H s) (r:Vals vs us)
 (h:∀x dx,H x=none->H dx=none->dx≠x->sp (.ref x :: (vs ++ dvs)) (upd (upd H dx (.own x)) x (.ins C dx [])) (λv H2=>v = .non/\Q (.ref x) H2) E) :
 wpAny (model X.prog X.w) X.A (call (.ref C) us) (EP X xB σ Q) X.xe s:=by
 have hq:=h (s.heap.objs.size + 1) s.heap.objs.size (I.hok.fresh (Nat.le_succ _)) (I.hok.fresh (jD _)) (jQ (Nat.lt_succ_self _));have I2:=Inv.made (C:=C) I;have r2:Vals (V.ref (s.heap.objs.size + 1) :: (vs ++ dvs)) (Value.ref (s.heap.objs.size + 1) :: (us ++ ds)) := .cons rfl (r.append hd)
 have hl:(Value.ref (s.heap.objs.size + 1) :: us ++ ds).length=ps.length:=by
  have e:=r2.length;rw[F.len _ _ _ _ hq]at e;exact e.symm
 refine wpAny_call (uI (f:=f) I.kIn M.makes M.init (beq_iff_eq.mp M.fn) (xh (F.run _ X.stack _ _ ⟨Value.ref (s.heap.objs.size + 1) :: us,[]⟩ (Value.ref (s.heap.objs.size + 1) :: (us ++ ds)) _ _ E (hr.make C us [])
  (I2.env0.make C us []) (hb _ (Value.ref (s.heap.objs.size + 1) :: us) I2.kIn hl) r2 hq) λr s' hq'=>?_))
 cases r with
 | error e=>exact hx xB σ _ _ e s' I2 hq'
 | ok fl =>
  cases fl with
  | ret u =>
   obtain⟨v,H',I3,rv,ev,q3⟩:=I2.after hq';subst ev;exact⟨rv,⟨V.ref (s.heap.objs.size + 1),H',I3,rfl,q3⟩⟩
  | next=>exact False.elim hq'
  | brk=>exact False.elim hq'
  | cont=>exact False.elim hq'
def uV(M:Mk X.K C f)(F:FnOk X.prog X.w X.K X.mg X.base CX k f fd ps sp)(hr:Room (k + 1) X.A)(hg:Gl X x)(hm:X.mg x=some (.ref C))(hb:Binds X.K fd ps ds)(hd:Vals dvs ds)(hx:QC CX X E)
 (ha:PA X (e :: es) t) (hdb:(x == ("__debug__" : Str))=false:=by decide) (he:starEach (e :: es) X.env=(false,eval e X.env) :: starEach es X.env:=by rfl) (hpl:(backTo pos (starEach es X.env)).any (·.1)=false:=by rfl) :
 PE X (.Call (.Name x p) (e :: es) [] pos) (ZE C sp dvs E t):=by
 intro xB s σ H Q I h;refine qN (dm I hg hm ?_ hdb);refine PySem.W.callWith_K (h₀:=X.base) I.ok.mod.kin M.kp (thn (ha pos xB s σ H _ I h) λus s1 fv=>?_) he hpl;obtain⟨vs,H1,I1,r,q⟩:=fv;refine ⟨I1.kIn,?_⟩;exact uU M F hr hb hd hx I1 r q
end
structure FnScope (N P:xy) (sc:Scope):Prop where
 kind:sc.kind = .function
 co:sc.isCoroutine=false
 gen:sc.isGenerator=false
 nd:N.Nodup
 pre:N.take P.length=P
 par:∀x∈P,sc.names.lookup x=some .local\/sc.names.lookup x=some .cell
 nofree:∀y∈sc.names,y.2 ≠ .free
theorem iY{kindOf:Str->Option NameKind}:∀{binds:List (Str×xY)}{m:xq},(∀v,(x,v)∉binds)->bindL kindOf binds m x=m x
 | [],_,_=>rfl
 | (n,v) :: r,m,h=>by
  unfold bindL;rw[iY λw hw=>h w (jS _ hw)];split
  . have:x≠n:=by rintro rfl;exact h v jb
    simp[this]
  . rfl
theorem iZ{kindOf:Str->Option NameKind}:∀{binds:List (Str×xY)}{m:xq},(∀v,(x,v)∉binds)->bindC kindOf binds m x=m x
 | [],_,_=>rfl
 | (n,v) :: r,m,h=>by
  unfold bindC;rw[iZ λw hw=>h w (jS _ hw)];split
  . rfl
  . have:x≠n:=by rintro rfl;exact h v jb
    simp[this]
theorem l5{kindOf:Str->Option NameKind}{x:Str}{v:xY}:∀{P:xy}{vs:xx}{i:Nat}{m:xq},P.Nodup->P[i]? = some x->vs[i]? = some v->kindOf x=some .local ->
 bindL kindOf (P.zip vs) m x=some v
 | [],_,_,_,_,h,_,_=>by simp at h
 | _ :: _,[],_,_,_,_,h,_=>by simp at h
 | p :: P,w :: vs,0,m,nd,h1,h2,hk=>by
  simp at h1 h2;subst h1;subst h2;show bindL kindOf ((p,w) :: P.zip vs) m p=_;unfold bindL;rw[iY λv hv=>(j5.mp nd).1 (List.of_mem_zip hv).1,qh hk];simp
 | p :: P,w :: vs,i + 1,m,nd,h1,h2,hk=>by
  show bindL kindOf ((p,w) :: P.zip vs) m x=_;unfold bindL;exact l5 (i:=i) (j5.mp nd).2 (by simpa using h1) (by simpa using h2) hk
theorem l7{kindOf:Str->Option NameKind}{x:Str}{v:xY}:∀{P:xy}{vs:xx}{i:Nat}{m:xq},P.Nodup->P[i]? = some x->vs[i]? = some v->kindOf x≠some .local ->
 bindC kindOf (P.zip vs) m x=some v
 | [],_,_,_,_,h,_,_=>by simp at h
 | _ :: _,[],_,_,_,_,h,_=>by simp at h
 | p :: P,w :: vs,0,m,nd,h1,h2,hk=>by
  simp at h1 h2;subst h1;subst h2;show bindC kindOf ((p,w) :: P.zip vs) m p=_;unfold bindC;rw[iZ λv hv=>(j5.mp nd).1 (List.of_mem_zip hv).1,qg hk];simp
 | p :: P,w :: vs,i + 1,m,nd,h1,h2,hk=>by
  show bindC kindOf ((p,w) :: P.zip vs) m x=_;unfold bindC;exact l7 (i:=i) (j5.mp nd).2 (by simpa using h1) (by simpa using h2) hk
def JS(N:xy)(vs:List V):St:=vs.map some ++ List.replicate (N.length - vs.length) none
def QO(CX:CXT)(P:J1)(w:J2)(K:xt)(mg:xq)(base:Heap)(N:xy)(qual:Str)(scope:Scope)(f:J0)(cd:xY)(A:J3)(outer:List Env)(s:xZ)(H:Hp)(E:XK):Cx where
 prog:=P
 w:=w
 K:=K
 mg:=mg
 base:=base
 A:=A.deeper (envOfC qual scope s.heap.objs.size f cd)
 N:=N
 s₀:=s
 H₀:=H
 env:=envOfC qual scope s.heap.objs.size f cd
 outer:=outer
 stack:=envOfC qual scope s.heap.objs.size f cd :: outer
 ex:=[]
 calm:=true
 fn:=λ_=>true
 pn:=[]
 xe:=λe s'=>wpAny (model P w) (A.deeper (envOfC qual scope s.heap.objs.size f cd)) (leaving (envOfC qual scope s.heap.objs.size f cd) e) (λ_ s''=>CX outer H s E e s'') (λe' s''=>CX outer H s E e' s'') s'
def lh{sc:Scope}{n:Nat}{x:Str}(h:sc.names.lookup x=some .cell):∃c,(cellsFrom n sc.names []).lookup x=some c:=by
 have q:=PySem.W.cellsFrom_some sc.names n [] (.inl h);exact jy.mp q
def uW{CX:CXT}{P:J1}{w:J2}{K:xt}{mg:xq}{base:Heap}{N ps:xy}{qual:Str}{scope:Scope}{f:J0}{cd:xY}{A:J3}{outer:List Env}{s s1:xZ}{H:Hp}{E:XK}{us:xx}{vs:List V}
 (S:FnScope N ps scope) (hd:A.handled=none) (e0:Env0 P w K mg base A outer s H) (hl:vs.length=ps.length) (r:Vals vs us)
 (x:InCallC s s.heap.objs.size (bindL (envOfC qual scope s.heap.objs.size f cd).kindOf (ps.zip us) λ_=>none) (cellsFrom (s.heap.objs.size + 1) scope.names []) (bindC (envOfC qual scope s.heap.objs.size f cd).kindOf (ps.zip us) λ_=>none) s1) :
 Inv (QO CX P w K mg base N qual scope f cd A outer s H E) [] (JS N vs) H s1:=by
 have hpl:ps.length<=N.length:=by have:=qP List.length S.pre;rw[jT]at this;omega
 obtain⟨h1,tk,rfl,hk⟩:=x.done;have noA:∀b:J0,b∉(QO CX P w K mg base N qual scope f cd A outer s H E).ex:=λb z=>absurd (show b∈([]:List J0) from z) 'j'
 refine⟨⟨e0.mod,S.kind,rfl,rfl,jD _,λy z c h1 h2=>?_,λy hy=>?_,λy c _ h=>?_,λ_=>hd,Around.frames_deeper e0.frames,.inr ⟨rfl,rfl⟩,λb z=>absurd z (noA b),e0.bs,e0.bsz,λb _ _=>noA b,λb z=>absurd z (noA b),e0.funs,e0.frf⟩,
  rfl,e0.bare,Un.kept hk,⟨_,x.toInCall.ns,λi y v h1 h2 h3=>?_⟩,λy c h=>⟨_,x.cell y c h⟩,e0.hok.fresh (jD _),λy c h=>?_,λp hp=>absurd (show p∈([]:xr) from hp) 'j',e0.hok.kept hk,?_⟩
 . exact name_of_addr x.apart (PySem.mem_of_lookup h1) (PySem.mem_of_lookup h2)
 . have hy:scope.names.lookup y=some .cell\/scope.names.lookup y=some .free:=hy;rcases hy with hy | hy
   . exact lh hy
   . exact absurd rfl (S.nofree _ (PySem.mem_of_lookup hy))
 . exact kE (x.above y c (PySem.mem_of_lookup h))
 . have hi:i < vs.length:=by
    unfold JS at h2
    by_cases hi:i < vs.length
    . exact hi
    . rw[jw (by simpa using hi)]at h2;rw[List.getElem?_replicate]at h2;split at h2<;>cases h2
   have ha:vs[i]? = some v:=by
    unfold JS at h2;rw[kW (by simpa using hi),jF]at h2
    cases e:vs[i]? with
    | none=>rw[e]at h2;cases h2
    | some a=>rw[e]at h2;cases h2;rfl
   obtain⟨u,hu,rv⟩:=r.get ha
   have hp:ps[i]? = some y:=by
    rw[<- S.pre,kf 'd'];exact h1
   have ndP:ps.Nodup:=by rw[<- S.pre];exact S.nd.sublist (kC _ _)
   refine⟨u,rv,?_⟩;rcases S.par y (jq hp) with k | k
   . exact .inl ⟨k,l5 ndP hp hu k⟩
   . obtain⟨c,e⟩:=lh (n:=s.heap.objs.size + 1) k;refine .inr ⟨.inl k,c,e,?_⟩;have q:=x.cell y c e;rw[l7 ndP hp hu (by show scope.names.lookup y≠_;rw[k];decide)]at q;exact q
 . exact e0.hok.fresh (kE (x.above y c (PySem.mem_of_lookup h)))
 . unfold JS;show _=N.length;rw[jI,jA,List.length_replicate];omega
def dO{CX:CXT}{P:J1}{w:J2}{K:xt}{mg:xq}{base:Heap}{k:Nat}{f:J0}{name qual:Str}{params:Arguments}{body:List Stmt}{scope:Scope}{dV kV xQ pm xD ct oc:xY}{an od:Option J0}
 {osl:Array (xu)}{N ps:xy}{sp:Sp} (lk:K.lookup f=some ⟨oc,od,.func (PySem.W.fnOf name qual params body scope dV kV xQ pm an xD ct),osl⟩) (hcd:PySem.W.codeIn K xD qual=true) (S:FnScope N ps scope)
 (len:∀vs H Q E,sp vs H Q E->vs.length=ps.length)
 (xL:∀(A:J3) (outer:List Env) (s:xZ) (H:Hp) (vs:List V) (Q:VK) (E:XK),Room k (A.deeper (envOfC qual scope s.heap.objs.size f xD))->sp vs H Q E ->
  ∃t,PSs (QO CX P w K mg base N qual scope f xD A outer s H E) body t/\t { nx:=λ_ H'=>Q .non H',rt:=Q } (JS N vs) H) :
 FnOk P w K mg base CX (k + 1) f (PySem.W.fnOf name qual params body scope dV kV xQ pm an xD ct) ps sp:=by
 refine⟨len,λA outer s H args us vs Q E hr e0 hb r hsp=>?_⟩;have hl:=len _ _ _ _ hsp;have KX:K.In s.heap:=e0.mod.kin.keeps λb o e=>(e0.bs b o e).1;have lim:s.heap.NoLimit:=e0.mod.nolimit.keeps λb o e=>(e0.bs b o e).1
 have hkind:∀y∈ps.zip us,scope.names.lookup y.1=some .local\/(scope.names.lookup y.1=some .cell/\((cellsFrom (s.heap.objs.size + 1) scope.names []).lookup y.1).isSome=true):=λ⟨n,v⟩ hy=>by
  rcases S.par n (List.of_mem_zip hy).1 with q | q
  . exact .inl q
  . exact .inr ⟨q,PySem.W.cellsFrom_some _ _ _ (.inl q)⟩
 refine codeAny_call_function hr.depth (KX _ _ lk) rfl S.co S.gen rfl (PySem.W.codeRec_of KX hcd) (hb _ _ _ _ ?_);refine wpAny_newFunctionEnv_cells S.kind hkind λenv he s1 x=>?_;subst he;refine⟨lim.keeps x.toInCall.keep,codeAny_func ?_⟩;obtain⟨t,ht,hq⟩:=xL A outer s H vs Q E (hr.deeper _) hsp;have I:Inv (QO CX P w K mg base N qual scope f xD A outer s H E) [] (JS N vs) H s1:=uW S hr.hd e0 hl r x;refine qQ (ht [] s1 (JS N vs) H _ I hq) (λfl s' hs=>?_) λe s' hs=>hs
 have fin:∀{xE:St}{H':Hp}{v:V}{u:xY},Inv (QO CX P w K mg base N qual scope f xD A outer s H E) [] xE H' s'->RelV v u->Q v H'->CE outer P w H s Q u s' :=
  fun {xE H' v u} J rv q=>⟨v,H',J.os,J.bare,J.base,J.hok,rv,q⟩
 cases fl with
 | ret u =>
  obtain⟨v,xE,H',J,rv,q⟩:=hs;exact fin J rv q
 | next =>
  obtain⟨xE,H',J,q⟩:=hs;exact fin (v:=V.non) (u:=Value.none) J rfl q
 | brk =>
  obtain⟨_,_,_,q⟩:=hs;exact False.elim q
 | cont =>
  obtain⟨_,_,_,q⟩:=hs;exact False.elim q
section
variable {X:Cx}{x:Str}{p pos:Pos}{e:Expr}{es:List Expr}{t:TA}{id T:String}{r:List V->Hp->VK->Prop}
def tCB(r:List V->Hp->VK->Prop)(t:TA):TE:=λσ H Q=>t σ H λvs H1=>r vs H1 Q
theorem Qk(hc:Q7 X (.builtin id) r)(hg:Gl X x)(hm:X.mg x=none)(hv:bootBuiltins x=some (.builtin id))(ha:PA X (e :: es) t)(hn:x ≠ "__name__" := by decide)(hdb:(x == ("__debug__" : Str))=false:=by decide)
 (he:starEach (e :: es) X.env=(false,eval e X.env) :: starEach es X.env:=by rfl) (hpl:(backTo pos (starEach es X.env)).any (·.1)=false:=by rfl):PE X (.Call (.Name x p) (e :: es) [] pos) (tCB r t):=by
 intro xB s σ H Q I h;refine qN (QB I hg hm hv ?_ hn hdb);exact PyProof.Rows.callWith_builtin1 (thn (ha pos xB s σ H _ I h) λus s1 ⟨vs,H1,I1,r1,q1⟩=>hc xB s1 σ H1 vs us Q I1 r1 q1) he hpl
def QD(hc:Q7 X (.type T) r)(hg:Gl X x)(hm:X.mg x=none)(hv:bootBuiltins x=some (.type T))(ha:PA X (e :: es) t)(hn:x ≠ "__name__" := by decide)(hdb:(x == ("__debug__" : Str))=false:=by decide)
 (he:starEach (e :: es) X.env=(false,eval e X.env) :: starEach es X.env:=by rfl) (hpl:(backTo pos (starEach es X.env)).any (·.1)=false:=by rfl):PE X (.Call (.Name x p) (e :: es) [] pos) (tCB r t):=by
 intro xB s σ H Q I h;refine qN (QB I hg hm hv ?_ hn hdb);exact PyProof.Rows.callWith_type1 (thn (ha pos xB s σ H _ I h) λus s1 ⟨vs,H1,I1,r1,q1⟩=>hc xB s1 σ H1 vs us Q I1 r1 q1) he hpl
end
end L2
namespace HT
open PySem PyProof.Rows
def lexLt:xA->xA->Bool
 | [],[]=>false
 | [],_ :: _=>true
 | _ :: _,[]=>false
 | x :: xs,y :: ys=>if x=y then lexLt xs ys else decide (x < y)
def lexLt_cons(x y:Int)(xs ys:xA):lexLt (x :: xs) (y :: ys)=if x=y then lexLt xs ys else decide (x < y):=rfl
def uX:lexLt [] []=false:=rfl
def uY(y:Int)(ys:xA):lexLt [] (y :: ys)=true:=rfl
def lexLt_cons_nil(x:Int)(xs:xA):lexLt (x :: xs) []=false:=rfl
def uZ(A:J3)(s:xZ)(a:Int)(t:Tok)(c:Int)(u:Tok):∃e,SeqAt.EqAt A s (.int a t) (.int c u) e/\(e=true↔a=c) :=
 ⟨(a == c),SeqAt.EqAt.int_int a t c u,by simp⟩
def v6(A:J3)(s:xZ)(a:Int)(t:Tok)(c:Int)(u:Tok)(prog:J1)(w:J2)(E:xp)(Q:xp)(h:Q (.bool (decide (a < c))) s) :
 wpAny (model prog w) A (richCompare .Lt (.int a t) (.int c u)) Q E s :=
 (PyProof.Rows.lt_int h:wpAny (model prog w) A (compareOp .Lt (.int a t) (.int c u)) Q E s)
section
open PySem.SeqAt
open PySem.AutoSeq1 (wpAny_loadPart')
open PySem.MeetsSeq PySem.MeetsSeq2 PySem.MeetsSeq3
def v7(l b:J0)(items items2:xw)(n n2:Nat)(dd dd2:Option J0)(sl sl2:Array (xu))(ns ms:xA)(hi:IntsAre items.toList ns)(hj:IntsAre items2.toList ms) :
 Meets (Builtin.«tuple.__lt__» ⟨[.ref l,.ref b],[]⟩)
  (λ_ R s=>s.heap.get? l=some { cls := .type "tuple",dict:=dd,data := .seq items n,slots:=sl }/\s.heap.get? b=some { cls := .type "tuple",dict:=dd2,data := .seq items2 n2,slots:=sl2 } /\
   R (.ok (.ret (.bool (lexLt ns ms)))) s) :=
 .of_wp λprog w A R s h=>by
  obtain⟨hp,g,d,tk,os⟩:=s;obtain⟨hl,hb,h⟩:=h;have f2:=AutoSeq1.sub_tuple_tuple;have z1:items.size=ns.length:=by rw[<- hi.length];simp
  have z2:items2.size=ms.length:=by rw[<- hj.length];simp
  wp_walk using wpAny_loadPart' hl,wpAny_loadPart' hb,wpAny_forIn_list _ (λxG b s'=>b.1=none/\s'=⟨hp,g,d,tk,os⟩/\∃(vs ws:xx) (ns' ms':xA),xG=vs.zip ws /\
   IntsAre vs ns'/\IntsAre ws ms'/\ns'.length + items2.size=ms'.length + items.size/\R (.ok (.ret (.bool (lexLt ns' ms')))) ⟨hp,g,d,tk,os⟩) _
  case turn =>
   rintro⟨y,x⟩ xG b s' ⟨hb',rfl,vs,ws,ns',ms',hz,hvi,hwi,xH,hR⟩
   cases hvi with
   | nil=>rw[List.zip_nil_left]at hz;cases hz
   | cons a t hvi' =>
    cases hwi with
    | nil=>rw[List.zip_nil_right]at hz;cases hz
    | cons c u hwi' =>
     rw[List.zip_cons_cons]at hz;injection hz with hyx hrest
     injection hyx with hy hx
     subst hy hx;rw[lexLt_cons]at hR;simp only[jP]at xH;obtain⟨e,he,hiff⟩:=uZ A.in1 ⟨hp,g,d,tk,os⟩ a t c u;refine q8 (he prog w _ _ ?_)
     cases e with
     | true =>
      rw[qh (hiff.mp rfl)]at hR;wp_walk;exact⟨rfl,rfl,_,_,_,_,hrest,hvi',hwi',by omega,hR⟩
     | false =>
      rw[qg (λq=>absurd (hiff.mpr q) jR)]at hR;have hri:=v6 A.in1 ⟨hp,g,d,tk,os⟩ a t c u prog w;wp_walk using hri;exact⟨_,rfl,by simpa using hR⟩
  case fin =>
   rintro⟨b1,b2⟩ s' ⟨hb',rfl,vs,ws,ns',ms',hz,hvi,hwi,xH,hR⟩;simp only at hb';subst hb'
   have hv:lexLt ns' ms'=decide (items.size < items2.size):=by
    cases hvi with
    | nil =>
     cases hwi with
     | nil =>
      simp only[kU]at xH;rw[uX];exact(qk 'd').symm
     | cons c u hw =>
      simp only[kU,jP]at xH;rw[uY];exact(qm 'd').symm
    | cons a t hv =>
     cases hwi with
     | nil =>
      simp only[kU,jP]at xH;rw[lexLt_cons_nil];exact(qk 'd').symm
     | cons c u hw =>
      rw[List.zip_cons_cons]at hz
      cases hz
   rw[hv]at hR;wp_walk;exact⟨_,rfl,by simpa [Builtin.Tuple.tupleCompareSizes] using hR⟩
  case h =>
   exact⟨rfl,rfl,items.toList,items2.toList,ns,ms,rfl,hi,hj,by omega,h⟩
end
section
variable {prog:J1}{w:J2}{A:J3}{E:xp}{s:xZ}
theorem lt_tupInts(hl:IsTup s.heap l items)(hb:IsTup s.heap b items2)(hi:IntsAre items.toList ns)(hj:IntsAre items2.toList ms)
 (hu:A.units < cLine) (h:Q (.bool (lexLt ns ms)) s):wpAny (model prog w) A (compareOp .Lt (.ref l) (.ref b)) Q E s:=by
 obtain⟨⟨cls,dd,data,sl⟩,ho,hc,n,hd⟩:=id hl;obtain⟨⟨cls2,dd2,data2,sl2⟩,xR,hc2,n2,hd2⟩:=id hb;simp only at hc hd hc2 hd2;subst hc hd hc2 hd2
 exact richCompare_meets_room (op := .Lt) ⟨_,ho,rfl⟩ ⟨_,xR,rfl⟩ PySem.F.slot_tuple_lt PySem.F.entry_tuple_lt (PySem.F.args_tuple_lt_2 _ _) (v7 l b items items2 n n2 dd dd2 sl sl2 ns ms hi hj)
  ⟨ho,xR,show Value.bool (lexLt ns ms)≠Value.notImplemented/\Q (.bool (lexLt ns ms)) s from⟨(λx=>nomatch x),h⟩⟩ hu
theorem cat_tup(ht:IsTup s.heap t vs.toArray)(hb:IsTup s.heap b ws.toArray)(hv:vs≠[])
 (h1:ws=[]->Q (.ref t) s) (h2:ws≠[]->Q (.ref s.heap.objs.size) { s with heap:=s.heap.push { cls := .type "tuple",data := .seq (vs ++ ws).toArray } })
 (hsz:vs.length + ws.length<=sizeLine):wpAny (model prog w) A (binaryOp .Add (.ref t) (.ref b)) Q E s:=by
 obtain⟨⟨cls,dd,data,sl⟩,ho,hc,n,hd⟩:=id ht;obtain⟨⟨cls2,dd2,data2,sl2⟩,xR,hc2,n2,hd2⟩:=id hb;simp only at hc hd hc2 hd2;subst hc hd hc2 hd2;have e:vs.toArray ++ ws.toArray=(vs ++ ws).toArray:=by simp
 by_cases hw:ws=[]
 . exact concat_meets ⟨_,ho,rfl⟩ ⟨_,xR,rfl⟩ noFill_tuple_add seq_tuple_add PySem.F.slot_tuple_add PySem.F.entry_tuple_add (PySem.F.args_tuple_add_2 _ _)
    (tuple_addW1 t b vs.toArray ws.toArray n n2 dd dd2 sl sl2 (by simpa using hv) (by simp[hw])) ⟨ho,xR,h1 hw⟩
 . refine concat_meets ⟨_,ho,rfl⟩ ⟨_,xR,rfl⟩ noFill_tuple_add seq_tuple_add PySem.F.slot_tuple_add PySem.F.entry_tuple_add (PySem.F.args_tuple_add_2 _ _)
    (tuple_addW2 t b vs.toArray ws.toArray n n2 dd dd2 sl sl2 (by simpa using hv) (by simpa using hw) (by rw[jH,jH];exact hsz)) ⟨ho,xR,?_⟩
   rw[e];exact h2 hw
def sIx(n d:Nat):Option Int->Nat
 | none=>d
 | some v=>if v < 0 then(v + (n:Int)).toNat else min v.toNat n
def sIx_none(n d:Nat):sIx n d none=d:=rfl
def sIx_nat(n d k:Nat):sIx n d (some (k:Int))=min k n:=by
 show(if (k:Int) < 0 then((k:Int) + (n:Int)).toNat else min (k:Int).toNat n)=min k n;rw[qg 'd',jp]
def v8(n d:Nat)(hd:d<=n)(o:Option Int):sIx n d o<=n:=by
 cases o with
 | none=>exact hd
 | some v =>
  show(if v < 0 then(v + (n:Int)).toNat else min v.toNat n)<=n
  by_cases hv:v < 0
  . rw[qh hv];omega
  . rw[qg hv];exact Nat.min_le_right _ _
def lj(v:Int)(n d:Nat):(if v < 0 then max (v + (n:Int)) 0 else min v (n:Int))=((sIx n d (some v):Nat):Int):=by
 show(if v < 0 then max (v + (n:Int)) 0 else min v (n:Int))=(((if v < 0 then(v + (n:Int)).toNat else min v.toNat n):Nat):Int)
 by_cases hv:v < 0
 . simp only[qh hv];omega
 . simp only[qg hv];omega
def v9(lo hi:Option Int)(n:Nat):Builtin.Slice.sliceAdjust lo hi 1 (n:Int)=(((sIx n 0 lo:Nat):Int),((sIx n n hi:Nat):Int)):=by
 have h1:¬((1:Int) < 0):=by omega
 unfold Builtin.Slice.sliceAdjust;simp only[h1,xm];refine Prod.ext ?_ ?_
 . cases lo with
   | none=>rfl
   | some v=>exact lj v n 0
 . cases hi with
   | none=>rfl
   | some v=>exact lj v n n
def va(i j:Nat):Builtin.Slice.slicePlaces (i:Int) (j:Int) 1=j - i:=by
 unfold Builtin.Slice.slicePlaces;have h1:(1:Int) > 0:=by omega
 simp only[h1,if_true,Int.ediv_one];split<;>omega
def ll(p:IsPart v o)(h:Q o s):wpAny (model prog w) A (Builtin.Slice.slicePartIndex v) Q E s:=by
 cases p with
 | none=>exact slicePart_none h
 | int i t=>exact slicePart_int h
theorem lq{lo hi:Option Int}{n:Nat}{Q:Int×Int×Nat->xZ->Prop}(hs:s.heap.IsSliceOf sl vl vu .none)(pl:IsPart vl lo)(pu:IsPart vu hi)
 (h:Q (((sIx n 0 lo:Nat):Int),1,sIx n n hi - sIx n 0 lo) s):wpAny (model prog w) A (Builtin.Slice.sliceApplied (.ref sl) (pure (n:Int))) Q E s:=by
 obtain⟨os,hos,hcs,hds⟩:=id hs;unfold Builtin.Slice.sliceApplied Builtin.Slice.sliceFields;refine q8 (q8 (qq hos hds (x:=vl) rfl (q8 (qq hos hds (x:=vu) rfl (q8 (qq hos hds (x := .none) rfl (qf ?_)))))));refine q8 (slicePart_none ?_);show wpAny _ _ (if ((1:Int) == 0)=true then _ else _) _ _ s;rw[qg 'f'];refine q8 (ll pl (q8 (ll pu (q8 (qf ?_)))));show wpAny _ _ (match Builtin.Slice.sliceAdjust lo hi 1 (n:Int) with | (lo,hi)=>pure (lo,(1:Int),Builtin.Slice.slicePlaces lo hi 1)) _ _ s;rw[v9 lo hi n];show wpAny _ _ (pure (((sIx n 0 lo:Nat):Int),(1:Int),Builtin.Slice.slicePlaces ((sIx n 0 lo:Nat):Int) ((sIx n n hi:Nat):Int) 1)) _ _ s;rw[va];exact qf h
def vb(xs:xw)(i k:Nat):((List.range k).filterMap λ(m:Nat)=>xs[((i:Int) + (m:Int) * 1).toNat]?).toArray=((xs.toList.drop i).take k).toArray:=by
 have e:(λ(m:Nat)=>xs[((i:Int) + (m:Int) * 1).toNat]?)=λm=>xs[i + m]? := by
  funext m
  have:((i:Int) + (m:Int) * 1).toNat=i + m:=by omega
  rw[this]
 rw[e];have:=pick_run xs i k;rw[List.filterMap_map]at this;have e2:((λx=>xs[x]?) ∘ λx=>i + x)=λm=>xs[i + m]? := rfl;rw[e2]at this;rw[this]
theorem getItem_tuple_cut{items:xw}{lo hi:Option Int}{Q:xp}(ht:IsTup s.heap t items)(hs:s.heap.IsSliceOf sl vl vu .none)(pl:IsPart vl lo)(pu:IsPart vu hi)
 (hw:¬(sIx items.size 0 lo=0/\sIx items.size items.size hi=items.size))
 (h:Q (.ref s.heap.objs.size) { s with heap:=s.heap.push { cls := .type "tuple",data := .seq ((items.toList.drop (sIx items.size 0 lo)).take (sIx items.size items.size hi - sIx items.size 0 lo)).toArray } })
 (hsz:items.size<=sizeLine):wpAny (model prog w) A (getItem (.ref t) (.ref sl)) Q E s:=by
 have htake:sizeOk (.seq ((items.toList.drop (sIx items.size 0 lo)).take (sIx items.size items.size hi - sIx items.size 0 lo)).toArray):=by
  show((items.toList.drop (sIx items.size 0 lo)).take (sIx items.size items.size hi - sIx items.size 0 lo)).toArray.size<=sizeLine;rw[jH,jT,jr,jU];omega
 have hj:sIx items.size items.size hi<=items.size:=v8 _ _ (jD _) hi;obtain⟨os,hos,hcs,hds⟩:=id hs;have hTs:s.TypeIs (.ref sl) "slice" := ⟨os,hos,hcs⟩;unfold getItem
 try with_reducible refine qK ?_
 first | refine q8 (qf ?_) | skip
 refine q8 (wpAny_sequenceKey ht.typeIs 'f' ?_)
 refine q8 (qJ (name:=Str.ofString "__getitem__") ht.typeIs PyProof.Rows.slot_tuple_getitem
  (qL PyProof.Rows.slot_tuple_getitem ht.typeIs entry_tuple_getitem ?_ (args_tuple_getitem _ _)))
 show wpAny _ _ (Builtin.Tuple.tupleItemsOf (.ref t) >>= _) _ _ s;refine q8 (tupleItemsOf_ ht ?_);refine q8 (xa hTs ?_);rw[qh 'f'];refine q8 (lq hs pl pu ?_)
 have hno:¬((((sIx items.size 0 lo:Nat):Int) == 0 && (1:Int) == 1 && (sIx items.size items.size hi - sIx items.size 0 lo) == items.size)=true):=by
  intro q;rw[kX,kX]at q;have q1:((sIx items.size 0 lo:Nat):Int)=0:=eq_of_beq q.1.1;have q2:sIx items.size items.size hi - sIx items.size 0 lo=items.size:=eq_of_beq q.2;exact hw ⟨by omega,by omega⟩
 show wpAny _ _ (if (((sIx items.size 0 lo:Nat):Int) == 0 && (1:Int) == 1 && (sIx items.size items.size hi - sIx items.size 0 lo) == items.size)=true then _ else _) _ _ s;rw[qg hno,vb]
 first
  | exact q8 (m:=Builtin.Tuple.tupleExact _) (qw (qf ⟨_,rfl,qf h⟩) htake)
  | exact q8 (m:=Builtin.Tuple.tupleExact _) (qw (q8 (qf (qf ⟨_,rfl,qf h⟩))) htake)
  | exact q8 (q8 (m:=Builtin.Tuple.tupleExact _) (qw (qf (qf ⟨_,rfl,qf h⟩)) htake))
  | exact q8 (q8 (m:=Builtin.Tuple.tupleExact _) (qw (qf ⟨_,rfl,qf h⟩) htake))
end
end HT
namespace L2
open PySem PySem.Spec PyProof.Rows
abbrev TO:=St->Hp->(Option Int->Hp->Prop)->Prop
def PO(X:Cx)(e:Option Expr)(t:TO):Prop :=
 ∀(xB:xr) (s:xZ) (σ:St) (H:Hp) (Q:Option Int->Hp->Prop),Inv X xB σ H s->t σ H Q ->
  wpAny (model X.prog X.w) X.A (evalPart e X.env) (λu s'=>∃o H',Inv X xB σ H' s'/\IsPart u o/\Q o H') X.xe s
def vc:TO:=λ_ H Q=>Q none H
def vd(t:TE):TO:=λσ H Q=>t σ H λx H1=>∃i,x = .int i/\Q (some i) H1
def ve:∀{us:xx},Vals (ns.map V.int) us->IntsAre us ns:=by
 induction ns with
 | nil=>intro us r;rw[List.map_nil]at r;cases r;exact .nil
 | cons n ns ih =>
  intro us r;rw[jf]at r
  cases r with
  | cons r1 r2 =>
   obtain⟨t,e⟩:=r1;subst e;exact .cons n t (ih r2)
section
variable {X:Cx}{e:Expr}{te:TE}{lo hi:Option Expr}{tl th:TO}{pos p2:Pos}
def X3:PO X none vc:=by
 intro xB s σ H Q I h;rw[evalPart_none];exact qf ⟨none,H,I,.none,h⟩
def QE(h:PE X e te):PO X (some e) (vd te):=by
 intro xB s σ H Q I hw;rw[evalPart_some];refine thn (h xB s σ H _ I hw) λu s1 fv=>?_;obtain⟨x,H1,I1,r1,q1⟩:=fv;obtain⟨i,rfl,q⟩:=q1;obtain⟨t,rfl⟩:=r1;exact⟨some i,H1,I1,.int i t,q⟩
def SlR(X:Cx)(r:V->Option Int->Option Int->Hp->VK->Prop):Prop :=
 ∀(xB:xr) (s:xZ) (σ:St) (H:Hp) (x:V) (v vl vu:xY) (lo hi:Option Int) (sl:J0) (Q:VK),Inv X xB σ H s->RelV x v->s.heap.IsSliceOf sl vl vu .none->IsPart vl lo->IsPart vu hi->r x lo hi H Q ->
  ∃T id,typeLookup (.type T) "__getitem__" = pure (some (.builtin id))/\s.TypeIs v T/\wpAny (model X.prog X.w) X.A (getItem v (.ref sl)) (EP X xB σ Q) X.xe s
def SlR.or(h:SlR X r)(h':SlR X r'):SlR X (λx lo hi H Q=>r x lo hi H Q\/r' x lo hi H Q):=by
 intro xB s σ H x v vl vu lo hi sl Q I rx hs pl pu q;rcases q with q | q
 . exact h xB s σ H x v vl vu lo hi sl Q I rx hs pl pu q
 . exact h' xB s σ H x v vl vu lo hi sl Q I rx hs pl pu q
def tSl(r:V->Option Int->Option Int->Hp->VK->Prop)(te:TE)(tl th:TO):TE:=λσ H Q=>te σ H λx H1=>tl σ H1 λl H2=>th σ H2 λu H3=>r x l u H3 Q
theorem QP(hr:SlR X r)(he:PE X e te)(hl:PO X lo tl)(hu:PO X hi th):PE X (.Subscript e (.Slice lo hi none p2) pos) (tSl r te tl th):=by
 intro xB s σ H Q I h;refine Subscript_ (thn (he xB s σ H _ I h) λv s1 fv=>?_);obtain⟨x,H1,I1,r1,q1⟩:=fv;refine wpAny_Slice (thn (hl xB s1 σ H1 _ I1 q1) λvl s2 fv=>?_);obtain⟨l,H2,I2,pl,q2⟩:=fv;refine thn (hu xB s2 σ H2 _ I2 q2) λvu s3 p7=>?_;obtain⟨u,H3,I3,pu,q3⟩:=p7;rw[evalPart_none];refine qf ?_;have I4:Inv X xB σ H3 { s3 with heap:=s3.heap.push { cls := .type "slice",data := .fields #[vl,vu,.none] } }:=I3.kept (t':=s3.toks) λb ob q=>jB _ q;obtain⟨T,id,hT,ht,hg⟩:=hr xB { s3 with heap:=s3.heap.push { cls := .type "slice",data := .fields #[vl,vu,.none] } } σ H3 x v vl vu l u s3.heap.objs.size Q I4 r1 (Heap.IsSliceOf.new ..) pl pu q3;show wpAny (model X.prog X.w) X.A (subscriptTail e (.Slice lo hi none p2) v (.ref s3.heap.objs.size)) (EP X xB σ Q) X.xe { s3 with heap:=s3.heap.push { cls := .type "slice",data := .fields #[vl,vu,.none] } };exact tail_any (ops:=[.ref s3.heap.objs.size,v]) ht hT hg (by with_unfolding_all rfl)
def JT(xs:List V)(lo hi:Option Int):List V:=(xs.drop (HT.sIx xs.length 0 lo)).take (HT.sIx xs.length xs.length hi - HT.sIx xs.length 0 lo)
def dP(xs:List V)(lo hi:Option Int):(JT xs lo hi).length<=xs.length:=by
 unfold JT;rw[jT,jr];omega
def lu(K:xt):V->Option Int->Option Int->Hp->VK->Prop:=λx lo hi H Q=>∃a xs,x = .ref a/\SqT K H a xs /\
 ¬(HT.sIx xs.length 0 lo=0/\HT.sIx xs.length xs.length hi=xs.length)/\∀p,H p=none->Q (.ref p) (upd H p (.tup (JT xs lo hi)))
def lA:SlR X (lu X.K):=by
 intro xB s σ H x v vl vu lo hi sl Q I rx hs pl pu h;obtain⟨a,xs,rfl,hx,hw,q⟩:=h
 cases rx
 obtain⟨its,r,ht,hz⟩:=I.tuple hx;have xH:its.toArray.size=xs.length:=by rw[jH];exact r.length.symm
 refine⟨"tuple",_,PyProof.Rows.slot_tuple_getitem.lookup,ht.typeIs,?_⟩;refine HT.getItem_tuple_cut ht hs pl pu (by rw[xH];exact hw) ?_ (by rw[xH];exact hz);rw[xH];refine⟨.ref s.heap.objs.size,_,I.laid (t':=s.toks) (o := .tup (JT xs lo hi)) (λb ob q=>jB _ q) (jD _) ?_,rfl,q _ (I.hok.fresh (jD _))⟩;exact⟨jh (dP xs lo hi) hz,_,(r.drop (HT.sIx xs.length 0 lo)).take (HT.sIx xs.length xs.length hi - HT.sIx xs.length 0 lo),IsTup.new _ _⟩
def lB(K:xt):R2:=λx y H Q=>∃a b xs ys,x = .ref a/\y = .ref b/\SqT K H a xs/\SqT K H b ys/\xs≠[]/\xs.length + ys.length<=sizeLine /\
 (ys=[]->Q (.ref a) H)/\(ys≠[]->∀p,H p=none->Q (.ref p) (upd H p (.tup (xs ++ ys))))
def Vals.nil_iff(r:Vals xs us):us=[]↔xs=[]:=by
 cases r with
 | nil=>simp
 | cons _ _=>simp
def lC:OpR X (binaryOp .Add) (lB X.K):=by
 intro xB s σ H x y v u Q I rx ry h;obtain⟨a,b,xs,ys,rfl,rfl,ha,hb,hx,hz,q1,q2⟩:=h
 cases rx
 cases ry
 obtain⟨its,r1,p1,_⟩:=I.tuple ha;obtain⟨its2,r2,p2,_⟩:=I.tuple hb;refine HT.cat_tup p1 p2 (λz=>hx (r1.nil_iff.mp z)) (λz=>⟨.ref a,H,I,rfl,q1 (r2.nil_iff.mp z)⟩) (λz=>?_) (by rw[<- r1.length,<- r2.length];exact hz);refine⟨.ref s.heap.objs.size,_,I.laid (t':=s.toks) (o := .tup (xs ++ ys)) (λb ob q=>jB _ q) (jD _) ?_,rfl,q2 (λw=>z (r2.nil_iff.mpr w)) _ (I.hok.fresh (jD _))⟩;exact⟨by rw[jI];exact hz,_,r1.append r2,IsTup.new _ _⟩
end
def ixN(n:Nat)(i:Int):Option Nat:=if 0<=i then(if i < n then some i.toNat else none) else if -(n:Int)<=i then some (i + n).toNat else none
def atI{α:Type}(xs:List α)(i:Int):Option α:=(ixN xs.length i).bind λj=>xs[j]?
def vf(h:ixN n i=some j):seqIndex? i n=some j/\j < n /\ -(n:Int)<=i/\i < n:=by
 unfold ixN at h
 by_cases h0:0<=i
 . rw[qh h0]at h
   by_cases h1:i < n
   . rw[qh h1]at h;have e:i.toNat=j:=Option.some.inj h;exact⟨by rw[seqIndex_of h0 h1,e],by omega,by omega,h1⟩
   . rw[qg h1]at h;cases h
 . rw[qg h0]at h
   by_cases h1 : -(n:Int)<=i
   . rw[qh h1]at h;have e:(i + n).toNat=j:=Option.some.inj h;exact⟨by rw[seqIndex_neg 'd' h1,e],by omega,h1,by omega⟩
   . rw[qg h1]at h;cases h
def dQ{α:Type}{xs:List α}{i:Int}{v:α}(h:atI xs i=some v):∃j,seqIndex? i xs.length=some j/\xs[j]? = some v/\j < xs.length /\ -(xs.length:Int)<=i/\i < xs.length:=by
 unfold atI at h
 cases e:ixN xs.length i with
 | none=>rw[e]at h;cases h
 | some j =>
  rw[e]at h;obtain⟨h1,h2,h3,h4⟩:=vf e;exact⟨j,h1,h,h2,h3,h4⟩
def Qb{α:Type}{xs:List α}{j:Nat}{v:α}(h:xs[j]? = some v):atI xs (j:Int)=some v:=by
 have hj:j < xs.length:=(jJ.mp h).1
 have e:ixN xs.length (j:Int)=some j:=by
  unfold ixN;rw[qh 'd',qh 'd'];simp
 unfold atI;rw[e];exact h
def lD(b:Expr):Prop:=∀o i,subscripted b false o i=operate [o,i] (getItem o i)
def IxR(X:Cx)(r:R2):Prop :=
 ∀(value slice:Expr) (xB:xr) (s:xZ) (σ:St) (H:Hp) (x y:V) (v u:xY) (Q:VK),Inv X xB σ H s->RelV x v->RelV y u->r x y H Q ->
  subscripted slice false v u=operate [v,u] (getItem v u)->wpAny (model X.prog X.w) X.A (subscriptTail value slice v u) (EP X xB σ Q) X.xe s
def MtR(X:Cx)(id:String)(r:V->List V->Hp->VK->Prop):Prop :=
 ∀(xB:xr) (s:xZ) (σ:St) (H:Hp) (x:V) (xs:List V) (v:xY) (us:xx) (Q:VK),Inv X xB σ H s->RelV x v->Vals xs us->r x xs H Q ->
  wpAny (model X.prog X.w) X.A (call (.builtin id) (v :: us)) (EP X xB σ Q) X.xe s
section
variable {X:Cx}{a b:Expr}{ta tb:TE}{pos:Pos}
def IxR.or(h:IxR X r)(h':IxR X r'):IxR X (λx y H Q=>r x y H Q\/r' x y H Q):=by
 intro value slice xB s σ H x y v u Q I rx ry q hs;rcases q with q | q
 . exact h value slice xB s σ H x y v u Q I rx ry q hs
 . exact h' value slice xB s σ H x y v u Q I rx ry q hs
def Jf(hr:IxR X r)(ha:PE X a ta)(hb:PE X b tb)(hs:lD b):PE X (.Subscript a b pos) (tOp r ta tb):=by
 intro xB s σ H Q I h;exact Subscript_ (dD ha hb I h λv u s2 x y H2 I2 rx ry q=>hr a b xB s2 σ H2 x y v u Q I2 rx ry q (hs _ _))
def lE(K:xt):R2:=λx y H Q=>∃p xs i v,x = .ref p/\y = .int i/\SqL K H p xs/\atI xs i=some v/\Q v H
def lF(K:xt):R2:=λx y H Q=>∃p xs i v,x = .ref p/\y = .int i/\SqT K H p xs/\atI xs i=some v/\Q v H
def lG:R2:=λx y H Q=>∃z i c,x = .str z/\y = .int i/\z.length<=sizeLine/\atI z.cps.toList i=some c/\Q (.str ⟨#[c]⟩) H
def vg:IxR X (lE X.K):=by
 intro value slice xB s σ H x y v u Q I rx ry h hs;obtain⟨p,xs,i,z,rfl,rfl,hq,he,q⟩:=h
 cases rx
 obtain⟨t,rfl⟩:=ry;obtain⟨its,r,pl,hz⟩:=I.list hq;obtain⟨j,h1,h2,h3,h4,h5⟩:=dQ he;obtain⟨w,ew,rw'⟩:=r.get h2;have hl:=r.length;have hn:=Yr;have fin:EP X xB σ Q w s:=⟨z,H,I,rw',q⟩
 by_cases h0:0<=i
 . have hj:i.toNat=j:=by
    rw[seqIndex_of h0 h5]at h1;exact Option.some.inj h1
   exact item_listR pl.isList h0 'd' (by rw[hj];simpa using ew) fin hs
 . have hj:(i + (its.toArray.size:Int)).toNat=j:=by
    rw[seqIndex_neg 'd' h4]at h1;rw[jH,<- hl];exact Option.some.inj h1
   exact subscriptTail_builtinR (x:=w) pl.isList.typeIs slot_list_getitem.lookup
    (wpAny_getItem_list_neg (Q:=λr s'=>r=w/\EP X xB σ Q r s') pl.isList 'd' (by rw[jH]<;>omega) 'd' (by rw[hj];simpa using ew) ⟨rfl,fin⟩) hs
def vh:IxR X (lF X.K):=by
 intro value slice xB s σ H x y v u Q I rx ry h hs;obtain⟨p,xs,i,z,rfl,rfl,hq,he,q⟩:=h
 cases rx
 obtain⟨t,rfl⟩:=ry;obtain⟨its,r,pl,hz⟩:=I.tuple hq;obtain⟨j,h1,h2,h3,h4,h5⟩:=dQ he;obtain⟨w,ew,rw'⟩:=r.get h2;have hl:=r.length;have hn:=Yr;have fin:EP X xB σ Q w s:=⟨z,H,I,rw',q⟩
 exact subscriptTail_builtinR (x:=w) pl.typeIs slot_tuple_getitem.lookup
  (getItem_tuple (j:=j) (Q:=λr s'=>r=w/\EP X xB σ Q r s') pl 'd' 'd' (by rw[jH,<- hl];exact h1) (by simpa using ew) ⟨rfl,fin⟩) hs
def vi:IxR X lG:=by
 intro value slice xB s σ H x y v u Q I rx ry h hs;obtain⟨z,i,c,rfl,rfl,hz,he,q⟩:=h;obtain⟨t,rfl⟩:=rx;obtain⟨t',rfl⟩:=ry;obtain⟨j,h1,h2,h3,h4,h5⟩:=dQ he;have hl:z.cps.toList.length=z.length:=by simp[Str.length]
 rw[hl]at h1 h4 h5;have hn:=Yr
 exact tail_any (typeIs_str s z t) slot_str_getitem.lookup (getItem_str (c:=c) (by
  have e1:decide (i < -(2 ^ 63:Int))=false:=qk 'd';have e2:decide (i ≥ 2 ^ 63)=false:=qk 'd';rw[e1,e2,Bool.or_false]) (by rw[h1];simpa using h2) ⟨.str ⟨#[c]⟩,H,I.tok _,⟨_,rfl⟩,q⟩) hs
def rIx(K:xt):R2:=λx y H Q=>lE K x y H Q\/lF K x y H Q\/lG x y H Q
def vj:IxR X (rIx X.K):=vg.or (vh.or vi)
def vk(lo hi:Option Int)(n:Nat):(sliceBounds lo hi none n).1=((HT.sIx n 0 lo:Nat):Int)/\(sliceBounds lo hi none n).2.1=((HT.sIx n n hi:Nat):Int)/\(sliceBounds lo hi none n).2.2=1:=by
 refine⟨?_,?_,rfl⟩
 . cases lo with
   | none=>simp[sliceBounds,HT.sIx]
   | some i =>
    simp only[sliceBounds,HT.sIx,Option.getD_none,show(1:Int) > 0 by decide,if_true]
    by_cases h:i < 0
    . simp only[h,if_true]<;>omega
    . simp only[h,xm]<;>omega
 . cases hi with
   | none=>simp[sliceBounds,HT.sIx]
   | some i =>
    simp only[sliceBounds,HT.sIx,Option.getD_none,show(1:Int) > 0 by decide,if_true]
    by_cases h:i < 0
    . simp only[h,if_true]<;>omega
    . simp only[h,xm]<;>omega
def vm(its:xx)(lo hi:Option Int):slicePick its.toArray lo hi none=((its.drop (HT.sIx its.length 0 lo)).take (HT.sIx its.length its.length hi - HT.sIx its.length 0 lo)).toArray:=by
 obtain⟨h1,h2,h3⟩:=vk lo hi its.toArray.size;unfold slicePick;rw[h1,h2,h3];simp only[sliceRange_one,pick_run,jH]<;>rfl
def lH(K:xt):V->Option Int->Option Int->Hp->VK->Prop:=λx lo hi H Q=>∃a xs,x = .ref a/\SqL K H a xs/\∀p,H p=none->Q (.ref p) (upd H p (.lst (JT xs lo hi)))
def vn:SlR X (lH X.K):=by
 intro xB s σ H x v vl vu lo hi sl Q I rx hs pl pu h;obtain⟨a,xs,rfl,hx,q⟩:=h
 cases rx
 obtain⟨its,r,ht,hz⟩:=I.list hx;have xH:=r.length;refine⟨"list",_,slot_list_getitem.lookup,ht.isList.typeIs,?_⟩;refine wpAny_getItem_list_slice ht.isList hs pl pu .none 'j' ?_ (by rw[jH]<;>omega);rw[vm,<- xH];refine⟨.ref s.heap.objs.size,_,I.laid (t':=s.toks) (o := .lst (JT xs lo hi)) (λb ob q=>jB _ q) (jD _) ?_,rfl,q _ (I.hok.fresh (jD _))⟩;exact⟨jh (dP xs lo hi) hz,_,0,(r.drop (HT.sIx xs.length 0 lo)).take (HT.sIx xs.length xs.length hi - HT.sIx xs.length 0 lo),jK _ rfl⟩
def Ql:V->Bool
 | .non=>true
 | .bl _=>true
 | .int _=>true
 | .str _=>true
 | _=>false
def eqV:V->V->Bool
 | .non,.non=>true
 | .bl a,.bl b=>a == b
 | .bl a,.int b=>(if a then 1 else 0) == b
 | .int a,.bl b=>a == (if b then 1 else 0)
 | .int a,.int b=>a == b
 | .str a,.str b=>a == b
 | _,_=>false
def vq(ry:RelV y u)(rx:RelV x v)(fy:Ql y=true)(fx:Ql x=true):SeqAt.EqAt A s u v (eqV y x):=by
 cases y with
 | non =>
  cases ry
  cases x with
  | non=>cases rx;exact SeqAt.EqAt.same _
  | bl b=>cases rx;exact SeqAt.EqAt.none_bool b
  | int b=>obtain⟨t,rfl⟩:=rx;exact SeqAt.EqAt.none_int b t
  | str b=>obtain⟨t,rfl⟩:=rx;exact SeqAt.EqAt.none_str b t
  | _=>exact absurd (show false=true from fx) jR
 | bl a =>
  cases ry
  cases x with
  | non=>cases rx;exact SeqAt.EqAt.bool_none a
  | bl b=>cases rx;exact SeqAt.EqAt.bool_bool a b
  | int b=>obtain⟨t,rfl⟩:=rx;exact SeqAt.EqAt.bool_int a b t
  | str b=>obtain⟨t,rfl⟩:=rx;exact SeqAt.EqAt.bool_str a b t
  | _=>exact absurd (show false=true from fx) jR
 | int a =>
  obtain⟨t',rfl⟩:=ry
  cases x with
  | non=>cases rx;exact SeqAt.EqAt.int_none a t'
  | bl b=>cases rx;exact SeqAt.EqAt.int_bool a t' b
  | int b=>obtain⟨t,rfl⟩:=rx;exact SeqAt.EqAt.int_int a t' b t
  | str b=>obtain⟨t,rfl⟩:=rx;exact SeqAt.EqAt.int_str a t' b t
  | _=>exact absurd (show false=true from fx) jR
 | str a =>
  obtain⟨t',rfl⟩:=ry
  cases x with
  | non=>cases rx;exact SeqAt.EqAt.str_none a t'
  | bl b=>cases rx;exact SeqAt.EqAt.str_bool a t' b
  | int b=>obtain⟨t,rfl⟩:=rx;exact SeqAt.EqAt.str_int a t' b t
  | str b=>obtain⟨t,rfl⟩:=rx;exact SeqAt.EqAt.str_str a t' b t
  | _=>exact absurd (show false=true from fx) jR
 | _=>exact absurd (show false=true from fy) jR
def eqU(x:V)(u:xY):Bool:=match u with
 | .none=>eqV .non x
 | .bool b=>eqV (.bl b) x
 | .int i _=>eqV (.int i) x
 | .str z _=>eqV (.str z) x
 | _=>false
def aC(r:RelV y u)(f:Ql y=true):eqU x u=eqV y x:=by
 cases y with
 | non=>cases r;rfl
 | bl b=>cases r;rfl
 | int i=>obtain⟨t,rfl⟩:=r;rfl
 | str z=>obtain⟨t,rfl⟩:=r;rfl
 | _=>exact absurd (show false=true from f) jR
theorem Ys:∀{xs:List V}{us:xx},Vals xs us->xs.all Ql=true->us.any (eqU x)=xs.any λy=>eqV y x
 | _,_,.nil,_=>rfl
 | y :: xs,u :: us,.cons r t,f=>by
  rw[List.all_cons,kX]at f;rw[qI,qI,aC r f.1,Ys t f.2]
theorem Ze{A:J3}{s:xZ}{x:V}{v:xY}(rx:RelV x v)(fx:Ql x=true):∀{xs:List V}{us:xx},Vals xs us->xs.all Ql=true->∀u∈us,SeqAt.EqAt A s u v (eqU x u)
 | _,_,.nil,_=>λu hu=>by cases hu
 | y :: xs,u :: us,.cons r t,f=>λu' hu=>by
  rw[List.all_cons,kX]at f;rcases jL.mp hu with rfl | hu
  . rw[aC r f.1];exact vq r rx f.1 fx
  . exact Ze rx fx t f.2 u' hu
def inV(x:V)(xs:List V):Bool:=xs.any λy=>eqV y x
def rIn(K:xt)(neg:Bool):R2:=λx y H Q=>∃p xs,y = .ref p/\(SqL K H p xs\/SqT K H p xs)/\Ql x=true/\xs.all Ql=true/\Q (.bl (if neg then !inV x xs else inV x xs)) H
def vt:OpR X (compareOp .In) (rIn X.K false):=by
 intro xB s σ H x y v u Q I rx ry h;obtain⟨p,xs,rfl,hq,fx,fs,q⟩:=h
 cases ry
 rcases hq with hq | hq
 . obtain⟨its,r,pl,hz⟩:=I.list hq;refine SeqAt.in_listAt (eqU x) pl.isList (λw hw=>Ze rx fx r fs w (by simpa using hw)) ⟨.bl _,H,I,rfl,?_⟩;rw[show its.toArray.any (eqU x)=its.any (eqU x) by simp,Ys r fs];exact q
 . obtain⟨its,r,pl,hz⟩:=I.tuple hq;refine SeqAt.in_tupleAt (eqU x) pl (λw hw=>Ze rx fx r fs w (by simpa using hw)) ⟨.bl _,H,I,rfl,?_⟩;rw[show its.toArray.any (eqU x)=its.any (eqU x) by simp,Ys r fs];exact q
def vw:OpR X (compareOp .NotIn) (rIn X.K true):=by
 intro xB s σ H x y v u Q I rx ry h;obtain⟨p,xs,rfl,hq,fx,fs,q⟩:=h
 cases ry
 rcases hq with hq | hq
 . obtain⟨its,r,pl,hz⟩:=I.list hq;refine SeqAt.notIn_listAt (eqU x) pl.isList (λw hw=>Ze rx fx r fs w (by simpa using hw)) ⟨.bl _,H,I,rfl,?_⟩;rw[show its.toArray.any (eqU x)=its.any (eqU x) by simp,Ys r fs];exact q
 . obtain⟨its,r,pl,hz⟩:=I.tuple hq;refine SeqAt.notIn_tupleAt (eqU x) pl (λw hw=>Ze rx fx r fs w (by simpa using hw)) ⟨.bl _,H,I,rfl,?_⟩;rw[show its.toArray.any (eqU x)=its.any (eqU x) by simp,Ys r fs];exact q
def vx:Q7 X (.type "list") (λxs H Q=>∃p ys,xs=[.ref p]/\(SqL X.K H p ys\/SqT X.K H p ys)/\∀l,H l=none->Q (.ref l) (upd H l (.lst ys))):=by
 intro xB s σ H xs us Q I r h;obtain⟨p,ys,rfl,hq,q⟩:=h;obtain⟨u,rfl,rx⟩:=Qj r
 cases rx
 have fin:∀(its:xx),Vals ys its->ys.length<=sizeLine->∀(h':Heap) (c':Nat),(∀b o',s.heap.get? b=some o'->h'.get? b=some o') ->
  h'.get? s.heap.objs.size=some { cls := .type "list",dict:=none,data := .seq its.toArray c',slots:=#[] }->EP X xB σ Q (.ref s.heap.objs.size) { s with heap:=h' }:=λits r' hz h' c' kp e =>
  ⟨.ref s.heap.objs.size,_,I.laid (t':=s.toks) kp (jD _) (show ObjOk X.prog X.w _ h' _ (.lst ys) from⟨hz,its,c',r',e⟩),rfl,q _ (I.hok.fresh (jD _))⟩
 rcases hq with hq | hq
 . obtain⟨its,r',pl,hz⟩:=I.list hq;have xH:=r'.length;obtain⟨o,ho,hc,n,hd⟩:=pl.isList;exact call_list_seq p (.inl rfl) ho hc hd (λh' c' kp e=>fin its r' hz h' c' kp e) (by simp only[jH]<;>omega)
 . obtain⟨its,r',pl,hz⟩:=I.tuple hq;have xH:=r'.length;obtain⟨o,ho,hc,n,hd⟩:=pl;exact call_list_seq p (.inr rfl) ho hc hd (λh' c' kp e=>fin its r' hz h' c' kp e) (by simp only[jH]<;>omega)
def vy:Q7 X (.type "tuple") (λxs H Q=>∃p ys,xs=[.ref p]/\((SqL X.K H p ys/\∀l,H l=none->Q (.ref l) (upd H l (.tup ys)))\/(SqT X.K H p ys/\Q (.ref p) H))):=by
 intro xB s σ H xs us Q I r h;obtain⟨p,ys,rfl,h⟩:=h;obtain⟨u,rfl,rx⟩:=Qj r
 cases rx
 rcases h with ⟨hq,q⟩ | ⟨hq,q⟩
 . obtain⟨its,r',pl,hz⟩:=I.list hq;have xH:=r'.length;refine call_tuple_list pl.isList (λh' kp=>?_) (by simp only[jH]<;>omega);have I1:Inv X xB σ H { s with heap:=h' }:=I.kept (t':=s.toks) kp
   have I2:Inv X xB σ (upd H h'.objs.size (.tup ys)) { s with heap:=h'.push { cls := .type "tuple",data := .seq its.toArray } } :=
    I1.laid (t':=s.toks) (λb o e=>jB _ e) (jD _) (show ObjOk X.prog X.w _ _ _ (.tup ys) from⟨hz,its,r',IsTup.new _ _⟩)
   exact⟨.ref h'.objs.size,_,I2,rfl,q _ (I1.hok.fresh (jD _))⟩
 . obtain⟨its,r',pl,hz⟩:=I.tuple hq;exact call_tuple_same pl ⟨.ref p,H,I,rfl,q⟩
def tyV(K:xt)(T:String)(x:V)(H:Hp):Prop:=match x with
 | .str _=>T = "str"
 | .int _=>T = "int"
 | .ref p=>(T = "list" /\ ∃xs,SqL K H p xs)\/(T = "tuple" /\ ∃o,K.lookup p=some o/\o.cls = .type "tuple" /\ o.dict=none) \/
  (T = "dict" /\ ((∃kvs,H p=some (.dK kvs))\/∃kvs,H p=some (.dT kvs)))\/(T = "set" /\ ∃S n,H p=some (.set S n))
 | _=>False
def vA{xB:xr}{σ:St}{H:Hp}{s:xZ}{T:String}{x:V}{v:xY}(I:Inv X xB σ H s)(r:RelV x v)(ty:tyV X.K T x H) :
 s.TypeIs v T/\∀a,v = .ref a->∃ob,s.heap.get? a=some ob/\ob.dict=none:=by
 cases x with
 | str z =>
  obtain⟨t,rfl⟩:=r
  cases (show T = "str" from ty)
  exact⟨typeIs_str s z t,λ_ e=>nomatch e⟩
 | int i =>
  obtain⟨t,rfl⟩:=r
  cases (show T = "int" from ty)
  exact⟨typeIs_int s i t,λ_ e=>nomatch e⟩
 | ref p =>
  cases r
  rcases ty with ⟨rfl,xs,hq⟩ | ⟨rfl,o,hk,hc,hd⟩ | ⟨rfl,hk⟩ | ⟨rfl,S,n,hk⟩
  . obtain⟨its,_,pl,_⟩:=I.list hq;refine⟨pl.isList.typeIs,λa e=>?_⟩
    cases e
    obtain⟨o,n,e,c,hd,_⟩:=pl;exact⟨o,e,hd⟩
  . refine⟨⟨o,I.kIn p o hk,hc⟩,λa e=>?_⟩
    cases e
    exact⟨o,I.kIn _ o hk,hd⟩
  . have z:∃o,s.heap.get? p=some o/\o.ExactDict:=by
     rcases hk with ⟨kvs,hk⟩ | ⟨kvs,hk⟩
     . obtain⟨_,_,_,_,o,_,_,e,ex,_⟩:=I.hok p _ hk;exact⟨o,e,ex⟩
     . obtain⟨_,_,_,_,o,_,_,e,ex,_⟩:=I.hok p _ hk;exact⟨o,e,ex⟩
    obtain⟨o,e,ex⟩:=z;refine⟨⟨o,e,ex.1⟩,λa e2=>?_⟩
    cases e2
    exact⟨o,e,ex.2.1⟩
  . obtain⟨o,_,_,_,e,ex,_⟩:=I.hok p _ hk;refine⟨⟨o,e,ex.1⟩,λa e2=>?_⟩
    cases e2
    exact⟨o,e,ex.2.1⟩
 | _=>exact False.elim ty
def tBM(K:xt)(T:String)(r:V->List V->Hp->VK->Prop)(to:TE)(t:TA):TE:=λσ H Q=>to σ H λx H1=>tyV K T x H1/\t σ H1 λxs H2=>r x xs H2 Q
variable {o e:Expr}{es:List Expr}{to:TE}{t:TA}{name:Str}{apos cpos:Pos}{T id:String}{r:V->List V->Hp->VK->Prop}
theorem XM(pa:PlainAttrs T)(slot:Slot T name id)(hty:typeOf (.builtin id)=pure (.type "method_descriptor"))(hm:MtR X id r)(ho:PE X o to)(ha:PA X (e :: es) t)
 (xN:attributeBase o name X.env (eval o X.env)=eval o X.env:=by rfl)
 (hfew:((backTo cpos (starEach (e :: es) X.env)).all (λx => !x.1) && (backToKw cpos (keywordEach [] X.env)).all (λx=>x.1.isSome)
  && decide ((e :: es).length + ([]:List Keyword).length + (if ([]:List Keyword).isEmpty then 0 else 1) < 30))=true:=by rfl)
 (xO:(apos.endLine == cpos.line)=true:=by rfl) (hs:starEach (e :: es) X.env=(false,eval e X.env) :: starEach es X.env:=by rfl) (hplain:(backTo cpos (starEach es X.env)).any (·.1)=false:=by rfl) :
 PE X (.Call (.Attribute o name apos) (e :: es) [] cpos) (tBM X.K T r to t):=by
 intro xB s σ H Q I h;refine wpAny_Call_method_late xN hfew xO rfl (thn (ho xB s σ H _ I h) λv s1 fv=>?_);obtain⟨x,H1,I1,r1,ty,q1⟩:=fv;obtain⟨h1,h2⟩:=vA I1 r1 ty;refine⟨T,id,pa,slot,hty,h1,h2,?_⟩;have hA:=ha cpos xB s1 σ H1 _ I1 q1;rw[hs]at hA ⊢;refine Calls.callWith_builtin (by show(false || (backTo cpos (starEach es X.env)).any (·.1))=false;rw[hplain]<;>rfl) (Calls.evalArgs_plain ?_);exact thn hA λus s2 ⟨vs,H2,I2,r2,q2⟩=>hm xB s2 σ H2 x vs v us Q I2 r1 r2 q2
end
def MtM(X:Cx)(id:String)(r:V->List V->Hp->VK->Prop):Prop :=
 ∀(xB:xr) (s:xZ) (σ:St) (H:Hp) (x:V) (xs:List V) (v:xY) (us:xx) (Q:VK),Inv X xB σ H s->RelV x v->Vals xs us->r x xs H Q ->
  wpAny (model X.prog X.w) X.A (call (.builtin id) (v :: us)) (EP X xB σ Q) X.xe s
theorem Vals.one:∀{x:V}{us:xx},Vals [x] us->∃u,us=[u]/\RelV x u
 | _,_,.cons r .nil=>⟨_,rfl,r⟩
theorem Vals.rep(h:Vals xs us):∀k:Nat,Vals (List.replicate k xs).flatten (List.replicate k us).flatten
 | 0 => .nil
 | k + 1=>by
  rw[kA,kA,kN,kN];exact Vals.append h (Vals.rep h k)
theorem lI(its:xx):∀(k:Nat) (acc:xx),
 List.foldl (λx1 x2=>x1 ++ x2) acc.toArray (List.replicate k its.toArray)=(acc ++ (List.replicate k its).flatten).toArray
 | 0,acc=>by simp
 | k + 1,acc=>by
  have e:acc.toArray ++ its.toArray=(acc ++ its).toArray:=by simp
  have e2:(acc ++ its) ++ (List.replicate k its).flatten=acc ++ (List.replicate (k + 1) its).flatten:=by
   rw[kA,kN,jV]
  rw[<- e2,<- lI its k (acc ++ its),<- e,kA,List.foldl_cons]
section
variable {X:Cx}{xB:xr}{σ:St}{H:Hp}{s:xZ}{l b:J0}{xs ys zs:List V}
def Inv.lset{its its':xx}{n:Nat}{f:xw->xw}{t':Nat}(I:Inv X xB σ H s)(hH:H l=some (.lst xs))
 (e:s.heap.get? l=some { cls := .type "list",data := .seq its.toArray n }) (hf:f its.toArray=its'.toArray) (hv:Vals ys its') (hz:ys.length<=sizeLine) :
 Inv X xB σ (upd H l (.lst ys)) { s with heap:=s.heap.update l (Obj.mapSeq f),toks:=t' }:=by
 have q:=PySem.IsL.update e f;rw[hf]at q;refine I.write (x:=l) (e:=l) (by rw[hH];exact trivial) (.inl rfl) (λb' u hb hu=>(jY s.heap (Obj.mapSeq f) (Ne.symm hb)).trans hu) ⟨_,q⟩ ?_;exact⟨hz,its',_,hv,q⟩
def Inv.lnew(I:Inv X xB σ H s)(hv:Vals ys its)(hz:ys.length<=sizeLine) :
 Inv X xB σ (upd H s.heap.objs.size (.lst ys)) { s with heap:=s.heap.push { cls := .type "list",data := .seq its.toArray },toks:=t' } :=
 I.laid (λ_ _ q=>jB _ q) (jD _) ⟨hz,its,0,hv,jK _ rfl⟩
theorem Inv.fresh(I:Inv X xB σ H s):H s.heap.objs.size=none:=I.hok.fresh (jD _)
def Inv.lstM(I:Inv X xB σ H s)(hH:H l=some (.lst xs)):xs.length<=sizeLine/\∃(its:xx) (n:Nat),Vals xs its/\xs.length=its.length/\s.heap.get? l=some { cls := .type "list",data := .seq its.toArray n }:=by
 obtain⟨z,its,n,r,e⟩:=I.hok l _ hH;exact⟨z,its,n,r,r.length,e⟩
def lJ(h:n<=sizeLine):Builtin.List.listTooLong n=false:=by
 unfold Builtin.List.listTooLong;exact qk 'd'
end
section
variable {X:Cx}
def lK:V->List V->Hp->VK->Prop:=λx vs H Q=>∃l xs y,x = .ref l/\vs=[y]/\H l=some (.lst xs)/\xs.length < sizeLine/\Q .non (upd H l (.lst (xs ++ [y])))
def Zf:MtM X "list.append" lK:=by
 intro xB s σ H x vs v us Q I rx rv h;obtain⟨l,xs,y,rfl,rfl,hH,hz,q⟩:=h
 cases rx
 obtain⟨u,rfl,ru⟩:=rv.one;obtain⟨z,its,n,r,hl,e⟩:=I.lstM hH;refine call_meets F.slot_list_append ⟨_,e,rfl⟩ F.entry_list_append (F.args_list_append_2 _ _) (PySem.list_append l its.toArray n u (by rw[jH];omega)) ⟨e,?_⟩;refine⟨.non,_,I.lset (its':=its ++ [u]) hH e 'j' (r.append (.cons ru .nil)) ?_,rfl,q⟩;rw[jI,List.length_singleton];omega
def lL:R2:=λx y H Q=>∃l b xs zs,x = .ref l/\y = .ref b/\H l=some (.lst xs)/\H b=some (.lst zs)/\xs.length + zs.length<=sizeLine/\∀p,H p=none->Q (.ref p) (upd H p (.lst (xs ++ zs)))
def JJ:OpR X (binaryOp .Add) lL:=by
 intro xB s σ H x y v u Q I rx ry h;obtain⟨l,b,xs,zs,rfl,rfl,hH,hB,hz,q⟩:=h
 cases rx
 cases ry
 obtain⟨z,its,n,r,hl,e⟩:=I.lstM hH;obtain⟨z2,its2,n2,r2,hl2,e2⟩:=I.lstM hB;refine PySem.P.add_list e e2 ?_ (by rw[jH,jH];omega);have ea:its.toArray ++ its2.toArray=(its ++ its2).toArray:=by simp
 rw[ea];exact⟨.ref _,_,I.lnew (t':=s.toks) (r.append r2) (by rw[jI];omega),rfl,q _ I.fresh⟩
def dR:R2:=λx y H Q=>∃l k xs,x = .ref l/\y = .int k/\H l=some (.lst xs) /\ -(2 ^ 63)<=k/\k < 2 ^ 63/\xs.length * k.toNat<=sizeLine /\
 ∀p,H p=none->Q (.ref p) (upd H p (.lst (List.replicate k.toNat xs).flatten))
def dS{α:Type}(xs:List α)(k:Nat):(List.replicate k xs).flatten.length=k * xs.length:=by
 induction k with
 | zero=>simp
 | succ k ih=>rw[kA,kN,jI,ih,Nat.succ_mul,Nat.add_comm]
def dU:OpR X (binaryOp .Mult) dR:=by
 intro xB s σ H x y v u Q I rx ry h;obtain⟨l,k,xs,rfl,rfl,hH,h1,h2,hz,q⟩:=h
 cases rx
 obtain⟨t,rfl⟩:=ry;obtain⟨z,its,n,r,hl,e⟩:=I.lstM hH;have xH:its.toArray.size * k.toNat<=sizeLine:=by rw[jH,<- hl];exact hz
 have hcap:¬its.toArray.size * k.toNat > (2 ^ 63 - 1) / 8:=by
  have:(sizeLine:Nat)<=(2 ^ 63 - 1) / 8:=by decide
  omega
 have hfit:¬(!Builtin.List.listFitsIndex k)=true:=by
  rw[fitsIndex_both h1 h2];exact jR
 have hlong:¬Builtin.List.listTooLong (its.toArray.size * k.toNat)=true:=by
  rw[lJ xH];exact jR
 have hnew:List.foldl (λx1 x2=>x1 ++ x2) #[] (List.replicate (if its.toArray.isEmpty=true then 0 else k.toNat) its.toArray)=(List.replicate k.toNat its).flatten.toArray:=by
  have f0:∀m:Nat,List.foldl (λx1 x2=>x1 ++ x2) #[] (List.replicate m its.toArray)=(List.replicate m its).flatten.toArray:=λm=>by
   have:=lI its m [];rw[List.nil_append]at this;exact this
  rw[f0]
  cases its with
  | nil=>simp
  | cons a r'=>rw[qg 'j']
 refine wpAny_binaryOp_repeat_ref (T := "list") (U := "int") 'f' ⟨_,e,rfl⟩ (λs'=>typeIs_int s' k t) noFill_list_mul F.fills_int_mul F.slot_int_rmul repeat_list F.slot_int_index.lookup
  (call_meets F.slot_int_rmul (typeIs_int s k t) F.entry_int_rmul (F.args_int_rmul_2 _ _) (int___rmul___int_list k t l its.toArray n)
   ⟨e,rfl,⟨_,e,rfl⟩,call_meets F.slot_list_mul ⟨_,e,rfl⟩ F.entry_list_mul (F.args_list_mul_2 _ _) (AutoListH.list___mul___list_int_3 l its.toArray n k t hfit hcap hlong) ⟨e,?_⟩⟩)
 rw[hnew];exact⟨.ref _,_,I.lnew (t':=s.toks) (r.rep k.toNat) (by rw[dS,Nat.mul_comm];exact hz),rfl,q _ I.fresh⟩
end
end L2
namespace Att
open PySem PySem.W PySem.Calls PyProof.Rows
def vB:∀(ns:xA) (vs:xx),WellAll P h vs (ns.map WData.int)->IntsAre vs ns:=by
 intro ns
 induction ns with
 | nil =>
  intro vs w;rw[List.map_nil]at w
  cases w
  exact .nil
 | cons n ns ih =>
  intro vs w;rw[jf]at w
  cases w with
  | cons a b =>
   cases a
   exact .cons _ _ (ih _ b)
def vC{l:OpenLaw}{n:Nat}(hn:l.most=some n){P:Params}{args:List WData}{vals:xx}
 (hpre:l.row.toRowW.claim.pre args=true) (hwl:WellAll P h vals args) :
 ∃a vs ns,vals=[Value.ref a]/\args=[WData.list (ns.map WData.int)]/\h.get? a=some { cls := .type "list",data := .seq vs.toArray }/\IntsAre vs ns/\ns.length<=n:=by
 have hsh:WShape.hasAll [] args [.list .int]=true:=(pre_splitW hpre).1;have hc:l.pre.holds [] { args:=args }=true:=(pre_splitW hpre).2;obtain⟨d,r,rfl,h1,h2⟩:=hasAllW_cons hsh;obtain rfl:=hasAllW_nil h2;obtain⟨xs,rfl,h3⟩:=hasW_list h1;obtain⟨ns,rfl⟩:=items_int h3
 have xH:ns.length<=n:=by
  unfold OpenLaw.pre at hc
  have h4:(WTm.not (.lt (.lit (.int (n:Int))) (.len (.arg 0)))).holds [] { args:=[.list (ns.map .int)] }=true:=by
   have h4:=(holds_andW hc).1;rw[hn]at h4;exact h4
  have h5:=condW_of h4 (w_not (w_lt w_lit (w_len_list (w_arg rfl))));rw[jA]at h5;refine Nat.le_of_not_lt λq=>?_;have q':(n:Int) < ((ns.length:Nat):Int):=by omega
  first
   | (rw[qm q']at h5;exact absurd h5 'f')
   | (simp at h5;omega)
 cases hwl with
 | cons w1 w2 =>
  cases w2
  cases w1 with
  | list ho hall=>exact⟨_,_,ns,rfl,rfl,ho,vB ns _ hall,xH⟩
def vD(l:OpenLaw)(args:List WData):l.row.toRowW.claim.post args (.bool true) args=true :=
 postW_of (r:=l.row.toRowW) (X:=(true == true))
  (show WShape.has [] (.bool true) .bool=true by first | rfl | decide | simp[WShape.has,WShape.arms,WShape.armsAll])
  (show(WTm.eq .res (.lit (.bool true))).value [] { args:=args,res:=some (.bool true),after:=args }=some (.bool (true == true)) from w_eq_bool (w_res rfl) w_lit) rfl
def attach_call{l:OpenLaw}{n:Nat}{loose:xy}{XP:(xq)->Heap->Prop}{YP:J2->Heap->Prop}{d:DefRec}
 (hn:l.most=some n) (hdf:d.params.defaults=[])
 (call:∀(w:J2) (s₀ s₁:xZ) (mg mb:xq) (fa:J0) (o:Obj) (pm cd xQ:xY) (a:J0) (vs:xx) (ns:xA),
  Ground q loose [] XP w s₀ mg mb s₁.heap->YP w s₁.heap ->
  s₁.heap.get? fa=some o->o.data = .func (docDef d.name d.params d.body d.scope pm cd xQ)->s₁.heap.CodeRec cd d.name->mg d.name=some (.ref fa) ->
  s₁.heap.get? a=some { cls := .type "list",data := .seq vs.toArray }->IntsAre vs ns->ns.length<=n->s₁.gens=#[] ->
  codeAny (model l.prog w) callerA (.call (.ref fa) ⟨[.ref a],[]⟩) (λr s'=>r = .ok (.ret (.bool true))/\OldK s₁.heap s'.heap/\s'.os=s₁.os/\AllBare s'.gens) s₁) :
 WalkO q loose XP YP l.row.toRowW d [] (λf vs=>PySem.call f vs):=by
 intro w s₀ s₁ mg mb G Y fa o pm cd xQ dV kV ho hd hcd hD hmg hg args vals as hpre hlay hrd hwl hlo;obtain rfl:dV = .none:=Dflts.none hD hdf;obtain rfl:kV = .none:=Dflts.noKw hD;obtain⟨a,vs,ns,rfl,rfl,hobj,hints,xH⟩:=vC hn hpre hwl;refine enter_call (xh (call w s₀ s₁ mg mb fa o pm cd xQ a vs ns G Y ho (fd_plain hd) hcd hmg hobj hints xH hg) λr s' hq=>?_);obtain⟨rfl,h2,h3,h4⟩:=hq;exact⟨.inl ⟨.bool true,.bool true,[],rfl,λ_=>rfl,.bool true,vD l _,λ_=>⟨List.Pairwise.nil,λ_ hm=>(nomatch hm)⟩⟩,h2,h3,h4⟩
end Att
namespace L2
open PySem PySem.Spec PyProof.Rows
theorem lM:∀{vs:xx}{ns:xA},IntsAre vs ns->Vals (ns.map V.int) vs
 | _,_,.nil => .nil
 | _,_,.cons n t h => .cons ⟨t,rfl⟩ (lM h)
def dX(H:Hp):Prop:=∀b,H b=none\/∃o xs,H b=some (.frz o (.lst xs))
def vE{P:J1}{w:J2}{K:xt}{mg mb:xq}{CX:CXT}{k:Nat}{fa a:J0}{fd:FuncData}{x:Str}{sp:Sp}{s₁:xZ}{vs:xx}{ns:xA}
 (KX:K.In s₁.heap) (hns:s₁.heap.Ns mainGlobals mg) (hb:s₁.heap.Ns builtinsNs mb) (hbb:∀x:Str,x ≠ "__name__" -> mb x=bootBuiltins x) (hlim:s₁.heap.NoLimit) (hg:s₁.gens=#[])
 (ha:s₁.heap.get? a=some { cls := .type "list",data := .seq vs.toArray }) (hi:IntsAre vs ns) (hl:ns.length<=sizeLine) (hr:Room k callerA)
 (F:∀base:Heap,K.In base->base.Ns mainGlobals mg->FnOk P w K mg base CX k fa fd [x] sp) (hbind:∀(s:xZ) (u:xY),BindsTo s fd ⟨[u],[]⟩ [(x,u)])
 (hsp:∀H:Hp,dX H->SqL K H a (ns.map V.int)->sp [.ref a] H (λv _=>v = .bl true) λ_ _ _=>False)
 (hCX:∀H e s',CX [] H s₁ (λ_ _ _=>False) e s'->False) :
 codeAny (model P w) callerA (.call (.ref fa) ⟨[.ref a],[]⟩) (λr s'=>r = .ok (.ret (.bool true))/\OldK s₁.heap s'.heap/\s'.os=s₁.os/\AllBare s'.gens) s₁:=by
 have rv:=lM hi;have lenV:=hi.length
 -- from an abstract heap in which nothing but the script may be tracked
 have core:∀H:Hp,dX H->SqL K H a (ns.map V.int)->HOk P w H s₁.heap->(∀b,H b≠none->b=a)->(H a≠none->K.lookup a=none) ->
  codeAny (model P w) callerA (.call (.ref fa) ⟨[.ref a],[]⟩) (λr s'=>r = .ok (.ret (.bool true))/\OldK s₁.heap s'.heap/\s'.os=s₁.os/\AllBare s'.gens) s₁:=by
  intro H hO hS hok hA hK;have base_of:∀{b:J0}{o:Obj},s₁.heap.get? b=some o->H b=none->(Xl s₁.heap H).get? b=some o:=λe n=>tL e n
  have noA:∀{b:J0}{o:Obj}{es:Array DictEntry}{ep:Nat},s₁.heap.get? b=some o->o.data = .dict es ep->H b=none:=fun {b o es ep} e d=>by
   cases q:H b with
   | none=>rfl
   | some u =>
    have e':b=a:=hA b (by rw[q];simp);subst e';rw[ha]at e;cases e;have d':Data.seq vs.toArray _=Data.dict es ep:=d
    cases d'
  have nsK:∀{b:J0}{m:xq},s₁.heap.Ns b m->(Xl s₁.heap H).Ns b m:=fun {b m} ⟨o,es,ep,e,d,r⟩=>⟨o,es,ep,base_of e (noA e d),d,r⟩
  have hKb:K.In (Xl s₁.heap H):=λb o e=>base_of (KX b o e) (by
   cases q:H b with
   | none=>rfl
   | some u =>
    have e':b=a:=hA b (by rw[q];simp);subst e';rw[hK (by rw[q];simp)]at e;cases e)
  have hM:Mod K mg (Xl s₁.heap H):=⟨hKb,nsK hns,⟨mb,nsK hb,hbb⟩,let ⟨mc,h1,h2⟩:=hlim;⟨mc,nsK h1,h2⟩⟩;have e0:Env0 P w K mg (Xl s₁.heap H) callerA [] s₁ H:=⟨rfl,hM,λb o e=>tM e,Nat.le_of_eq (tK _ _),trivial,λb hb=>absurd (show b∈([]:List J0) from hb) 'j',hok,.of_eq hg⟩;refine xh ((F _ hKb (nsK hns)).run callerA [] s₁ H ⟨[.ref a],[]⟩ [.ref a] [.ref a] _ _ hr e0 (hbind s₁ (.ref a)) (.cons rfl .nil) (hsp H hO hS)) λr s' h=>?_
  cases r with
  | error e=>exact(hCX H e s' h).elim
  | ok fl =>
   cases fl with
   | next=>exact False.elim h
   | brk=>exact False.elim h
   | cont=>exact False.elim h
   | ret u =>
    obtain⟨v,H',os,bare,un,hok',r',q⟩:=h;have q':v = .bl true:=q;subst q';obtain rfl:u=Value.bool true:=r';refine⟨rfl,OldK.of_keep λb o e=>?_,os,bare⟩
    cases q:H b with
    | none=>exact un.keep b o e q (by intro z;exact absurd (show b∈([]:List J0) from z) 'j') 'j'
    | some u =>
     rcases hO b with z | ⟨ob,xs,z⟩
     . rw[q]at z;cases z
     . have z2:=un.frzs b ob _ z;obtain⟨e1,_⟩:=hok b _ z;obtain⟨e2,_⟩:=hok' b _ z2;rw[e]at e1;cases e1;exact e2
 cases hk:K.lookup a with
 | some o =>
  -- the script is one of the module's own objects
  have e:=KX a o hk;rw[ha]at e
  cases e
  refine core (λ_=>none) (λ_ => .inl rfl) (.inr ⟨_,vs.toArray,_,hk,rfl,rfl,rfl,by rw[jH,lenV];exact hl,by simpa using rv⟩) (λb u z=>by have z':(none:Option HO)=some u:=z;cases z') (λb z=>absurd rfl z) λz=>absurd rfl z
 | none =>
  refine core (λb=>if b=a then some (.frz { cls := .type "list",data := .seq vs.toArray } (.lst (ns.map V.int))) else none) (λb=>?_) (.inl (.inr ⟨{ cls := .type "list",data := .seq vs.toArray },qh rfl⟩)) (λb u z=>?_) (λb z=>?_) λ_=>hk
  . by_cases hb:b=a
    . exact .inr ⟨_,_,qh hb⟩
    . exact .inl (qg hb)
  . by_cases hb:b=a
    . have z':=(qh hb).symm.trans z
      cases z'
      subst hb;exact⟨ha,by rw[jA];exact hl,vs,_,rv,ha⟩
    . have z':=(qg hb).symm.trans z
      cases z'
  . by_cases hb:b=a
    . exact hb
    . exact absurd (qg hb) z
def vF{l:PySem.W.OpenLaw}{n k:Nat}{loose:xy}{XP:(xq)->Heap->Prop}{YP:J2->Heap->Prop}{d:DefRec}{K:Params->xt}{CX:J2->CXT}{sp:J2->Sp}{x:Str}
 (hn:l.most=some n) (hn2:n<=sizeLine) (hdf:d.params.defaults=[]) (hr:Room k callerA)
 (hY:∀(w:J2) (h:Heap),YP w h->(K w.params).In h)
 (F:∀(w:J2) (mg:xq) (fa:J0) (h:Heap),(K w.params).In h->h.Ns mainGlobals mg->mg d.name=some (.ref fa) ->
  ∃fd:FuncData,(∀(s:xZ) (u:xY),BindsTo s fd ⟨[u],[]⟩ [(x,u)]) /\
   ∀base:Heap,(K w.params).In base->base.Ns mainGlobals mg->FnOk l.prog w (K w.params) mg base (CX w) k fa fd [x] (sp w))
 (hsp:∀(w:J2) (H:Hp) (a:J0) (ns:xA),ns.length<=n->dX H->SqL (K w.params) H a (ns.map V.int)->sp w [.ref a] H (λv _=>v = .bl true) λ_ _ _=>False)
 (hCX:∀(w:J2) (H:Hp) (s:xZ) (e:xY) (s':xZ),CX w [] H s (λ_ _ _=>False) e s'->False) :
 PySem.W.WalkO q loose XP YP l.row.toRowW d [] (λf vs=>PySem.call f vs):=by
 refine Att.attach_call hn hdf λw s₀ s₁ mg mb fa o pm cd xQ a vs ns G Y ho hd hcd hmg hobj hints xH hg=>?_;have KX:=hY w _ Y;obtain⟨fd,hb,hF⟩:=F w mg fa _ KX G.T.g hmg;exact vE KX G.T.g G.T.b G.T.builtins G.T.nolimit hg hobj hints (jh xH hn2) hr hF hb (λH hO hS=>hsp w H a ns xH hO hS) λH e s'=>hCX w H s₁ e s'
def defArgs(s:Stmt):Arguments:=match s with
 | .FunctionDef _ a _ _ _ _ _ _ _ _=>a
 | _=>{ posonlyargs:=[],args:=[],vararg:=none,kwonlyargs:=[],kw_defaults:=[],kwarg:=none,defaults:=[] }
def defBody(s:Stmt):List Stmt:=match s with
 | .FunctionDef _ _ b _ _ _ _ _ _ _=>b
 | _=>[]
def defScope(s:Stmt):Scope:=match s with
 | .FunctionDef _ _ _ _ _ _ sc _ _ _=>sc
 | _=>{ kind := .function,names:=[],isGenerator:=false,isCoroutine:=false }
abbrev CX0:CXT:=λ_ _ _ _ _ _=>False
abbrev E0:XK:=λ_ _ _=>False
def vG:QC CX0 X E0:=λ_ _ _ _ _ _ _ h=>h.elim
structure Fun (K:xt) (x qual:Str) (st:Stmt) (f:J0) (fd:FuncData):Prop where
 ex:∃(oc:xY) (od:Option J0) (kV xQ pm:xY) (an:Option J0) (xD ct:xY) (osl:Array (xu)),
  fd=PySem.W.fnOf x qual (defArgs st) (defBody st) (defScope st) .none kV xQ pm an xD ct/\K.lookup f=some ⟨oc,od,.func fd,osl⟩/\PySem.W.codeIn K xD qual=true
 kp:PySem.W.keepIn K (.ref f)=true
section
variable {P:J1}{w:J2}{K:xt}{mg:xq}{base:Heap}
def Fun.ok{x qual:Str}{st:Stmt}{f:J0}{fd:FuncData}{N ps:xy}{k:Nat}{sp:Sp}(F:Fun K x qual st f fd)(S:FnScope N ps (defScope st))(len:∀vs H Q E,sp vs H Q E->vs.length=ps.length)
 (xL:∀(xD:xY) (A:J3) (outer:List Env) (s:xZ) (H:Hp) (vs:List V) (Q:VK) (E:XK),Room k (A.deeper (envOfC qual (defScope st) s.heap.objs.size f xD))->sp vs H Q E ->
  ∃t,PSs (QO CX0 P w K mg base N qual (defScope st) f xD A outer s H E).nox (defBody st) t/\t { nx:=λ_ H'=>Q .non H',rt:=Q } (JS N vs) H):FnOk P w K mg base CX0 (k + 1) f fd ps sp:=by
 obtain⟨oc,od,kV,xQ,pm,an,xD,ct,osl,rfl,lk,hcd⟩:=F.ex;refine dO lk hcd S len λA outer s H vs Q E hr hsp=>?_;obtain⟨t,h,q⟩:=xL xD A outer s H vs Q E hr hsp;exact⟨t,h.nox,q⟩
def Fun.binds{x qual:Str}{st:Stmt}{f:J0}{fd:FuncData}{ps:xy}(F:Fun K x qual st f fd)
 (h:∀(kV xQ pm:xY) (an:Option J0) (xD ct:xY) (us:xx),us.length=ps.length->bindArgs (PySem.W.fnOf x qual (defArgs st) (defBody st) (defScope st) .none kV xQ pm an xD ct) ⟨us,[]⟩=pure (ps.zip us)):Binds K fd ps []:=by
 obtain⟨oc,od,kV,xQ,pm,an,xD,ct,osl,rfl,lk,hcd⟩:=F.ex;exact .all (h kV xQ pm an xD ct)
def aD{x qual:Str}{st:Stmt}{f:J0}{oc:xY}{od an:Option J0}{osl:Array (xu)}{kV xQ pm xD ct:xY}(l:K.lookup f=some ⟨oc,od,.func (PySem.W.fnOf x qual (defArgs st) (defBody st) (defScope st) .none kV xQ pm an xD ct),osl⟩)
 (c:PySem.W.codeIn K xD qual=true) (k:PySem.W.keepIn K (.ref f)=true):Fun K x qual st f (PySem.W.fnOf x qual (defArgs st) (defBody st) (defScope st) .none kV xQ pm an xD ct):=⟨⟨oc,od,kV,xQ,pm,an,xD,ct,osl,rfl,l,c⟩,k⟩
end
def Xm(hr:Room k A):A.units + 1 < cLine:=js (Nat.add_le_add_left (by decide:1<=64) _) hr.units
def ZF(h:n<=1000):n < sizeLine:=js h 'f'
section
variable {X:Cx}
def pv(i:Nat){x:Str}{pos:Pos}(hN:X.N[i]? = some x:=by rfl)(hv:Vis X.env.scope x:=by first | exact Or.inl rfl | exact Or.inr (Or.inl rfl) | exact Or.inr (Or.inr rfl))(hd:(x == ("__debug__" : Str))=false:=by decide)
 (hcd:(x == ("__classdict__" : Str))=false:=by decide):PE X (.Name x pos) (Ym i):=tN hN hv hd hcd
end
def ZG{A B:Prop}(h:B):if false=true then A else B:=by
 rw[qg jR];exact h
def Yt{A B:Prop}(h:A):if true=true then A else B:=by
 rw[qh rfl];exact h
def Same(H H':Hp):Prop:=∀b o,H b=some o->H' b=some o
def Same.refl(H:Hp):Same H H:=λ_ _ h=>h
def Same.trans(a:Same H H1)(b:Same H1 H2):Same H H2:=λc o h=>b c o (a c o h)
def Same.free(e:Same H H')(h:H' l=Option.none):H l=Option.none:=by
 cases q:H l with
 | none=>rfl
 | some o =>
  rw[e l o q]at h
  cases h
def Same.seq{K:xt}{H H':Hp}{a:J0}{xs:List V}(e:Same H H')(h:SqL K H a xs):SqL K H' a xs:=by
 rcases h with (h | ⟨o,h⟩) | h
 . exact .inl (.inl (e _ _ h))
 . exact .inl (.inr ⟨o,e _ _ h⟩)
 . exact .inr h
section
variable {κ:Type} [DecidableEq κ]
def Q4(kvs:List (κ×V))(k:κ):Option V:=(kvs.find? λkv=>decide (kv.1=k)).map (·.2)
def JP(kvs:List (κ×V))(k:κ)(v:V):List (κ×V) :=
 if (kvs.any λkv=>decide (kv.1=k))=true then kvs.map (λkv=>if kv.1=k then(kv.1,v) else kv) else kvs ++ [(k,v)]
def aE{p:κ×V}{r:List (κ×V)}{k:κ}(e:p.1=k):Q4 (p :: r) k=some p.2:=by simp[Q4,kJ,e]
def aF{p:κ×V}{r:List (κ×V)}{k:κ}(e:¬p.1=k):Q4 (p :: r) k=Q4 r k:=by simp[Q4,kJ,e]
theorem lO(k:κ):∀kvs:List (κ×V),(kvs.any λkv=>decide (kv.1=k))=(Q4 kvs k).isSome
 | []=>rfl
 | p :: r=>by
  rw[qI]
  by_cases e:p.1=k
  . simp only[aE e,qm e,Bool.true_or,Option.isSome_some]
  . rw[aF e,qk e,Bool.false_or];exact lO k r
def dY(kvs:List (κ×V))(k:κ)(v:V):(JP kvs k v).length<=kvs.length + 1:=by
 unfold JP;split
 . rw[jA];omega
 . rw[jI,jP,kU];omega
def RelO.isSome_eq(r:RelO o u):o.isSome=u.isSome:=by
 cases o with
 | none=>cases u with
  | none=>rfl
  | some _=>exact(show False from r).elim
 | some _=>cases u with
  | none=>exact(show False from r).elim
  | some _=>rfl
theorem RelO.getD(r:RelO o u)(rd:RelV d d'):RelV (o.getD d) (u.getD d'):=by
 cases o with
 | none=>cases u with
  | none=>exact rd
  | some _=>exact(show False from r).elim
 | some _=>cases u with
  | none=>exact(show False from r).elim
  | some _=>exact r
def KV.val(r:KV kvs vs)(k:κ):RelO (Q4 kvs k) (valueAt vs k):=by
 unfold KV at r
 induction r with
 | nil=>exact True.intro
 | @cons p q ps qs h t ih =>
  obtain⟨h1,h2⟩:=h
  by_cases e:p.1=k
  . have e':q.1=k:=h1.symm.trans e;have b:valueAt (q :: qs) k=some q.2:=by simp[valueAt,kJ,e']
    rw[aE e,b];exact h2
  . have e':¬q.1=k:=λz=>e (h1.trans z);have b:valueAt (q :: qs) k=valueAt qs k:=by simp[valueAt,kJ,e']
    rw[aF e,b];exact ih
theorem KV.any(r:KV kvs vs)(k:κ):(kvs.any λkv=>decide (kv.1=k))=vs.any λkv=>decide (kv.1=k):=by
 unfold KV at r
 induction r with
 | nil=>rfl
 | cons h t ih=>rw[qI,qI,ih,h.1]
def KV.repl(r:KV kvs vs)(k:κ)(ry:RelV y u) :
 KV (kvs.map λkv=>if kv.1=k then(kv.1,y) else kv) (vs.map λkv=>if kv.1=k then(kv.1,u) else kv):=by
 unfold KV at r ⊢
 induction r with
 | nil=>exact .nil
 | @cons p q ps qs h t ih =>
  rw[jf,jf];refine .cons ?_ ih;obtain⟨h1,h2⟩:=h
  by_cases e:p.1=k
  . rw[qh e,qh (h1.symm.trans e)];exact⟨h1,ry⟩
  . rw[qg e,qg (λz=>e (h1.trans z))];exact⟨h1,h2⟩
def KV.put(r:KV kvs vs)(k:κ)(ry:RelV y u):KV (JP kvs k y) (stored vs k u):=by
 unfold JP stored;rw[r.any k]
 by_cases e:(vs.any λkv=>decide (kv.1=k))=true
 . rw[qh e,qh e];exact r.repl k ry
 . rw[qg e,qg e];exact Paired.snoc r ⟨rfl,ry⟩
theorem KV.length{kvs:List (κ×V)}{vs:List (κ×xY)}(r:KV kvs vs):kvs.length=vs.length:=Paired.length r
end
def Zg(r:RelV (kV k) u):(JA P w).is k u=true:=by
 cases k with
 | inl i=>obtain⟨t,e⟩:=(show ∃t,u=Value.int i t from r);subst e;exact tI P w i t
 | inr x=>obtain⟨t,e⟩:=(show ∃t,u=Value.str x t from r);subst e;exact tJ P w x t
theorem lQ:∀{ks:List Key}{us:xx},Vals (ks.map kV) us->ItemsAre (JA P w) ks us
 | [],_,r=>by rw[List.map_nil]at r;cases r;exact .nil
 | k :: ks,_,r=>by
  rw[jf]at r
  cases r with
  | cons h t=>exact .cons (Zg h) (lQ t)
abbrev KT(H:Hp):List (List Key×V)->List (List Key×J0×xY)->Prop:=Paired λp q=>p.1=q.1/\H q.2.1=some (.tup (p.1.map kV))/\RelV p.2 q.2.2
def KT.val(r:KT H kvs xs)(k:List Key):RelO (Q4 kvs k) ((atKey xs k).map (·.2)):=by
 induction r with
 | nil=>exact True.intro
 | @cons p q ps qs h t ih =>
  obtain⟨h1,_,h2⟩:=h
  by_cases e:p.1=k
  . have e':q.1=k:=h1.symm.trans e;have b:atKey (q :: qs) k=some q.2:=by simp[atKey,kJ,e']
    rw[aE e,b];exact h2
  . have e':¬q.1=k:=λz=>e (h1.trans z);have b:atKey (q :: qs) k=atKey qs k:=by simp[atKey,kJ,e']
    rw[aF e,b];exact ih
def KT.repl(r:KT H kvs xs)(k:List Key)(ry:RelV y u) :
 KT H (kvs.map λkv=>if kv.1=k then(kv.1,y) else kv) (xs.map (putAt k u)):=by
 induction r with
 | nil=>exact .nil
 | @cons p q ps qs h t ih =>
  rw[jf,jf];refine .cons ?_ ih;obtain⟨h1,h2,h3⟩:=h;unfold putAt
  by_cases e:p.1=k
  . rw[qh e,qh (h1.symm.trans e)];exact⟨h1,h2,ry⟩
  . rw[qg e,qg (λz=>e (h1.trans z))];exact⟨h1,h2,h3⟩
def KT.put(r:KT H kvs xs)(k:List Key)(hb:H b=some (.tup (k.map kV)))(ry:RelV y u) :
 KT H (JP kvs k y) (storedH xs k b u):=by
 have e:(kvs.any λkv=>decide (kv.1=k))=(atKey xs k).isSome:=by
  rw[lO,(r.val k).isSome_eq,Option.isSome_map]
 unfold JP storedH;rw[e]
 by_cases q:(atKey xs k).isSome=true
 . rw[qh q,qh q];exact r.repl k ry
 . rw[qg q,qg q];exact Paired.snoc r ⟨rfl,hb,ry⟩
def KT.keeps(r:KT H kvs xs)(ht:∀b ys,H b=some (.tup ys)->H' b=some (.tup ys)):KT H' kvs xs :=
 Paired.mapP r λ_ _ z=>⟨z.1,ht _ _ z.2.1,z.2.2⟩
section
variable {P:J1}{w:J2}{H:Hp}{h:Heap}{a:J0}
def lR(ok:HOk P w H h)(e:Rd H a u):ObjOk P w H h a u:=e.ok ok
def ZH(ok:HOk P w H h)(e:Rd H a (.dK kvs)):kvs.length<=sizeLine/\(a == sysModules)=false/\∃vs,KV kvs vs/\h.DictOf (JA P w) a vs :=
 show ObjOk P w H h a (.dK kvs) from lR ok e
def vH(ok:HOk P w H h)(e:H a=some (.dK kvs)):kvs.length<=sizeLine/\(a == sysModules)=false/\∃vs,KV kvs vs/\h.DictOf (JA P w) a vs:=ZH ok (.inl e)
def ZI(ok:HOk P w H h)(e:H a=some (.tup (ks.map kV))):(tupleKind (JA P w)).is h ks a:=by
 obtain⟨_,its,r,o,h1,h2,n,h3⟩:=(show ObjOk P w H h a (.tup (ks.map kV)) from ok a _ e);exact⟨o,its.toArray,n,h1,h2,h3,by simpa using lQ r⟩
def ZJ(ok:HOk P w H h)(e:Rd H a (.dT kvs)):kvs.length<=sizeLine/\(a == sysModules)=false /\
 ∃xs,KT H kvs xs/\h.DictOfH (tupleKind (JA P w)) a xs:=by
 obtain⟨z,y,xs,r,o,es,ep,h1,h2,h3,h4,h5⟩:=(show ObjOk P w H h a (.dT kvs) from lR ok e);refine⟨z,y,xs,r,o,es,ep,h1,h2,h3,h4,λx hx=>?_,h5⟩
 have all:∀{l:List (List Key×V)}{m:List (List Key×J0×xY)},KT H l m->∀x∈m,(tupleKind (JA P w)).is h x.1 x.2.1:=by
  intro l m q
  induction q with
  | nil=>intro x hx;exact nomatch hx
  | @cons p q ps qs hq t ih =>
   intro x hx;rcases jL.mp hx with e | hx
   . subst e;exact ZI ok (by rw[<- hq.1];exact hq.2.1)
   . exact ih x hx
 exact all r x hx
def lU(ok:HOk P w H h)(e:H a=some (.dT kvs)):kvs.length<=sizeLine/\(a == sysModules)=false /\
 ∃xs,KT H kvs xs/\h.DictOfH (tupleKind (JA P w)) a xs:=ZJ ok (.inl e)
end
def DGet(H:Hp)(a:J0)(y:V)(r:Option V):Prop :=
 (∃kvs k,Rd H a (.dK kvs)/\y=kV k/\r=Q4 kvs k)\/∃kvs k b,Rd H a (.dT kvs)/\y = .ref b/\H b=some (.tup (k.map kV))/\r=Q4 kvs k
def DPut(H:Hp)(a:J0)(y v:V)(H':Hp):Prop :=
 (∃kvs k,H a=some (.dK kvs)/\y=kV k/\kvs.length < sizeLine/\H'=upd H a (.dK (JP kvs k v))) \/
 ∃kvs k b,H a=some (.dT kvs)/\y = .ref b/\H b=some (.tup (k.map kV))/\kvs.length < sizeLine/\H'=upd H a (.dT (JP kvs k v))
def DGet.t(e:H a=some (.dT kvs))(eb:H b=some (.tup (k.map kV))):DGet H a (.ref b) (Q4 kvs k) := .inr ⟨kvs,k,b,.inl e,rfl,eb,rfl⟩
def DPut.t(e:H a=some (.dT kvs))(eb:H b=some (.tup (k.map kV)))(hl:kvs.length < sizeLine) :
 DPut H a (.ref b) v (upd H a (.dT (JP kvs k v))) := .inr ⟨kvs,k,b,e,rfl,eb,hl,rfl⟩
section
variable {X:Cx}{xB:xr}{σ:St}{H:Hp}{s:xZ}{a:J0}{y v:V}{u r:xY}{o:Option V}{A:J3}{E:xp}
def Inv.big(I:Inv X xB σ H s):sysModules < s.heap.objs.size:=by
 have h:mainGlobals < s.heap.objs.size:=(I.mod.glob.keeps I.bk).lt;exact Nat.lt_trans 'f' h
def vI(hu:A.units + 1 < cLine)(I:Inv X xB σ H s)(g:DGet H a y (some v))(ry:RelV y u)(h:∀w' s',Inv X xB σ H s'->RelV v w'->Q w' s') :
 wpAny (model X.prog X.w) A (getItem (.ref a) u) Q E s:=by
 rcases g with ⟨kvs,k,e,ey,l⟩ | ⟨kvs,k,b,e,ey,eb,l⟩
 . subst ey;obtain⟨z,hd,vs,rel,dd⟩:=ZH I.hok e;obtain⟨w',hw,rw'⟩:=RelO.some_of (v:=v) (o:=valueAt vs k) (by rw[l];exact rel.val k);exact wpAny_getItem_of (Zg ry) dd.mapOf hw (h w' _ (I.tok _) rw')
 . subst ey
   cases (show u=Value.ref b from ry)
   obtain⟨z,hd,xs,rel,dd⟩:=ZJ I.hok e;obtain⟨w',hw,rw'⟩:=RelO.some_of (v:=v) (o:=(atKey xs k).map (·.2)) (by rw[l];exact rel.val k);obtain⟨p,hp,hp2⟩:=jj.mp hw;refine wpAny_getItem_heap (tupleKind_room_in1 hu) (ZI I.hok eb) dd hp ?_;rw[hp2];exact h w' _ (I.tok _) rw'
def vJ(hu:A.units + 1 < cLine)(I:Inv X xB σ H s)(g:DGet H a y o)(ry:RelV y u)(h:∀s',Inv X xB σ H s'->Q (.bool o.isSome) s') :
 wpAny (model X.prog X.w) A (compareOp .In u (.ref a)) Q E s:=by
 rcases g with ⟨kvs,k,e,ey,l⟩ | ⟨kvs,k,b,e,ey,eb,l⟩
 . subst ey;obtain⟨z,hd,vs,rel,dd⟩:=ZH I.hok e;refine wpAny_in_of (Zg ry) hd dd.mapOf ?_;rw[<- (rel.val k).isSome_eq,<- l];exact h _ (I.tok _)
 . subst ey
   cases (show u=Value.ref b from ry)
   obtain⟨z,hd,xs,rel,dd⟩:=ZJ I.hok e;refine wpAny_in_heap (tupleKind_room_in1 hu) (ZI I.hok eb) hd dd ?_;have q:=(rel.val k).isSome_eq;rw[Option.isSome_map]at q;rw[<- q,<- l];exact h _ (I.tok _)
def lV(I:Inv X xB σ H s)(mu:Mut (H a))(hs:Heap.SameBut a s.heap h')(he:∃q,h'.get? a=some q)(new:ObjOk X.prog X.w (upd H a ob) h' a ob) :
 Inv X xB σ (upd H a ob) { s with heap:=h',toks:=t' } :=
 I.write (x:=a) (e:=a) mu (.inl rfl) (λb q hb z=>(hs.2 b hb).trans z) he new
def dZ(z:kvs.length<=sizeLine)(hd:(a == sysModules)=false)(rel:KV kvs vs)(dd:h'.DictOf (JA P w) a vs) :
 ObjOk P w H' h' a (.dK kvs):=⟨z,hd,vs,rel,dd⟩
def vK(hu:A.units + 1 < cLine)(I:Inv X xB σ H s)(g:DPut H a y v H')(ry:RelV y u)(rv:RelV v r)(h:∀s',Inv X xB σ H' s'->Q () s') :
 wpAny (model X.prog X.w) A (setItem (.ref a) u r) Q E s:=by
 rcases g with ⟨kvs,k,e,ey,l,eH⟩ | ⟨kvs,k,b,e,ey,eb,l,eH⟩
 . subst ey eH;obtain⟨z,hd,vs,rel,dd⟩:=vH I.hok e;have hz:vs.length<=sizeLine:=by rw[<- rel.length];exact z
   have hl:(JP kvs k v).length<=sizeLine:=by have:=dY kvs k v;omega
   refine wpAny_setItem_pairs (hsz:=hz) (Zg ry) dd λh' dd' hs=>h _ ?_;have he:∃q,h'.get? a=some q:=let ⟨q,_,_,hq,_⟩:=dd';⟨q,hq⟩;exact lV I (by rw[e];exact True.intro) hs he (dZ hl hd (rel.put k rv) dd')
 . subst ey eH
   cases (show u=Value.ref b from ry)
   obtain⟨z,hd,xs,rel,dd⟩:=lU I.hok e;have hz:xs.length<=sizeLine:=by rw[<- Paired.length rel];exact z
   have hl:(JP kvs k v).length<=sizeLine:=by have:=dY kvs k v;omega
   refine wpAny_setItem_heap (hsz:=hz) (tupleKind_room_in1 hu) (ZI I.hok eb) dd λh' dd' hs=>h _ ?_;obtain⟨q,es,ep,hq,h2,h3,h4,_,h5⟩:=dd';refine lV I (by rw[e];exact True.intro) hs ⟨q,hq⟩ ⟨hl,hd,_,(rel.put k eb rv).keeps λc ys ec=>?_,q,es,ep,hq,h2,h3,h4,h5⟩;rw[Jb (QN ec e (λz=>nomatch z))];exact ec
end
def lW(i:Expr):Prop:=∀ov iv,subscripted i false ov iv=operate [ov,iv] (getItem ov iv)
theorem vL{E:xp}{env:Env}{pos:Pos}{T id:String}{Q:xp}
 (hl:typeLookup (.type T) "__getitem__" = pure (some (.builtin id))) (hs:lW slice)
 (h:wpAny (model prog w) A (eval value env) (λo s₁=>wpAny (model prog w) A (eval slice env) (λi s₂=>s₂.TypeIs o T/\wpAny (model prog w) A (getItem o i) Q E s₂) E s₁) E s) :
 wpAny (model prog w) A (eval (.Subscript value slice pos) env) Q E s:=by
 refine Subscript_ (qQ h (λo s₁ h₁=>qQ h₁ (λi s₂ h₂=>?_) λ_ _ x=>x) λ_ _ x=>x);obtain⟨hT,h₂⟩:=h₂;unfold subscriptTail;refine q8 ?_;rw[getitemInPython_of_ne hT.not_modules];refine q8 (wpAny_specialOf hT hl ?_)
 have fin:wpAny (model prog w) A (subscripted slice false o i) (λr s₃=>wpAny (model prog w) A (letTemporaryGo value o r >>= λ_=>pure r) Q E s₃) E s₂:=by
  rw[hs o i];exact wpAny_operating (qQ h₂ (λr s₃ h₃=>q8 (wpAny_letTemporaryGo (qf h₃))) λ_ _ x=>x)
 first
  | exact qf (q8 fin)
  | exact q8 (qf (q8 fin))
  | exact q8 fin
def vM{X:Cx}{xB:xr}{σ:St}{H:Hp}{s:xZ}{a:J0}{y:V}{o:Option V}(I:Inv X xB σ H s)(g:DGet H a y o):s.TypeIs (.ref a) "dict" := by
 rcases g with ⟨kvs,k,e,_,_⟩ | ⟨kvs,k,b,e,_,_,_⟩
 . obtain⟨_,_,vs,_,dd⟩:=ZH I.hok e;exact dd.typeIs
 . obtain⟨_,_,xs,_,dd⟩:=ZJ I.hok e;exact dd.typeIs
def vN(td ty:TE):TE:=λσ H Q=>td σ H λx H1=>ty σ H1 λy H2=>∃a v,x = .ref a/\DGet H2 a y (some v)/\Q v H2
def vO(td ty tv:TE):TS:=λD σ H=>tv σ H λv H1=>td σ H1 λx H2=>ty σ H2 λy H3=>∃a H4,x = .ref a/\DPut H3 a y v H4/\D.nx σ H4
section
variable {X:Cx}{o i e value:Expr}{pos pos' tpos:Pos}{td ty tv:TE}
def e9(hu:X.A.units + 1 < cLine)(ho:PE X o td)(hi:PE X i ty)(hs:lW i):PE X (.Subscript o i pos) (vN td ty):=by
 intro xB s σ H Q I h;refine vL PySem.F.slot_dict_getitem.lookup hs (thn (ho xB s σ H _ I h) λu s1 fv=>?_);obtain⟨x,H1,I1,rx,q1⟩:=fv;refine thn (hi xB s1 σ H1 _ I1 q1) λiv s2 p7=>?_;obtain⟨y,H2,I2,ry,a,v,ex,g,q2⟩:=p7;subst ex;obtain rfl:u=Value.ref a:=rx;exact⟨vM I2 g,vI hu I2 g ry λw' s3 I3 rw'=>⟨v,H2,I3,rw',q2⟩⟩
def eA(hu:X.A.units + 1 < cLine)(ho:PE X o td)(hi:PE X i ty)(hv:PE X value tv)(hs:swapsWith value (some (.Subscript o i pos')) pos.line X.env=pure false) :
 PS X (.Assign [.Subscript o i pos'] value pos) (vO td ty tv):=by
 intro xB s σ H D I h;refine wpAny_Assign_Subscript (thn (hv xB s σ H _ I h) λr s1 fv=>?_) hs;obtain⟨v,H1,I1,rv,q1⟩:=fv;refine thn (ho xB s1 σ H1 _ I1 q1) λu s2 p7=>?_;obtain⟨x,H2,I2,rx,q2⟩:=p7;refine thn (hi xB s2 σ H2 _ I2 q2) λiv s3 h7=>?_;obtain⟨y,H3,I3,ry,a,H4,ex,g,q3⟩:=h7;subst ex;obtain rfl:u=Value.ref a:=rx;exact vK hu I3 g ry rv λs4 I4=>⟨σ,H4,I4,q3⟩
end
def vP(h:Heap)(hb:sysModules < h.objs.size):ObjOk P w H (h.push { cls := .type "dict",data := .dict #[] }) h.objs.size (.dK []) :=
 ⟨jX _,beq_eq_false_iff_ne.mpr (Ne.symm (jQ hb)),[],.nil,Heap.DictOf.new h⟩
def vQ(h:Heap)(hb:sysModules < h.objs.size):ObjOk P w H (h.push { cls := .type "dict",data := .dict #[] }) h.objs.size (.dT []) :=
 ⟨jX _,beq_eq_false_iff_ne.mpr (Ne.symm (jQ hb)),[],.nil,_,#[],0,jK _ rfl,⟨rfl,rfl,rfl⟩,rfl,rfl,jx⟩
def vR:TE:=λ_ H Q=>∀p,H p=none->Q (.ref p) (upd H p (.dK []))
def vS:TE:=λ_ H Q=>∀p,H p=none->Q (.ref p) (upd H p (.dT []))
section
variable {X:Cx}{pos:Pos}
def vT:PE X (.Dict [] [] pos) vR:=λxB s σ H Q I h =>
 wpAny_Dict_empty ⟨.ref s.heap.objs.size,_,I.laid (a:=s.heap.objs.size) (o := .dK []) (t':=s.toks) (λ_ _ q=>jB _ q) (jD _) (vP s.heap I.big),rfl,h _ (I.hok.fresh (jD _))⟩
def eC:PE X (.Dict [] [] pos) vS:=λxB s σ H Q I h =>
 wpAny_Dict_empty ⟨.ref s.heap.objs.size,_,I.laid (a:=s.heap.objs.size) (o := .dT []) (t':=s.toks) (λ_ _ q=>jB _ q) (jD _) (vQ s.heap I.big),rfl,h _ (I.hok.fresh (jD _))⟩
end
def Xn(kvs more:List (Key×V)):List (Key×V):=more.foldl (λacc kv=>JP acc kv.1 kv.2) kvs
def KV.merge:∀{more:List (Key×V)}{rs:List (Key×xY)}{kvs:List (Key×V)}{vs:List (Key×xY)},KV more rs->KV kvs vs->KV (Xn kvs more) (merged vs rs):=by
 intro more rs kvs vs r;unfold KV at r
 induction r generalizing kvs vs with
 | nil=>intro q;exact q
 | @cons p q ps qs h t ih =>
  intro r0
  have e:KV (JP kvs p.1 p.2) (stored vs q.1 q.2):=by
   have:=r0.put p.1 h.2;rw[<- h.1];exact this
  exact ih e
theorem eE:∀(more kvs:List (Key×V)),(Xn kvs more).length<=kvs.length + more.length
 | [],kvs=>by show kvs.length<=kvs.length + 0;omega
 | p :: r,kvs=>by
  have h1:=eE r (JP kvs p.1 p.2);have h2:=dY kvs p.1 p.2;show(Xn (JP kvs p.1 p.2) r).length<=_;rw[jP];omega
structure M2 (X:Cx) (o:Expr) (m:Str) (apos:Pos) (e f:Expr) (cpos:Pos):Prop where
 base:attributeBase o m X.env (eval o X.env)=eval o X.env
 few:((backTo cpos (starEach [e,f] X.env)).all (λx => !x.1) && (backToKw cpos (keywordEach [] X.env)).all (λx=>x.1.isSome)
  && decide (([e,f]:List Expr).length + ([]:List Keyword).length + (if ([]:List Keyword).isEmpty then 0 else 1) < 30))=true
 line:(apos.endLine == cpos.line)=true
 trees:backTo cpos (starEach [e,f] X.env)=[(false,eval e X.env),(false,eval f X.env)]
def m5(H:Hp)(a:J0):Prop:=(∃kvs,Rd H a (.dK kvs))\/∃kvs,Rd H a (.dT kvs)
def aG{X:Cx}{xB:xr}{σ:St}{H:Hp}{s:xZ}{a:J0}(I:Inv X xB σ H s)(d:m5 H a) :
 s.TypeIs (.ref a) "dict" /\ (∀b,Value.ref a = .ref b->∃ob,s.heap.get? b=some ob/\ob.dict=none)/\(a == sysModules)=false:=by
 rcases d with ⟨kvs,e⟩ | ⟨kvs,e⟩
 . obtain⟨_,hd,vs,_,dd⟩:=ZH I.hok e;refine⟨dd.typeIs,λb q=>?_,hd⟩
   cases q
   obtain⟨ob,_,_,h1,h2,_⟩:=dd;exact⟨ob,h1,h2.2.1⟩
 . obtain⟨_,hd,xs,_,dd⟩:=ZJ I.hok e;refine⟨dd.typeIs,λb q=>?_,hd⟩
   cases q
   obtain⟨ob,_,_,h1,h2,_⟩:=dd;exact⟨ob,h1,h2.2.1⟩
section
variable {X:Cx}{xB:xr}{σ:St}{H:Hp}{s:xZ}{a:J0}{y d:V}{u r:xY}{o:Option V}{A:J3}{E:xp}
def vU(hu:A.units + 1 < cLine)(I:Inv X xB σ H s)(g:DGet H a y o)(ry:RelV y u)(rd:RelV d r)(h:∀w' s',Inv X xB σ H s'->RelV (o.getD d) w'->Q w' s') :
 wpAny (model X.prog X.w) A (call (.builtin "dict.get") [.ref a,u,r]) Q E s:=by
 rcases g with ⟨kvs,k,e,ey,l⟩ | ⟨kvs,k,b,e,ey,eb,l⟩
 . subst ey;obtain⟨z,hd,vs,rel,dd⟩:=ZH I.hok e;refine call_meetsIn PySem.F.slot_dict_get dd.typeIs PySem.F.entry_dict_get (PySem.F.args_dict_get_3 _ _ _) (meets_dict_get_default (JA X.prog X.w) a (Zg ry) hd r) ⟨_,dd.mapOf,h _ _ (I.tok _) ?_⟩;rw[l];exact(rel.val k).getD rd
 . subst ey
   cases (show u=Value.ref b from ry)
   obtain⟨z,hd,xs,rel,dd⟩:=ZJ I.hok e;refine call_meetsIn PySem.F.slot_dict_get dd.typeIs PySem.F.entry_dict_get (PySem.F.args_dict_get_3 _ _ _) (meetsH_dict_get_default (tupleKind (JA X.prog X.w)) a b hd r) ⟨tupleKind_room_in1 hu,k,xs,ZI I.hok eb,dd,h _ _ (I.tok _) ?_⟩;rw[l];exact(rel.val k).getD rd
end
def vV(td ty tx:TE):TE:=λσ H Q=>td σ H λx H1=>∃a,x = .ref a/\m5 H1 a/\ty σ H1 λy H2=>tx σ H2 λz H3=>∃o,DGet H3 a y o/\Q (o.getD z) H3
section
variable {X:Cx}{o e f:Expr}{apos cpos:Pos}{td ty tx:TE}
def vW(hu:X.A.units + 1 < cLine)(ho:PE X o td)(he:PE X e ty)(hf:PE X f tx)(m:M2 X o "get" apos e f cpos):PE X (.Call (.Attribute o "get" apos) [e,f] [] cpos) (vV td ty tx):=by
 intro xB s σ H Q I h;refine wpAny_Call_method m.base m.few m.line PySem.F.plainAttrs_dict PySem.F.slot_dict_get PySem.F.type_dict_get (thn (ho xB s σ H _ I h) λu s1 fv=>?_);obtain⟨x,H1,I1,rx,a,ex,d,q1⟩:=fv;subst ex;obtain rfl:u=Value.ref a:=rx;obtain⟨t1,t2,_⟩:=aG I1 d;refine⟨t1,t2,?_⟩;rw[m.trees]
 refine Calls.callWith_builtin rfl (Calls.evalArgs_plain (Calls.spliced_cons (thn (he xB s1 σ H1 _ I1 q1) λiv s2 ⟨y,H2,I2,ry,q2⟩ =>
  Calls.spliced_cons (thn (hf xB s2 σ H2 _ I2 q2) λfv s3 ⟨z,H3,I3,rz,ov,g,q3⟩=>Calls.spliced_nil ?_))))
 exact vU hu I3 g ry rz λw' s4 I4 rw'=>⟨_,H3,I4,rw',q3⟩
end
section
variable {X:Cx}
def Q3:OpR X (binaryOp .Mult) (rI (λi j=>IntMulOk i j) λi j => .int (i * j)):=opI λ_ _ _ _ _ _ _ hc q=>mul_int q hc
def Q5:OpR X (binaryOp .FloorDiv) (rI (λ_ j=>0 < j/\j.natAbs.log2 < 9000) λi j => .int (i / j)):=opI λi j _ _ _ _ _ hc q=>by
 have h1:(0:Int) < j:=hc.1;exact floordiv_int 'd' (by rw[Int.fdiv_eq_ediv_of_nonneg i 'd'];exact q) (.inl (PyProof.noPylong_of_log2 hc.2))
def aH:OpR X (binaryOp .FloorDiv) (rI (λ_ j=>j≠0/\j.natAbs.log2 < 9000) λi j => .int (i.fdiv j)):=opI λi j _ _ _ _ _ hc q =>
 floordiv_int hc.1 q (.inl (PyProof.noPylong_of_log2 hc.2))
def Q8(ha:a.natAbs < 2 ^ m)(hb:b.natAbs < 2 ^ n)(h:m + n<=134217728):IntMulOk a b :=
 PyProof.Rows.mulOk_of_bits (PyProof.Rows.intBits_le ha) (PyProof.Rows.intBits_le hb) h
def JK:OpR X (compareOp .Eq) (rI0 λi j => .bl (decide (i=j))):=ay λ_ _ _ _ _ _ _ q=>eq_int (by rw[Bool.beq_eq_decide_eq];exact q)
def Xo:OpR X (compareOp .NotEq) (rI0 λi j => .bl (!decide (i=j))):=ay λ_ _ _ _ _ _ _ q=>ne_int (by rw[bne,Bool.beq_eq_decide_eq];exact q)
def Jx:OpR X (compareOp .Eq) (λx y H Q=>∃i j,x = .str i/\y = .str j/\Q (.bl (decide (i=j))) H):=by
 intro xB s σ H x y v u Q I rx ry h;obtain⟨i,j,rfl,rfl,q⟩:=h;have e:decide (V.str i=V.str j)=decide (i=j):=by simp
 refine iQ xB s σ H _ _ v u Q I rx ry ⟨rfl,?_⟩;rw[e];exact q
def XN:OpR X (compareOp .NotEq) (λx y H Q=>∃i j,x = .str i/\y = .str j/\Q (.bl (!decide (i=j))) H):=by
 intro xB s σ H x y v u Q I rx ry h;obtain⟨i,j,rfl,rfl,q⟩:=h;have e:decide (V.str i=V.str j)=decide (i=j):=by simp
 refine iR xB s σ H _ _ v u Q I rx ry ⟨rfl,?_⟩;rw[e];exact q
def JL:OpR X (compareOp .Eq) (λx y H Q=>∃i j,x = .bl i/\y = .bl j/\Q (.bl (decide (i=j))) H):=by
 intro xB s σ H x y v u Q I rx ry h;obtain⟨i,j,rfl,rfl,q⟩:=h;have e:decide (V.bl i=V.bl j)=decide (i=j):=by simp
 refine iQ xB s σ H _ _ v u Q I rx ry ⟨rfl,?_⟩;rw[e];exact q
def XO:OpR X (compareOp .NotEq) (λx y H Q=>∃i j,x = .bl i/\y = .bl j/\Q (.bl (!decide (i=j))) H):=by
 intro xB s σ H x y v u Q I rx ry h;obtain⟨i,j,rfl,rfl,q⟩:=h;have e:decide (V.bl i=V.bl j)=decide (i=j):=by simp
 refine iR xB s σ H _ _ v u Q I rx ry ⟨rfl,?_⟩;rw[e];exact q
def eG:V->xY
 | .ty n => .type n
 | .ref a => .ref a
 | _ => .none
def isC:V->Bool
 | .ty _=>true
 | .ref _=>true
 | _=>false
def vX(r:RelV c u)(h:isC c=true):u=eG c:=by
 cases c<;>first | exact r | cases h
inductive TyD (K:xt) (H:Hp):V->xY->Prop where
 | of {x:V}{t:xY} (h:TyOf K H x t):TyD K H x t
 | tupS {a:J0}{xs:List V} (h:SqT K H a xs):TyD K H (.ref a) (.type "tuple")
 | lstS {a:J0}{xs:List V} (h:SqL K H a xs):TyD K H (.ref a) (.type "list")
def vY:Q7 X (.builtin "isinstance") (λxs H Q=>∃x c t b,xs=[x,c]/\isC c=true/\TyD X.K H x t/\PySem.W.kitOne X.K t (eG c)=some b/\Q (.bl b) H):=by
 intro xB s σ H xs us Q I r h;obtain⟨x,c,t,b,rfl,hc,ty,e,q⟩:=h;obtain⟨u,w',rfl,rx,rc⟩:=dH r;have:=vX rc hc;subst this
 cases ty with
 | of ty=>exact uQ I rx ty e λtk=>⟨.bl b,H,I.tok _,rfl,q⟩
 | tupS hs =>
  cases rx
  obtain⟨its,_,⟨o,h1,h2,_⟩,_⟩:=I.tuple hs;exact PySem.W.kia_one PySem.W.kitx_tuple I.kIn ⟨o,h1,h2⟩ e (λz=>nomatch z) λtk=>⟨.bl b,H,I.tok _,rfl,q⟩
 | lstS hs =>
  cases rx
  obtain⟨its,_,pl,_⟩:=I.list hs;obtain⟨o,h1,h2,_⟩:=pl.isList;exact PySem.W.kia_one PySem.W.kitx_list I.kIn ⟨o,h1,h2⟩ e (λz=>nomatch z) λtk=>⟨.bl b,H,I.tok _,rfl,q⟩
end
structure Fn (K:xt) (mg:xq) (x:Str) (st:Stmt) (ps:xy):Prop where
 ex:∃f fd,Fun K x x st f fd/\Binds K fd ps []/\mg x=some (.ref f)
structure Def (P:J1) (w:J2) (K:xt) (mg:xq) (base:Heap) (x:Str) (k:Nat) (ps:xy) (sp:Sp):Prop where
 ex:∃f fd,FnOk P w K mg base CX0 k f fd ps sp/\Binds K fd ps []/\PySem.W.keepIn K (.ref f)=true/\mg x=some (.ref f)
section
variable {P:J1}{w:J2}{K:xt}{mg:xq}{base:Heap}
theorem Fn.ok{x:Str}{st:Stmt}{N ps:xy}{k:Nat}{sp:Sp}(F:Fn K mg x st ps)(S:FnScope N ps (defScope st))(len:∀vs H Q E,sp vs H Q E->vs.length=ps.length)
 (xL:∀(f:J0) (xD:xY) (A:J3) (outer:List Env) (s:xZ) (H:Hp) (vs:List V) (Q:VK) (E:XK),Room k (A.deeper (envOfC x (defScope st) s.heap.objs.size f xD))->sp vs H Q E ->
  ∃t,PSs (QO CX0 P w K mg base N x (defScope st) f xD A outer s H E).nox (defBody st) t/\t { nx:=λ_ H'=>Q .non H',rt:=Q } (JS N vs) H):Def P w K mg base x (k + 1) ps sp:=by
 obtain⟨f,fd,FF,b,m⟩:=F.ex;exact⟨f,fd,FF.ok S len (xL f),b,FF.kp,m⟩
end
section
variable {X:Cx}{k j:Nat}{ps:xy}{sp:Sp}{x:Str}{p pos:Pos}{e:Expr}{es:List Expr}{t:TA}
def Jh(D:Def X.prog X.w X.K X.mg X.base x j ps sp)(hr:Room k X.A)(hg:Gl X x)(ha:PA X (e :: es) t)(hjk:j<=k:=by decide)(hdb:(x == ("__debug__" : Str))=false:=by decide)
 (he:starEach (e :: es) X.env=(false,eval e X.env) :: starEach es X.env:=by rfl) (hpl:(backTo pos (starEach es X.env)).any (·.1)=false:=by rfl) :
 PE X (.Call (.Name x p) (e :: es) [] pos) (ZD sp [] E0 t):=by
 obtain⟨f,fd,F,b,kp,m⟩:=D.ex;exact iX F (hr.mono hjk) hg m kp b .nil vG ha hdb he hpl
end
def Jt{c:Prop}[Decidable c]{A B:Prop}(h1:c->A)(h2:¬c->B):if decide c=true then A else B:=by
 by_cases h:c
 . rw[qh (qm h)];exact h1 h
 . rw[qg (by rw[qk h];exact jR)];exact h2 h
def XQ{c:Prop}[Decidable c]{A B:Prop}(h1:¬c->A)(h2:c->B):if (!decide c)=true then A else B:=by
 by_cases h:c
 . rw[qg (by rw[qm h];exact jR)];exact h2 h
 . rw[qh (by rw[qk h];rfl)];exact h1 h
def eI(xs:List V)(k:Nat):JT xs (some (k:Int)) none=xs.drop k:=by
 unfold JT;rw[HT.sIx_nat,HT.sIx_none]
 by_cases h:k<=xs.length
 . rw[Nat.min_eq_left h,ji (by rw[jr];exact jD _)]
 . have h':xs.length<=k:=by omega
   rw[Nat.min_eq_right h',kF (jD _),kF h'];simp
def Yu(xs:List V)(k:Nat):JT xs none (some (k:Int))=xs.take k:=by
 unfold JT;rw[HT.sIx_nat,HT.sIx_none,kO,qG]
 by_cases h:k<=xs.length
 . rw[Nat.min_eq_left h]
 . have h':xs.length<=k:=by omega
   rw[Nat.min_eq_right h',ji (jD _),ji h']
def ZK{K:xt}{H:Hp}{a:J0}{xs:List V}(h:SqL K H a xs):dI K (.ref a) H xs.length := .inl ⟨xs,h,rfl⟩
def Jd{X:Cx}{e:Expr}{es:List Expr}{te:TE}{t:TA}(ha:PE X e te)(hr:PA X es t)(hs:starEach (e :: es) X.env=(false,eval e X.env) :: starEach es X.env):PA X (e :: es) (Jy te t):=J4 ha hr hs
section
variable {X:Cx}
def cap(ix:xz)(σ:St):St:=ix.map λi=>(σ[i]?).getD none
def QF(ix:xz)(wi:TI)(tt:TT)(te:TE):TE:=λσ H Q=>wi σ H λJ H1=>∀D,H1 D=none->∃W:Nat->Nat->Hp->Prop,(∃m,W 0 m (upd H1 D (.lst []))) /\
 ∀i m H,W i m H->(J.stop i H/\Q (.ref D) H)\/(J.go i H/\∀x H',J.yld i H x H'->tt (some x :: cap ix σ) H' λb H2 =>
  if b=true then te (some x :: cap ix σ) H2 λy H3=>∃ys,H3 D=some (.lst ys)/\ys.length < sizeLine/\∃m',m' < m/\W (i + 1) m' (upd H3 D (.lst (ys ++ [y]))) else ∃m',m' < m/\W (i + 1) m' H2)
def Qq(X:Cx)(x:Str)(M:xy)(scope:Scope)(cl:List (Str×J0))(C:J0)(xB:xr)(fp:List J0)(s:xZ)(H:Hp):Cx where
 prog:=X.prog
 w:=X.w
 K:=X.K
 mg:=X.mg
 base:=X.base
 A:=X.A
 N:=x :: M
 s₀:=s
 H₀:=H
 env:=compEnvC scope cl C X.env
 outer:=X.stack
 stack:=X.stack
 ex:=fp
 calm:=X.calm
 fn:=λ_=>false
 pn:=X.pn ++ xB
 xe:=λ_ _=>False
structure CompOk (X:Cx) (x:Str) (M:xy) (ix:xz) (scope:Scope) (cl:List (Str×J0)):Prop where
 clos:closureFor scope X.env=pure cl
 kind:scope.kind = .function
 names:∀y∈scope.names,y.2 = .local->scope.names.lookup y.1=some .local
 nocell:∀y∈scope.names,y.2 ≠ .cell
 loc:scope.names.lookup x=some .local
 sub:∀y c,cl.lookup y=some c->X.env.cells.lookup y=some c
 has:∀y,((compEnvC scope cl 0 X.env).kindOf y=some .cell\/(compEnvC scope cl 0 X.env).kindOf y=some .free)->∃c,cl.lookup y=some c
 len:ix.length=M.length
 cap:∀(i:Nat) (y:Str) (j:Nat),M[i]? = some y->ix[i]? = some j->X.N[j]? = some y/\Vis X.env.scope y/\∃c,cl.lookup y=some c/\((compEnvC scope cl 0 X.env).kindOf y=some .cell\/(compEnvC scope cl 0 X.env).kindOf y=some .free)/\X.env.kindOf y≠some .local
theorem vZ{x:Str}{M:xy}{ix:xz}{scope:Scope}{cl:List (Str×J0)}{xB:xr}{σ:St}{H:Hp}{s:xZ}{fp:List J0}{h4:Heap}{tk:Nat}{m:xq}(O:CompOk X x M ix scope cl)(I:Inv X xB σ H s)
 (hfp:∀b∈fp,FpOk X xB H b/\∃o,s.heap.get? b=some o) (hn:h4.Ns s.heap.objs.size m) (hk:∀b o,s.heap.get? b=some o->h4.get? b=some o) :
 Inv (Qq X x M scope cl s.heap.objs.size xB fp s H) [] (none :: cap ix σ) H { s with heap:=h4,toks:=tk }:=by
 have fresh:H s.heap.objs.size=none:=I.hok.fresh (jD _)
 have ex1:∀b∈fp,b≠s.heap.objs.size:=λb hb z=>by
  obtain⟨_,o,e⟩:=hfp b hb;exact absurd (jG e) (by rw[z];exact j7 _)
 have cellOf:∀y c,cl.lookup y=some c->X.env.cells.lookup y=some c:=O.sub
 refine⟨⟨I.ok.mod,O.kind,I.ok.glob,I.ok.blt,jD _,λy z c h1 h2=>I.ok.inj y z c (O.sub y c h1) (O.sub z c h2),λy hy=>O.has y hy,λy c h=>(nomatch h),I.ok.hd,I.ok.frames,.inl rfl,λb hb=>⟨ex1 b hb,λy c e=>(hfp b hb).1.2.2.2.2.1 y c (O.sub y c e)⟩,
  I.bs,jh I.ok.bsz I.sz,λb o e hb=>?_,λb hb z=>?_,I.stack,I.stkFree⟩,rfl,I.bare,Un.kept hk,⟨m,hn,λi y v h1 h2 h3=>?_⟩,λy c e=>?_,fresh,λy c e=>I.freeC y c (O.sub y c e),λp hp=>?_,I.hok.kept hk,?_⟩
 . have f:=(hfp b hb).1.2.2.2.1;rcases f with f | f
   . exact I.ok.noex b o e f
   . exact absurd (jc (jG e) (jh I.ok.bsz f)) (j7 _)
 . rcases jL.mp (I.stkSub b z) with q | q
   . exact(hfp b hb).1.2.1 q
   . exact(hfp b hb).1.2.2.1 q
 . cases i with
   | zero=>exact absurd (show(none:Option V)=some v from Option.some.inj h2) (λz=>nomatch z)
   | succ i =>
    have h1':M[i]? = some y:=h1;have h2':(ix.map λi=>(σ[i]?).getD none)[i]? = some (some v):=h2;rw[jF]at h2'
    cases ej:ix[i]? with
    | none=>rw[ej]at h2';cases h2'
    | some j =>
     rw[ej]at h2';have h2'':(σ[j]?).getD none=some v:=Option.some.inj h2';obtain⟨hN,hV,c,hc,hk',hnl⟩:=O.cap i y j h1' ej
     cases eσ:σ[j]? with
     | none=>rw[eσ]at h2'';cases h2''
     | some ov =>
      rw[eσ]at h2'';have:ov=some v:=h2'';subst this;obtain⟨mm,hnn,hl⟩:=I.loc;obtain⟨u,r,l⟩:=hl j y v hN eσ hV;refine⟨u,r,?_⟩;rcases l with ⟨k,_⟩ | ⟨k,c',e',z⟩
      . exact absurd k hnl
      . have:c'=c:=Option.some.inj (e'.symm.trans (O.sub y c hc));subst this;obtain⟨o,ho,hd⟩:=z;exact .inr ⟨hk',c',hc,o,hk _ _ ho,hd⟩
 . obtain⟨v,o,ho,hd⟩:=I.cell y c (O.sub y c e);exact⟨v,o,hk _ _ ho,hd⟩
 . have hp':p∈X.pn ++ xB:=by
    have:=(jO.mp hp);exact this.elim id λz=>absurd z 'j'
   obtain⟨e,n,ne,nf,d⟩:=I.pin p hp';refine⟨hk _ _ e,n,λz=>?_,λz=>?_,d⟩
   . exact absurd (jG e) (by rw[show p.1=s.heap.objs.size from z];exact j7 _)
   . rcases jL.mp (I.stkSub _ z) with q | q
     . exact ne q
     . exact nf q
 . show(none :: ix.map _).length=(x :: M).length;simp[O.len]
end
section
variable {X:Cx}
def PTs(X:Cx)(ifs:List Expr)(t:TT):Prop :=
 ∀(xB:xr) (s:xZ) (σ:St) (H:Hp) (Q:Bool->Hp->Prop),Inv X xB σ H s->t σ H Q ->
  wpAny (model X.prog X.w) X.A (forIn ifs true λc r=>if r=true then do let ok <- isTrue c X.env (eval c X.env);pure (ForInStep.yield ok) else pure (ForInStep.yield r)) (TP X xB σ Q) X.xe s
def X4:TT:=λ_ H Q=>Q true H
def Xp:PTs X [] X4:=λ_ _ _ H _ I h=>wpAny_tests_nil ⟨H,I,h⟩
def aI(h:PT X c t):PTs X [c] t:=λxB s σ H Q I q=>wpAny_tests_one (h xB s σ H Q I q)
theorem m7{elt iter:Expr}{x:Str}{px:Pos}{ifs:List Expr}{scope:Scope}{cl:List (Str×J0)}{pos:Pos}{M:xy}{ix:xz}{tt:TT}{te:TE}{xB:xr}{σ:St}{H2:Hp}{s2:xZ}{it:J0}{fp:List J0}{tn:Nat->Heap->Prop}{J:It}
 (O:CompOk X x M ix scope cl) (hc:X.calm=true) (nd:(x :: M).Nodup)
 (ht:∀C xB fp s H,PTs (Qq X x M scope cl C xB fp s H) ifs tt) (he:∀C xB fp s H,PE (Qq X x M scope cl C xB fp s H) elt te)
 (I2:Inv X xB σ H2 s2) (T:Turn X.prog X.w X.K (.Name x px) J fp it tn) (xJ:tn 0 s2.heap) (f2:∀b∈fp,FpOk X xB H2 b)
 {RR:xY->J0->Result->xZ->Prop}{E:xp}{Q:VK}
 (h:∀D,H2 D=none->∃W:Nat->Nat->Hp->Prop,(∃m,W 0 m (upd H2 D (.lst []))) /\
  ∀i m H,W i m H->(J.stop i H/\Q (.ref D) H)\/(J.go i H/\∀x H',J.yld i H x H'->tt (some x :: cap ix σ) H' λb H2 =>
   if b=true then te (some x :: cap ix σ) H2 λy H3=>∃ys,H3 D=some (.lst ys)/\ys.length < sizeLine/\∃m',m' < m/\W (i + 1) m' (upd H3 D (.lst (ys ++ [y]))) else ∃m',m' < m/\W (i + 1) m' H2))
 (hR:∀(C D:J0) (H':Hp) (s':xZ) (m:xq),Inv X xB σ H' s'->Q (.ref D) H'->s'.heap.Ns C m->H' C=none->C≠X.env.locals->X.s₀.heap.objs.size<=C->(∀y c,X.env.cells.lookup y=some c->c≠C)->(∀p∈X.pn ++ xB,p.1≠C)->RR (.ref D) C (.ok .next) s') :
 wpAny (model X.prog X.w) X.A (newList []) (λacc s₃=>wpAny (model X.prog X.w) X.A (newFunctionEnv scope X.env.globals cl [] X.env.qual none .none (some X.env)) (λcenv s₄ =>
  codeAny (model X.prog X.w) X.A (.compStart (.ListComp elt [⟨.Name x px,iter,ifs,0⟩] scope pos) 0 (.ref it) acc { cenv with scope:=relabel scope X.env }) (RR acc cenv.locals) s₄) E s₃) E s2:=by
 have hD:H2 s2.heap.objs.size=none:=I2.hok.fresh (jD _);obtain⟨W,⟨m0,w0⟩,turn⟩:=h s2.heap.objs.size hD;refine qw (wpAny_newFunctionEnv O.nocell (by intro y hy;simp at hy) (λh₁ hns₁ hsb₁=>?_) O.kind);dsimp only at hns₁ hsb₁ ⊢;generalize hH3:s2.heap.push { cls := .type "list",dict:=none,data := .seq ([]:xx).toArray }=hp3 at hns₁ hsb₁ ⊢;have k23:∀b o,s2.heap.get? b=some o->hp3.get? b=some o:=λb o e=>hH3 ▸ jB _ e
 have I3:Inv X xB σ (upd H2 s2.heap.objs.size (.lst [])) { s2 with heap:=hp3,toks:=s2.toks }:=by
  refine I2.laid (o := .lst []) (t':=s2.toks) k23 (jD _) ?_;exact⟨jX _,[],0,.nil,hH3 ▸ jK _ rfl⟩
 have szC:hp3.objs.size=s2.heap.objs.size + 1:=by rw[<- hH3,j6]
 have hfp:∀b∈fp,FpOk X xB (upd H2 s2.heap.objs.size (.lst [])) b/\∃o,hp3.get? b=some o:=λb hb=>by
  obtain⟨o,e,_⟩:=T.obj _ _ xJ b hb;obtain⟨q0,q1⟩:=f2 b hb;exact⟨⟨by rw[Jb (jQ (jG e))];exact q0,q1⟩,o,k23 b o e⟩
 have k34:∀b o,hp3.get? b=some o->h₁.get? b=some o:=λb o e=>hsb₁.extBut b o (jQ (jG e)) (jB _ e);have I4:=vZ (tk:=s2.toks + ([]:List (Str×xY)).length) O I3 hfp hns₁ k34;have st4:tn 0 h₁:=T.keep _ _ _ xJ λb hb o e=>k34 b o (k23 b o e);have fr4:∀b∈fp,(upd H2 s2.heap.objs.size (.lst [])) b=none:=λb hb=>(hfp b hb).1.1
 -- what stays true of the iterator's objects in the block
 have stat:∀{H':Hp},(∀b∈fp,H' b=none)->∀b∈fp,FpOk (Qq X x M scope cl hp3.objs.size xB fp { s2 with heap:=hp3,toks:=s2.toks } (upd H2 s2.heap.objs.size (.lst []))) [] H' b:=λhn b hb=>by
  obtain⟨⟨_,q1,q2,q3,q4,q5⟩,o,e⟩:=hfp b hb;refine⟨hn b hb,jQ (jG e),λz=>?_,.inl hb,λy c ec=>q4 y c (O.sub y c ec),λp hp=>?_⟩
  . rcases jL.mp (I3.stkSub b z) with q | q
    . exact q1 q
    . exact q2 q
  . have hp':p∈X.pn ++ xB:=(jO.mp hp).elim id λz=>absurd z 'j';exact q5 p hp'
 have loop:codeAny (model X.prog X.w) X.A (.compLoop (.ListComp elt [⟨.Name x px,iter,ifs,0⟩] scope pos) 0 (.ref it) (.ref s2.heap.objs.size) (compEnvC scope cl hp3.objs.size X.env)) (RR (.ref s2.heap.objs.size) hp3.objs.size)
  { s2 with heap:=h₁,toks:=s2.toks + ([]:List (Str×xY)).length }:=by
  refine codeAny_compLoop_tests (λn s'=>∃i v H',Inv (Qq X x M scope cl hp3.objs.size xB fp { s2 with heap:=hp3,toks:=s2.toks } (upd H2 s2.heap.objs.size (.lst []))) [] (v :: cap ix σ) H' s'/\tn i s'.heap/\(∀b∈fp,H' b=none)/\W i n H') ?_ m0 ⟨0,none,_,I4,st4,fr4,w0⟩;rintro n s5 ⟨i,v5,H5,I5,st5,fr5,w5⟩;rcases turn i n H5 w5 with ⟨stop,qn⟩ | ⟨go,step⟩
  . refine thn (T.done (Qq X x M scope cl hp3.objs.size xB fp { s2 with heap:=hp3,toks:=s2.toks } (upd H2 s2.heap.objs.size (.lst []))) rfl rfl rfl hc i [] s5 _ H5 _ I5 (stat fr5) st5 stop) λr s6 ⟨hr,I6⟩=>?_;subst hr;obtain⟨m6,hn6,_⟩:=id I6.loc
    have hch:∀b∈fp,(b∈X.ex\/X.s₀.heap.objs.size<=b)/\b≠X.env.locals/\(∀x c,X.env.cells.lookup x=some c->c≠b)/\∀p∈X.pn ++ xB,p.1≠b:=λb hb=>by
     obtain⟨⟨_,q1,q2,q3,q4,q5⟩,_⟩:=hfp b hb;exact⟨q3,q1,q4,q5⟩
    have IX:Inv X xB σ H5 s6:=I3.call' (s':=s6) (ch:=fp) I6.os I6.base I6.hok I6.bare hch;refine hR _ _ _ _ m6 IX qn hn6 I6.free (jn I3.lt) I3.sz (λy c e z=>?_) λp hp z=>?_
    . obtain⟨v,q⟩:=I3.cell y c e;exact absurd q.lt (by rw[z];exact j7 _)
    . exact absurd (jG (I3.pin p hp).1) (by rw[z];exact j7 _)
  . refine thn (T.item (Qq X x M scope cl hp3.objs.size xB fp { s2 with heap:=hp3,toks:=s2.toks } (upd H2 s2.heap.objs.size (.lst []))) rfl rfl rfl hc i [] s5 _ H5 _ I5 (stat fr5) st5 go) λr s6 ⟨u,hr,h6⟩=>?_;subst hr;show wpAny _ _ (letOwnedTupleGo (.Name x px) (.ref it) u >>= λ_=>assign (.Name x px) (compEnvC scope cl hp3.objs.size X.env) u) _ _ _;refine q8 (thn h6 λ_ s7 fv=>?_);obtain⟨xv,H7,I7,r7,y7,st7,fr7⟩:=fv;have I7':=I7.pinned (stat fr7) (T.obj _ _ st7);have PGx:PG (Qq X x M scope cl hp3.objs.size xB fp { s2 with heap:=hp3,toks:=s2.toks } (upd H2 s2.heap.objs.size (.lst []))) (.Name x px) (Jm 0):=JD nd rfl (.inl (lookup_relabel_local O.loc)) (.inr (lookup_relabel_local O.loc))
    have keepT:∀{σ8:St}{H8:Hp}{s8:xZ},Inv (Qq X x M scope cl hp3.objs.size xB fp { s2 with heap:=hp3,toks:=s2.toks } (upd H2 s2.heap.objs.size (.lst []))) ([] ++ Yo fp s7.heap) σ8 H8 s8->tn (i + 1) s8.heap/\∀b∈fp,H8 b=none:=λI8=>by
     refine⟨T.keep _ _ _ st7 λb hb o e=>(I8.pin (b,o) (jN _ (jN _ (aw hb e)))).1,λb hb=>?_⟩;obtain⟨o,e,d⟩:=T.obj _ _ st7 b hb;exact(I8.pin (b,o) (jN _ (jN _ (aw hb e)))).2.1
    refine qQ (PGx _ s7 _ H7 xv u (λσ8 H8=>σ8=some xv :: cap ix σ/\H8=H7) I7' r7 ⟨rfl,rfl⟩) (λ_ s8 fv=>?_) λ_ _ z=>z.elim;obtain⟨σ8,H8,I8,e8,e8'⟩:=fv;subst e8 e8';refine qQ (ht _ _ _ _ _ _ s8 _ _ _ I8 (step xv H8 y7)) (λok s9 ⟨H9,I9,q9⟩=>?_) λ_ _ z=>z.elim
    cases ok with
    | false =>
     rw[qg jR]
     have q9':∃m',m' < n/\W (i + 1) m' H9:=by
      have:=q9
      rwa [qg jR]at this
     obtain⟨m',hm,w9⟩:=q9';obtain⟨k1,k2⟩:=keepT I9;exact⟨m',hm,i + 1,_,H9,I9.unpinned,k1,k2,w9⟩
    | true =>
     rw[qh rfl]at q9 ⊢;refine qQ (he _ _ _ _ _ _ s9 _ H9 _ I9 q9) (λyv s10 fv=>?_) λ_ _ z=>z.elim;obtain⟨y,H10,I10,r10,ys,eD,hz,m',hm,w10⟩:=fv;refine qQ (Zf (X:=Qq X x M scope cl hp3.objs.size xB fp { s2 with heap:=hp3,toks:=s2.toks } (upd H2 s2.heap.objs.size (.lst []))) _ s10 _ H10 (.ref s2.heap.objs.size) [y] (.ref s2.heap.objs.size) [yv] (λ_ H11=>H11=upd H10 s2.heap.objs.size (.lst (ys ++ [y]))) I10 rfl (.cons r10 .nil) ⟨_,ys,y,rfl,rfl,eD,hz,rfl⟩) (λ_ s11 fv=>?_) λ_ _ z=>z.elim;obtain⟨_,H11,I11,_,e11⟩:=fv;subst e11;obtain⟨k1,k2⟩:=keepT I11;exact⟨m',hm,i + 1,_,_,I11.unpinned,k1,k2,w10⟩
 exact codeAny_compStart_list loop (T.self X.A 0 _ _ _ st4 loop)
def QQ
 (O:CompOk X x M ix scope cl) (hc:X.calm=true) (nd:(x :: M).Nodup) (hi:PI X (.Name x px) iter wi)
 (ht:∀C xB fp s H,PTs (Qq X x M scope cl C xB fp s H) ifs tt) (he:∀C xB fp s H,PE (Qq X x M scope cl C xB fp s H) elt te) (hs:∀x,foldedSetIterable iter X.env x=pure x:=by intro _;rfl) :
 PE X (.ListComp elt [⟨.Name x px,iter,ifs,0⟩] scope pos) (QF ix wi tt te):=by
 intro xB s σ H Q I h;rw[eval_ListComp];refine wpAny_comprehension_free (use:=none) rfl hs O.clos O.kind O.names (thn (hi xB s σ H _ I h) λxv s₁ h₁=>thn h₁ λitv s₂ fv=>?_);obtain⟨it,fp,tn,J,H2,e,I2,T,xJ,f2,hW⟩:=fv;subst e;refine m7 (RR:=λacc C=>compPost (model X.prog X.w) X.A X.xe none (EP X xB σ Q) acc C) (Q:=Q) O hc nd ht he I2 T xJ f2 hW ?_;intro C D H' s' m IX q hn hC hCL hCz hcc hpc;refine⟨m,hn,λh' hs'=>⟨.ref D,H',?_,rfl,q⟩⟩;exact IX.turned (h':=h') (t':=s'.toks) (λb o hb e=>hs'.extBut b o hb e) hC (Ne.symm hCL).symm (.inr hCz) hcc hpc
end
section
variable {X:Cx}
def m8{x y:Str}{px py:Pos}{ifs:List Expr}{scope:Scope}{cl:List (Str×J0)}{pos spos:Pos}{M:xy}{ix:xz}{wi:TI}{tt:TT}{te:TE}{j:Nat}
 (hN:X.N.Nodup) (hj:X.N[j]? = some y) (hy:X.env.scope.names.lookup y=some .local)
 (O:CompOk X x M ix scope cl) (hc:X.calm=true) (nd:(x :: M).Nodup) (hi:PI X (.Name x px) iter wi)
 (ht:∀C xB fp s H,PTs (Qq X x M scope cl C xB fp s H) ifs tt) (he:∀C xB fp s H,PE (Qq X x M scope cl C xB fp s H) elt te)
 (hsw:swapsWith (.ListComp elt [⟨.Name x px,iter,ifs,0⟩] scope pos) (some (.Name y py)) spos.line X.env=pure true:=by rfl) (hs:∀x,foldedSetIterable iter X.env x=pure x:=by intro _;rfl) :
 PS X (.Assign [.Name y py] (.ListComp elt [⟨.Name x px,iter,ifs,0⟩] scope pos) spos) (X0 (QF ix wi tt te) (Jm j)):=by
 intro xB s σ H D I h;rw[exec_Assign_Name_used _ _ _ _ hsw];refine q8 (wpAny_standAt (q8 ?_));show wpAny _ X.A (do let _ <- comprehension (.ListComp elt [⟨.Name x px,iter,ifs,0⟩] scope pos) scope X.env _ (newList []) false (eval iter X.env) (some (assign (.Name y py) X.env))) _ _ s
 refine q8 (qQ (wpAny_comprehension_free (use:=some (assign (.Name y py) X.env)) (Q:=λ_ s'=>SP X xB D .next s') rfl hs O.clos O.kind O.names
  (thn (hi xB s σ H _ I h) λxv s₁ h₁=>thn h₁ λitv s₂ ⟨it,fp,tn,J,H2,e,I2,T,xJ,f2,hW⟩=>?_)) (λ_ s' hq=>qf (qf hq)) λ_ _ e=>e)
 subst e;refine m7 (RR:=λacc C=>compPost (model X.prog X.w) X.A X.xe (some (assign (.Name y py) X.env)) (λ_ s'=>SP X xB D .next s') acc C) (Q:=λv H'=>D.nx (σ.set j (some v)) H') O hc nd ht he I2 T xJ f2 hW ?_;intro C Da H' s' m IX q hn hC hCL hCz hcc hpc;show wpAny _ X.A (assign (.Name y py) X.env (.ref Da)) _ _ _;refine wpAny_assign_Name (iq (v := .ref Da) IX hN hj (.inl hy) rfl (λs'' I'' ⟨a,sb,ha⟩=>?_) (.inr hy))
 have hCa:C≠a:=by
  rcases ha with z | z
  . rw[z];exact hCL
  . exact λw=>hcc _ _ z w.symm
 refine⟨m,hn.at' λo e=>sb.extBut C o hCa e,λh' hs'=>⟨_,H',?_,q⟩⟩;exact I''.turned (h':=h') (t':=s''.toks) (λb o hb e=>hs'.extBut b o hb e) hC hCL (.inr hCz) hcc hpc
def AllL{α:Type}(P:α->Prop):List α->Prop
 | []=>True
 | a :: r=>P a/\AllL P r
theorem AllL.mem{α:Type}{P:α->Prop}:∀{l:List α},AllL P l->∀a∈l,P a
 | _ :: _,h,_,.head _=>h.1
 | _ :: _,h,a,.tail _ m=>AllL.mem h.2 a m
def capOk(X:Cx)(scope:Scope)(cl:List (Str×J0)):xy->xz->Prop
 | y :: M,j :: ix=>(X.N[j]? = some y/\X.env.scope.names.lookup y=some .cell/\(relabel scope X.env).names.lookup y=some .cell/\(cl.lookup y).isSome=true)/\capOk X scope cl M ix
 | [],[]=>True
 | _,_=>False
theorem capOk.len:∀{M:xy}{ix:xz},capOk X scope cl M ix->ix.length=M.length
 | [],[],_=>rfl
 | _ :: _,_ :: _,h=>qP Nat.succ (capOk.len h.2)
 | [],_ :: _,h=>h.elim
 | _ :: _,[],h=>h.elim
theorem capOk.at:∀{M:xy}{ix:xz},capOk X scope cl M ix->∀(i:Nat) (y:Str) (j:Nat),M[i]? = some y->ix[i]? = some j ->
 (X.N[j]? = some y/\X.env.scope.names.lookup y=some .cell/\(relabel scope X.env).names.lookup y=some .cell/\(cl.lookup y).isSome=true)
 | [],[],_,_,_,_,e,_=>by simp at e
 | _ :: _,_ :: _,h,0,_,_,e1,e2=>by simp at e1 e2;subst e1 e2;exact h.1
 | _ :: _,_ :: _,h,i + 1,y,j,e1,e2=>capOk.at h.2 i y j (by simpa using e1) (by simpa using e2)
 | [],_ :: _,h,_,_,_,_,_=>h.elim
 | _ :: _,[],h,_,_,_,_,_=>h.elim
def w4(names:List (Str×NameKind))(cl:List (Str×J0)):Bool:=names.all λp => !(p.2 == .cell || p.2 == .free) || (cl.lookup p.1).isSome
theorem CompOk.of(clos:closureFor scope X.env=pure cl)(kind:scope.kind = .function)
 (names:∀y∈scope.names,y.2 = .local->scope.names.lookup y.1=some .local) (nocell:∀y∈scope.names,y.2 ≠ .cell) (loc:scope.names.lookup x=some .local)
 (sub:AllL (λp=>X.env.cells.lookup p.1=some p.2) cl) (has:w4 (relabel scope X.env).names cl=true) (cap:capOk X scope cl M ix):CompOk X x M ix scope cl where
 clos:=clos
 kind:=kind
 names:=names
 nocell:=nocell
 loc:=loc
 sub:=λy c h=>sub.mem _ (PySem.mem_of_lookup h)
 has:=λy h=>by
  have h':(relabel scope X.env).names.lookup y=some .cell\/(relabel scope X.env).names.lookup y=some .free:=h
  have q:∀k,(k=NameKind.cell\/k=NameKind.free)->(relabel scope X.env).names.lookup y=some k->∃c,cl.lookup y=some c:=λk hk e=>by
   have:=List.all_eq_true.mp has _ (PySem.mem_of_lookup e);have hk':(!(k == NameKind.cell || k == NameKind.free))=false:=by rcases hk with rfl | rfl<;>rfl
   simp only[hk',Bool.false_or]at this;exact jy.mp this
  rcases h' with e | e
  . exact q _ (.inl rfl) e
  . exact q _ (.inr rfl) e
 len:=cap.len
 cap:=λi y j e1 e2=>by
  obtain⟨h1,h2,h3,h4⟩:=cap.at i y j e1 e2;obtain⟨c,hc⟩:=jy.mp h4;exact⟨h1,.inr (.inl h2),c,hc,.inl h3,by rw[show X.env.kindOf y=X.env.scope.names.lookup y from rfl,h2];decide⟩
end
inductive D where
 | non | bl (b:Bool) | int (i:Int) | str (x:Str) | tup (ds:List D) | lst (ds:List D)
mutual
def IsD(K:xt)(H:Hp):D->V->Prop
 | .non,x=>x = .non
 | .bl b,x=>x = .bl b
 | .int i,x=>x = .int i
 | .str z,x=>x = .str z
 | .tup ds,x=>∃a xs,x = .ref a/\SqT K H a xs/\IsDs K H ds xs
 | .lst ds,x=>∃a xs,x = .ref a/\SqL K H a xs/\IsDs K H ds xs
def IsDs(K:xt)(H:Hp):List D->List V->Prop
 | [],xs=>xs=[]
 | d :: ds,xs=>∃x r,xs=x :: r/\IsD K H d x/\IsDs K H ds r
end
mutual
def D.deep:D->Nat
 | .tup ds=>D.deeps ds + 1
 | .lst ds=>D.deeps ds + 1
 | _=>0
def D.deeps:List D->Nat
 | []=>0
 | d :: ds=>max d.deep (D.deeps ds)
end
def Same.tupq{K:xt}{H H':Hp}{a:J0}{xs:List V}(e:Same H H')(h:SqT K H a xs):SqT K H' a xs:=by
 rcases h with (h | ⟨o,h⟩) | h
 . exact .inl (.inl (e _ _ h))
 . exact .inl (.inr ⟨o,e _ _ h⟩)
 . exact .inr h
mutual
theorem IsD.same{K:xt}{H H':Hp}(e:Same H H'):∀{d:D}{x:V},IsD K H d x->IsD K H' d x
 | .non,_,h=>h
 | .bl _,_,h=>h
 | .int _,_,h=>h
 | .str _,_,h=>h
 | .tup _,_,⟨a,xs,h1,h2,h3⟩=>⟨a,xs,h1,e.tupq h2,IsDs.same e h3⟩
 | .lst _,_,⟨a,xs,h1,h2,h3⟩=>⟨a,xs,h1,e.seq h2,IsDs.same e h3⟩
theorem IsDs.same{K:xt}{H H':Hp}(e:Same H H'):∀{ds:List D}{xs:List V},IsDs K H ds xs->IsDs K H' ds xs
 | [],_,h=>h
 | _ :: _,_,⟨x,r,h1,h2,h3⟩=>⟨x,r,h1,IsD.same e h2,IsDs.same e h3⟩
end
theorem IsDs.length{K:xt}{H:Hp}:∀{ds:List D}{xs:List V},IsDs K H ds xs->xs.length=ds.length
 | [],_,h=>by
  have h':_=[]:=h;rw[h'];rfl
 | _ :: _,_,⟨x,r,h1,_,h3⟩=>by rw[h1];exact qP Nat.succ (IsDs.length h3)
theorem IsDs.get{K:xt}{H:Hp}:∀{ds:List D}{xs:List V}{i:Nat}{d:D},IsDs K H ds xs->ds[i]? = some d->∃x,xs[i]? = some x/\IsD K H d x
 | [],_,_,_,_,e=>by simp at e
 | _ :: _,_,0,_,⟨x,r,h1,h2,_⟩,e=>by
  simp at e;subst e h1;exact⟨x,rfl,h2⟩
 | _ :: _,_,i + 1,_,⟨x,r,h1,_,h3⟩,e=>by
  obtain⟨y,e1,e2⟩:=IsDs.get (i:=i) h3 (by simpa using e);subst h1;exact⟨y,by simpa using e1,e2⟩
theorem IsDs.append{K:xt}{H:Hp}:∀{ds es:List D}{xs ys:List V},IsDs K H ds xs->IsDs K H es ys->IsDs K H (ds ++ es) (xs ++ ys)
 | [],_,_,_,h,h'=>by
  have:_=[]:=h;subst this;exact h'
 | _ :: _,_,_,_,⟨x,r,h1,h2,h3⟩,h'=>by subst h1;exact⟨x,_,rfl,h2,IsDs.append h3 h'⟩
section
variable {X:Cx}{xB:xr}{σ:St}{H:Hp}{s:xZ}
def aK(n:Nat):(List.range n).all (λ_=>true)=true:=by simp
def aL(A:J3):A.in1.units=A.units + 1:=rfl
mutual
theorem w8(I:Inv X xB σ H s):∀(d:D) {A:J3}{x y:V}{u v:xY},IsD X.K H d x->IsD X.K H d y->RelV x u->RelV y v->A.units + d.deep < cLine->SeqAt.EqAt A s u v true
 | .non,_,_,_,_,_,hx,hy,rx,ry,_=>by
  have hx':_=V.non:=hx;have hy':_=V.non:=hy;subst hx' hy';cases rx;cases ry;exact SeqAt.EqAt.same _
 | .bl b,_,_,_,_,_,hx,hy,rx,ry,_=>by
  have hx':_=V.bl b:=hx;have hy':_=V.bl b:=hy;subst hx' hy';cases rx;cases ry;exact SeqAt.EqAt.same _
 | .int i,A,_,_,_,_,hx,hy,rx,ry,_=>by
  have hx':_=V.int i:=hx;have hy':_=V.int i:=hy;subst hx' hy';obtain⟨t,rfl⟩:=rx;obtain⟨t',rfl⟩:=ry;have:=SeqAt.EqAt.int_int (A:=A) (s:=s) i t i t'
  rwa [beq_self_eq_true]at this
 | .str z,A,_,_,_,_,hx,hy,rx,ry,_=>by
  have hx':_=V.str z:=hx;have hy':_=V.str z:=hy;subst hx' hy';obtain⟨t,rfl⟩:=rx;obtain⟨t',rfl⟩:=ry;have:=SeqAt.EqAt.str_str (A:=A) (s:=s) z t z t'
  rwa [beq_self_eq_true]at this
 | .tup ds,A,_,_,_,_,⟨a,xs,hx,qx,dx⟩,⟨b,ys,hy,qy,dy⟩,rx,ry,hu=>by
  subst hx hy
  cases rx;cases ry
  by_cases e:a=b
  . subst e;exact SeqAt.EqAt.same _
  . have hu':A.units + (D.deeps ds + 1) < cLine:=hu;obtain⟨its,r1,t1,_⟩:=I.tuple qx;obtain⟨jts,r2,t2,_⟩:=I.tuple qy
    have:=SeqAt.RcAt.tuples (A:=A) (e:=λ_=>true) t1 t2 'd' λj h1 h2=>by
     have q:=Yv I ds (A:=A.in1) dx dy r1 r2 (by rw[aL];omega) j (by simpa using h1) (by simpa using h2);simpa using q
    have l1:=r1.length;have l2:=r2.length;have l3:=dx.length;have l4:=dy.length;have sz:(its.toArray.size == jts.toArray.size)=true:=by rw[jH,jH,beq_iff_eq];omega
    rw[aK,sz]at this;exact SeqAt.EqAt.of_refs e this
 | .lst ds,A,_,_,_,_,⟨a,xs,hx,qx,dx⟩,⟨b,ys,hy,qy,dy⟩,rx,ry,hu=>by
  subst hx hy
  cases rx;cases ry
  by_cases e:a=b
  . subst e;exact SeqAt.EqAt.same _
  . have hu':A.units + (D.deeps ds + 1) < cLine:=hu;obtain⟨its,r1,t1,_⟩:=I.list qx;obtain⟨jts,r2,t2,_⟩:=I.list qy;have l1:=r1.length;have l2:=r2.length;have l3:=dx.length;have l4:=dy.length
    have:=SeqAt.RcAt.lists (A:=A) (e:=λ_=>true) t1.isList t2.isList (by rw[jH,jH];omega) 'd' λj h1 h2=>by
     have q:=Yv I ds (A:=A.in1) dx dy r1 r2 (by rw[aL];omega) j (by simpa using h1) (by simpa using h2);simpa using q
    rw[aK]at this;exact SeqAt.EqAt.of_refs e this
theorem Yv(I:Inv X xB σ H s):∀(ds:List D) {A:J3}{xs ys:List V}{us vs:xx},IsDs X.K H ds xs->IsDs X.K H ds ys->Vals xs us->Vals ys vs->A.units + D.deeps ds < cLine ->
 ∀(j:Nat) (h1:j < us.length) (h2:j < vs.length),SeqAt.EqAt A s us[j] vs[j] true
 | [],_,_,_,_,_,hx,_,rx,_,_=>λj h1 _=>by
  have hx':_=([]:List V):=hx;subst hx';have:=rx.length;simp at this;omega
 | d :: ds,A,_,_,_,_,⟨x,xs,ex,hx,hxs⟩,⟨y,ys,ey,hy,hys⟩,rx,ry,hu=>by
  subst ex ey;have hu':A.units + max d.deep (D.deeps ds) < cLine:=hu
  cases rx with
  | cons r1 t1 =>
   cases ry with
   | cons r2 t2 =>
    intro j h1 h2
    cases j with
    | zero=>exact w8 I d hx hy r1 r2 'd'
    | succ j=>exact Yv I ds hxs hys t1 t2 'd' j (by simpa using h1) (by simpa using h2)
end
def m9(X:Cx)(b:Bool):R2:=λx y H Q=>∃d,IsD X.K H d x/\IsD X.K H d y/\(∃a,x = .ref a)/\X.A.units + d.deep < cLine/\Q (.bl b) H
def ma(I:Inv X xB σ H s)(hx:IsD X.K H d (.ref a))(hy:IsD X.K H d y)(ry:RelV y v)(hu:A.units + d.deep < cLine) :
 SeqAt.RcAt A s (.ref a) v true/\SeqAt.RcNeAt A s (.ref a) v false:=by
 cases d with
 | non=>exact absurd (show V.ref a=V.non from hx) (λz=>nomatch z)
 | bl b=>exact absurd (show V.ref a=V.bl b from hx) (λz=>nomatch z)
 | int b=>exact absurd (show V.ref a=V.int b from hx) (λz=>nomatch z)
 | str b=>exact absurd (show V.ref a=V.str b from hx) (λz=>nomatch z)
 | tup ds =>
  obtain⟨a',xs,ex,qx,dx⟩:=hx
  cases ex
  obtain⟨b,ys,ey,qy,dy⟩:=hy;subst ey;cases ry;have hu':A.units + (D.deeps ds + 1) < cLine:=hu;obtain⟨its,r1,t1,_⟩:=I.tuple qx;obtain⟨jts,r2,t2,_⟩:=I.tuple qy;have l1:=r1.length;have l2:=r2.length;have l3:=dx.length;have l4:=dy.length;have sz:(its.toArray.size == jts.toArray.size)=true:=by rw[jH,jH,beq_iff_eq];omega
  have he:∀j (h1:j < its.toArray.size) (h2:j < jts.toArray.size),SeqAt.EqAt A.in1 s its.toArray[j] jts.toArray[j] true:=λj h1 h2=>by
   have q:=Yv I ds (A:=A.in1) dx dy r1 r2 (by rw[aL];omega) j (by simpa using h1) (by simpa using h2);simpa using q
  have q1:=SeqAt.RcAt.tuples (A:=A) (e:=λ_=>true) t1 t2 'd' he;have q2:=SeqAt.RcNeAt.tuples (A:=A) (e:=λ_=>true) t1 t2 'd' he;rw[aK,sz]at q1 q2;exact⟨q1,q2⟩
 | lst ds =>
  obtain⟨a',xs,ex,qx,dx⟩:=hx
  cases ex
  obtain⟨b,ys,ey,qy,dy⟩:=hy;subst ey;cases ry;have hu':A.units + (D.deeps ds + 1) < cLine:=hu;obtain⟨its,r1,t1,_⟩:=I.list qx;obtain⟨jts,r2,t2,_⟩:=I.list qy;have l1:=r1.length;have l2:=r2.length;have l3:=dx.length;have l4:=dy.length;have sz:its.toArray.size=jts.toArray.size:=by rw[jH,jH];omega
  have he:∀j (h1:j < its.toArray.size) (h2:j < jts.toArray.size),SeqAt.EqAt A.in1 s its.toArray[j] jts.toArray[j] true:=λj h1 h2=>by
   have q:=Yv I ds (A:=A.in1) dx dy r1 r2 (by rw[aL];omega) j (by simpa using h1) (by simpa using h2);simpa using q
  have q1:=SeqAt.RcAt.lists (A:=A) (e:=λ_=>true) t1.isList t2.isList sz 'd' he;have q2:=SeqAt.RcNeAt.lists (A:=A) (e:=λ_=>true) t1.isList t2.isList sz 'd' he;rw[aK]at q1 q2;exact⟨q1,q2⟩
def wb:OpR X (compareOp .Eq) (m9 X true):=by
 intro xB s σ H x y v u Q I rx ry h;obtain⟨d,hx,hy,⟨a,rfl⟩,hu,q⟩:=h
 cases rx
 exact(ma I hx hy ry hu).1 _ _ _ _ ⟨.bl true,H,I,rfl,q⟩
def wc:OpR X (compareOp .NotEq) (m9 X false):=by
 intro xB s σ H x y v u Q I rx ry h;obtain⟨d,hx,hy,⟨a,rfl⟩,hu,q⟩:=h
 cases rx
 exact(ma I hx hy ry hu).2 _ _ _ _ ⟨.bl false,H,I,rfl,q⟩
end
mutual
def D.noL:D->Bool
 | .lst _=>false
 | .tup ds=>D.noLs ds
 | _=>true
def D.noLs:List D->Bool
 | []=>true
 | d :: ds=>d.noL && D.noLs ds
end
def SqT.updL{K:xt}{H:Hp}{a b:J0}{xs ys zs:List V}(e:H b=some (.lst ys))(h:SqT K H a xs):SqT K (upd H b (.lst zs)) a xs:=by
 rcases h with (h | ⟨o,h⟩) | h
 . exact .inl (.inl (by rw[Jb (QN h e (λz=>nomatch z))];exact h))
 . exact .inl (.inr ⟨o,by rw[Jb (QN h e (λz=>nomatch z))];exact h⟩)
 . exact .inr h
mutual
theorem IsD.updL{K:xt}{H:Hp}{b:J0}{ys zs:List V}(e:H b=some (.lst ys)):∀{d:D}{x:V},d.noL=true->IsD K H d x->IsD K (upd H b (.lst zs)) d x
 | .non,_,_,h=>h
 | .bl _,_,_,h=>h
 | .int _,_,_,h=>h
 | .str _,_,_,h=>h
 | .tup _,_,n,⟨a,xs,h1,h2,h3⟩=>⟨a,xs,h1,h2.updL e,IsDs.updL e n h3⟩
 | .lst _,_,n,_=>nomatch n
theorem IsDs.updL{K:xt}{H:Hp}{b:J0}{ys zs:List V}(e:H b=some (.lst ys)):∀{ds:List D}{xs:List V},D.noLs ds=true->IsDs K H ds xs->IsDs K (upd H b (.lst zs)) ds xs
 | [],_,_,h=>h
 | d :: ds,_,n,⟨x,r,h1,h2,h3⟩=>by
  have n':(d.noL && D.noLs ds)=true:=n;rw[kX]at n';exact⟨x,r,h1,IsD.updL e n'.1 h2,IsDs.updL e n'.2 h3⟩
end
theorem aM:∀{ds:List D},(∀d∈ds,d.noL=true)->D.noLs ds=true
 | [],_=>rfl
 | d :: ds,h=>by
  show(d.noL && D.noLs ds)=true;rw[h d (jb ..),aM λe he=>h e (jS _ he)];rfl
theorem me:∀{ds:List D},D.noLs ds=true->∀d∈ds,d.noL=true
 | d :: ds,h,e,he=>by
  have h':(d.noL && D.noLs ds)=true:=h;rw[kX]at h';rcases jL.mp he with rfl | he
  . exact h'.1
  . exact me h'.2 e he
def Ja(h:H p=none)(o:HO):Same H (upd H p o):=λb u q=>by rw[Jb (Jv q h)];exact q
def XR(h:H p=none)(e:Same H H'):Same H (upd H' p o):=λb u q=>by rw[Jb (Jv q h)];exact e b u q
def Qg(ix:xz)(te:TE)(σ:St)(Q:VK):It->Hp->Prop:=λJ H1=>∀D,H1 D=none->∃W:Nat->Nat->Hp->Prop,(∃m,W 0 m (upd H1 D (.lst []))) /\
 ∀i m H,W i m H->(J.stop i H/\Q (.ref D) H)\/(J.go i H/\∀x H',J.yld i H x H'->X4 (some x :: cap ix σ) H' λb H2 =>
  if b=true then te (some x :: cap ix σ) H2 λy H3=>∃ys,H3 D=some (.lst ys)/\ys.length < sizeLine/\∃m',m' < m/\W (i + 1) m' (upd H3 D (.lst (ys ++ [y]))) else ∃m',m' < m/\W (i + 1) m' H2)
def nxt{D:Ends}(h:D.nx σ H):iy D σ H:=h
def eJ{ix:xz}{wi:TI}{te:TE}{g:TG}{u:TS}{D:Ends}(h:wi σ H (Qg ix te σ λx H1=>g x σ H1 (u D))):XI (X0 (QF ix wi X4 te) g) u D σ H:=h
def we(h:wi σ H (Qg ix te σ Q)):QF ix wi X4 te σ H Q:=h
def eK{K:xt}{J:It}{ix:xz}{te:TE}{σ:St}{H:Hp}{Q:VK}(n:Nat)(xs:Nat->V)(fs:List D)(hn:fs.length=n)(hz:n<=sizeLine)(hf:D.noLs fs=true)
 (hstop:∀H',Same H H'->J.stop n H') (hgo:∀i H',i < n->Same H H'->J.go i H'/\∀x xF,J.yld i H' x xF->x=xs i/\xF=H')
 (step:∀(i:Nat) (d:D) (H':Hp) (R:VK),i < n->fs[i]? = some d->Same H H'->(∀y xF,Same H' xF->IsD K xF d y->R y xF)->te (some (xs i) :: cap ix σ) H' R)
 (fin:∀p H' ys,Same H H'->H' p=some (.lst ys)->IsDs K H' fs ys->Q (.ref p) H') :
 Qg ix te σ Q J H:=by
 intro Da hD;refine⟨λi m H'=>m=n - i/\i<=n/\Same H H'/\∃ys,H' Da=some (.lst ys)/\IsDs K H' (fs.take i) ys,⟨n,by simp,jX _,Ja hD _,[],J8,rfl⟩,?_⟩;rintro i m H' ⟨rfl,hi,sm,ys,eD,dys⟩
 by_cases hlt:i < n
 . obtain⟨g,y⟩:=hgo i H' hlt sm;refine .inr ⟨g,λx xF hy=>?_⟩;obtain⟨rfl,rfl⟩:=y x xF hy;show te (some (xs i) :: cap ix σ) xF _;have hi':i < fs.length:=by omega
   refine step i fs[i] xF _ hlt (jC hi') sm λy H3 sm3 dy=>?_;have e3:H3 Da=some (.lst ys):=sm3 _ _ eD;have ly:=dys.length;rw[jT]at ly;refine⟨ys,e3,by omega,n - (i + 1),by omega,rfl,hlt,XR hD (sm.trans sm3),ys ++ [y],J8,?_⟩;have nt:D.noLs (fs.take (i + 1))=true:=aM λd hd=>me hf d (jm hd);refine IsDs.updL e3 nt ?_;rw[jt hi'];exact(dys.same sm3).append ⟨y,[],rfl,dy,rfl⟩
 . have e:i=n:=by omega
   subst e;have:fs.take i=fs:=ji 'd';rw[this]at dys;exact .inl ⟨hstop H' sm,fin Da H' ys sm eD dys⟩
def eL{K:xt}{a:J0}{xs:List V}{ix:xz}{te:TE}{σ:St}{H:Hp}{Q:VK}(fs:List D)(hS:SqL K H a xs)(hn:fs.length=xs.length)(hz:xs.length<=sizeLine)(hf:D.noLs fs=true)
 (step:∀(i:Nat) (x:V) (d:D) (H':Hp) (R:VK),xs[i]? = some x->fs[i]? = some d->Same H H'->(∀y xF,Same H' xF->IsD K xF d y->R y xF)->te (some x :: cap ix σ) H' R)
 (fin:∀p H' ys,Same H H'->H' p=some (.lst ys)->IsDs K H' fs ys->Q (.ref p) H') :
 Qg ix te σ Q (Itl K a) H:=by
 refine eK (K:=K) xs.length (λi=>xs.getD i .non) fs hn hz hf (λH' sm=>⟨xs,sm.seq hS,jD _⟩) (λi H' hi sm=>⟨⟨xs,xs[i],sm.seq hS,jC hi⟩,λx xF hy=>?_⟩) (λi d H' R hi hd sm hR=>?_) fin
 . obtain⟨e,y⟩:=hy;refine⟨?_,e⟩;have:=y xs (sm.seq hS);rw[jE,this];rfl
 . have e:xs[i]? = some (xs.getD i .non):=by rw[jE,jC hi];rfl
   exact step i _ d H' R e hd sm hR
def mf{K:xt}{a:J0}{xs:List V}{ix:xz}{te:TE}{σ:St}{H:Hp}{Q:VK}(fs:List D)(hS:SqL K H a xs)(hn:fs.length=xs.length)(hz:xs.length<=sizeLine)(hf:D.noLs fs=true)
 (step:∀(i:Nat) (x:V) (d:D) (H':Hp) (R:VK),xs[i]? = some x->fs[i]? = some d->Same H H'->(∀y xF,Same H' xF->IsD K xF d y->R y xF)->te (some x :: cap ix σ) H' R)
 (fin:∀p H',Same H H'->IsD K H' (.lst fs) (.ref p)->Q (.ref p) H') :
 Qg ix te σ Q (Itl K a) H:=eL fs hS hn hz hf step λp H' ys sm hd hy=>fin p H' sm ⟨p,ys,rfl,.of hd,hy⟩
def wf{K:xt}{lo:Int}{n:Nat}{ix:xz}{te:TE}{σ:St}{H:Hp}{Q:VK}(fs:List D)(hn:fs.length=n)(hz:n<=sizeLine)(hf:D.noLs fs=true)
 (step:∀(i:Nat) (d:D) (H':Hp) (R:VK),i < n->fs[i]? = some d->Same H H'->(∀y xF,Same H' xF->IsD K xF d y->R y xF)->te (some (.int (lo + i)) :: cap ix σ) H' R)
 (fin:∀p H',Same H H'->IsD K H' (.lst fs) (.ref p)->Q (.ref p) H') :
 Qg ix te σ Q (Itr lo n) H:=by
 refine eK (K:=K) n (λi => .int (lo + i)) fs hn hz hf (λH' sm=>jD _) (λi H' hi sm=>⟨hi,λx xF hy=>⟨hy.2,hy.1⟩⟩) step λp H' ys sm hd hy=>fin p H' sm ⟨p,ys,rfl,.of hd,hy⟩
def mh{K:xt}{a:J0}{xs:List V}{ix:xz}{te:TE}{σ:St}{H:Hp}{Q:VK}(fs:List D)(hS:SqT K H a xs)(hn:fs.length=xs.length)(hz:xs.length<=sizeLine)(hf:D.noLs fs=true)
 (step:∀(i:Nat) (x:V) (d:D) (H':Hp) (R:VK),xs[i]? = some x->fs[i]? = some d->Same H H'->(∀y xF,Same H' xF->IsD K xF d y->R y xF)->te (some x :: cap ix σ) H' R)
 (fin:∀p H' ys,Same H H'->H' p=some (.lst ys)->IsDs K H' fs ys->Q (.ref p) H'):Qg ix te σ Q (Itt K a) H:=by
 refine eK (K:=K) xs.length (λi=>xs.getD i .non) fs hn hz hf (λH' sm=>⟨xs,sm.tupq hS,jD _⟩) (λi H' hi sm=>⟨⟨xs,xs[i],sm.tupq hS,jC hi⟩,λx xF hy=>?_⟩) (λi d H' R hi hd sm hR=>?_) fin
 . obtain⟨e,y⟩:=hy;refine⟨?_,e⟩;have z:=y xs (sm.tupq hS);rw[jE,z];rfl
 . have e:xs[i]? = some (xs.getD i .non):=by rw[jE,jC hi];rfl
   exact step i _ d H' R e hd sm hR
def wg(h:wi σ H (Qg ix te σ λx H1=>tr σ H1 λxs H2=>Q (x :: xs) H2)):Jy (QF ix wi X4 te) tr σ H Q:=h
theorem Zh{K:xt}{H:Hp}:∀{ns:xA}{ys:List V},IsDs K H (ns.map D.int) ys->ys=ns.map V.int
 | [],_,h=>h
 | n :: ns,_,⟨x,r,h1,h2,h3⟩=>by
  have h2':x=V.int n:=h2;rw[h1,h2',Zh (ns:=ns) h3];rfl
def Yw(ns:xA):D.noLs (ns.map D.int)=true:=aM λd hd=>by
 obtain⟨n,_,rfl⟩:=jW.mp hd;rfl
section
variable {X:Cx}
def Zi(K:xt)(hK:X.K=K):Q7 X (.builtin "len") (λxs H Q=>∃x n,xs=[x]/\dI K x H n/\Q (.int n) H):=hK ▸ ux
def Je(K:xt)(hK:X.K=K):IxR X (rIx K):=hK ▸ vj
def XS(K:xt)(hK:X.K=K):SlR X (lH K):=hK ▸ vn
def XT(K:xt)(hK:X.K=K):SlR X (lu K):=hK ▸ lA
def JM(K:xt)(hK:X.K=K):OpR X (binaryOp .Add) (lB K):=hK ▸ lC
def mi(K:xt)(hK:X.K=K):OpR X (compareOp .In) (rIn K false):=hK ▸ vt
def mj(K:xt)(hK:X.K=K):OpR X (compareOp .NotIn) (rIn K true):=hK ▸ vw
def eM(K:xt)(hK:X.K=K):Q7 X (.type "list") (λxs H Q=>∃p ys,xs=[.ref p]/\(SqL K H p ys\/SqT K H p ys)/\∀l,H l=none->Q (.ref l) (upd H l (.lst ys))):=hK ▸ vx
def aN(K:xt)(hK:X.K=K):Q7 X (.type "tuple") (λxs H Q=>∃p ys,xs=[.ref p]/\((SqL K H p ys/\∀l,H l=none->Q (.ref l) (upd H l (.tup ys)))\/(SqT K H p ys/\Q (.ref p) H))):=hK ▸ vy
def mq(K:xt)(hK:X.K=K):Q7 X (.builtin "isinstance") (λxs H Q=>∃x c t b,xs=[x,c]/\isC c=true/\TyD K H x t/\PySem.W.kitOne K t (eG c)=some b/\Q (.bl b) H):=hK ▸ vY
def mw(K:xt)(b:Bool):R2:=λx y H Q=>∃d,IsD K H d x/\IsD K H d y/\(∃a,x = .ref a)/\d.deep<=60/\Q (.bl b) H
def JN(K:xt)(hK:X.K=K)(hu:X.A.units + 64 < cLine):OpR X (compareOp .Eq) (mw K true):=by
 subst hK;intro xB s σ H x y v u Q I rx ry h;obtain⟨d,hx,hy,ha,hd,q⟩:=h;exact wb xB s σ H x y v u Q I rx ry ⟨d,hx,hy,ha,by omega,q⟩
def XU(K:xt)(hK:X.K=K)(hu:X.A.units + 64 < cLine):OpR X (compareOp .NotEq) (mw K false):=by
 subst hK;intro xB s σ H x y v u Q I rx ry h;obtain⟨d,hx,hy,ha,hd,q⟩:=h;exact wc xB s σ H x y v u Q I rx ry ⟨d,hx,hy,ha,by omega,q⟩
end
end L2
namespace L2
open PySem PySem.W PySem.Calls PyProof.Rows
def ie{Xt:xZ->Bool}{α:Type}{Yf:xZ->α}{Ya:J2->α}(e:opening p=plainProg p.main.scope.names)(hN:Nat.ble 600 N=true)(f:∀s,fenceModules? p s=some s)
 (h:∀(w:J2) (os:OsState),(topRun treeTable p w 11 (some (.ref 6)) N ⟨boot_heap w.params,Array.mk [],boot_drawn,boot_toks,os⟩ (topStub p)).map (λs =>
  ((staticsOk (importedModules p.main.body) (boot_heap w.params) s.heap && namesBound p s.heap && gensDone s && laidKept (boot_heap w.params) s.heap),openSeen q loose (importedModules p.main.body) Xt true s,Yf s))=some (true,openGood q loose,Ya w)):LeftO p q loose Xt Yf Ya N:=λw=>by
 obtain⟨⟨hp,gs,d,k,os⟩,e1,e2⟩:=jj.mp (boot_open e hN f w);simp only[Prod.mk.injEq]at e2;obtain⟨rfl,rfl,rfl,rfl⟩:=e2;have size:((boot_heap w.params).isNs mainGlobals && (Array.mk ([]:List GenState)).size == 0)=true/\(boot_heap w.params).objs.size=11/\(boot_heap w.params).nsMap mainGlobals "__annotations__" = some (.ref 6):=⟨by kernel_rfl,by kernel_rfl,by kernel_rfl⟩;obtain⟨z1,z2,z3⟩:=size;obtain⟨s,r,l⟩:=jj.mp (h w os);simp only[Prod.mk.injEq]at l;obtain⟨l1,l2,l3⟩:=l
 have t:topFrom treeTable p w N ⟨boot_heap w.params,Array.mk [],boot_drawn,boot_toks,os⟩=some s:=by
  unfold topFrom;dsimp only;rw[z1,z2,z3,r];show(match staticsOk (importedModules p.main.body) (boot_heap w.params) s.heap && namesBound p s.heap && gensDone s && laidKept (boot_heap w.params) s.heap with | true=>_ | false=>_)=_;rw[l1]
 unfold openEnds;rw[e1];show(topFrom treeTable p w N _).map _=_;rw[t];exact qP some (Prod.ext l2 l3)
end L2
namespace L2
open PySem PySem.Spec PyProof.Rows
section
variable {X:Cx}
def mx(hu:X.A.units + 1 < cLine):OpR X (compareOp .In) (λx y H Q=>∃a o,y = .ref a/\DGet H a x o/\Q (.bl o.isSome) H):=by
 intro xB s σ H x y v u Q I rx ry h;obtain⟨a,o,rfl,g,q⟩:=h
 cases ry
 exact vJ hu I g rx λs' I'=>⟨.bl _,H,I',rfl,q⟩
end
def ZL(ix:xz)(tt:TT)(te:TE)(σ:St)(Q:VK):It->Hp->Prop:=λJ H1=>∀D,H1 D=none->∃W:Nat->Nat->Hp->Prop,(∃m,W 0 m (upd H1 D (.lst []))) /\
 ∀i m H,W i m H->(J.stop i H/\Q (.ref D) H)\/(J.go i H/\∀x H',J.yld i H x H'->tt (some x :: cap ix σ) H' λb H2 =>
  if b=true then te (some x :: cap ix σ) H2 λy H3=>∃ys,H3 D=some (.lst ys)/\ys.length < sizeLine/\∃m',m' < m/\W (i + 1) m' (upd H3 D (.lst (ys ++ [y]))) else ∃m',m' < m/\W (i + 1) m' H2)
def wj{K:xt}{a:J0}{ns:xy}{ix:xz}{tt:TT}{te:TE}{σ:St}{H:Hp}{Q:VK}(p:Str->Bool)(hS:SqL K H a (ns.map V.str))(hz:ns.length<=sizeLine)
 (test:∀(n:Str) (H':Hp) (R:Bool->Hp->Prop),Same H H'->R (p n) H'->tt (some (.str n) :: cap ix σ) H' R)
 (step:∀(n:Str) (H':Hp) (R:VK),R (.str n) H'->te (some (.str n) :: cap ix σ) H' R)
 (fin:∀q H',H q=none->Same H H'->H' q=some (.lst ((ns.filter p).map V.str))->Q (.ref q) H'):ZL ix tt te σ Q (Itl K a) H:=by
 intro Da hD;refine⟨λi m H'=>m=ns.length - i/\i<=ns.length/\Same H H'/\H' Da=some (.lst (((ns.take i).filter p).map V.str)),⟨ns.length,by simp,jX _,Ja hD _,J8⟩,?_⟩;rintro i m H' ⟨rfl,hi,sm,eD⟩
 by_cases hlt:i < ns.length
 . refine .inr ⟨⟨ns.map V.str,.str ns[i],sm.seq hS,by rw[jF,jC hlt];rfl⟩,λx xF hy=>?_⟩;obtain⟨e,y⟩:=hy;subst e;have hx:=y _ (sm.seq hS);rw[jF,jC hlt]at hx;obtain rfl:x = .str ns[i]:=(Option.some.inj hx).symm;have tk:ns.take (i + 1)=ns.take i ++ [ns[i]]:=jt hlt;refine test ns[i] _ _ sm ?_
   cases hp:p ns[i] with
   | true =>
    dsimp only;rw[qh rfl];refine step ns[i] _ _ ⟨_,eD,?_,ns.length - (i + 1),by omega,rfl,hlt,XR hD sm,?_⟩
    . rw[jA];have:=qB p (ns.take i);rw[jT]at this;omega
    . rw[J8,tk,List.filter_append,jo];simp[hp]
   | false =>
    dsimp only;rw[qg jR];refine⟨ns.length - (i + 1),by omega,rfl,hlt,sm,?_⟩;rw[eD,tk,List.filter_append,jo];simp[hp]
 . have e:i=ns.length:=by omega
   subst e;rw[jk]at eD;exact .inl ⟨⟨_,sm.seq hS,by rw[jA];exact jD _⟩,fin Da H' hD sm eD⟩
theorem Yx(n:Str):∀ns:xy,inV (.str n) (ns.map V.str)=decide (n∈ns)
 | []=>rfl
 | m :: ns=>by
  have h:=Yx n ns;unfold inV at h ⊢;rw[jf,qI,h];have e:eqV (.str m) (.str n)=decide (m=n):=by show(m == n)=_;exact Bool.beq_eq_decide_eq ..
  rw[e,Bool.eq_iff_iff];simp only[Bool.or_eq_true,decide_eq_true_eq,jL];exact⟨λh=>h.elim (λh => .inl h.symm) .inr,λh=>h.elim (λh => .inl h.symm) .inr⟩
def XV(ns:xy):(ns.map V.str).all Ql=true:=by
 rw[List.all_eq_true];intro x hx;obtain⟨n,_,rfl⟩:=jW.mp hx;rfl
section
variable {X:Cx}{a b c d:Expr}{ta tb tc td:TE}{pos:Pos}{x1:_}
abbrev Pl(X:Cx)(e:Expr)(es:List Expr):Prop:=starEach (e :: es) X.env=(false,eval e X.env) :: starEach es X.env
def Yy(ha:PE X a ta)(hb:PE X b tb)(h1:Pl X a [b])(h2:Pl X b []):PE X (.Tuple [a,b] x1 pos) (Zd (Jy ta (Jy tb JR))):=JV (Jd ha (Jd hb J6 h2) h1)
def aO(ha:PE X a ta)(hb:PE X b tb)(hc:PE X c tc)(h1:Pl X a [b,c])(h2:Pl X b [c])(h3:Pl X c []):PE X (.Tuple [a,b,c] x1 pos) (Zd (Jy ta (Jy tb (Jy tc JR)))):=JV (Jd ha (Jd hb (Jd hc J6 h3) h2) h1)
def my(ha:PE X a ta)(hb:PE X b tb)(hc:PE X c tc)(hd:PE X d td)(h1:Pl X a [b,c,d])(h2:Pl X b [c,d])(h3:Pl X c [d])(h4:Pl X d []):PE X (.Tuple [a,b,c,d] x1 pos) (Zd (Jy ta (Jy tb (Jy tc (Jy td JR))))):=JV (Jd ha (Jd hb (Jd hc (Jd hd J6 h4) h3) h2) h1)
def Xq(ha:PE X a ta)(h1:Pl X a []):PE X (.List [a] pos) (dL (Jy ta JR)):=Qw (Jd ha J6 h1)
def aP{X:Cx}{i:Nat}{x:Str}{e:Expr}{te:TE}{pos' pos:Pos}(hN:X.N.Nodup)(hi:X.N[i]? = some x)(hx:Loc X.env.scope x)(he:PE X e te)(hs:swapsWith e (some (.Name x pos')) pos.line X.env=pure false)(hf:X.fn x=true\/X.env.scope.names.lookup x=some .local) :
 PS X (.Assign [.Name x pos'] e pos) (X0 te (Jm i)):=Jg hN hi hx he hs hf
end
section
variable {X:Cx}
theorem aQ:∀{ss:xy}{vs:xx},Vals (ss.map V.str) vs->StrsAre vs ss
 | [],_,r=>by cases r;exact .nil
 | z :: ss,_,r=>by
  rw[jf]at r
  cases r with
  | cons h t =>
   obtain⟨tk,rfl⟩:=h;exact .cons _ _ (aQ t)
theorem mz:∀{ss:xy}{vs:xx},StrsAre vs ss->Vals (ss.map V.str) vs
 | _,_,.nil => .nil
 | _,_,.cons _ _ t => .cons ⟨_,rfl⟩ (mz t)
def wm(K:xt)(hK:X.K=K):Q7 X (.builtin "sorted") (λxs H Q=>∃(p:J0) (ss:xy),xs=[.ref p]/\SqL K H p (ss.map V.str)/\ss.length < 64 /\
 ∀l (ss':xy),H l=none->ss'.Perm ss->sortedS ss'=true->Q (.ref l) (upd H l (.lst (ss'.map V.str)))):=by
 subst hK;intro xB s σ H xs us Q I r h;obtain⟨p,ss,rfl,hS,few,q⟩:=h;obtain⟨u,rfl,rx⟩:=Qj r
 cases rx
 obtain⟨its,rv,pl,hz⟩:=I.list hS;have hl:=rv.length;rw[jA]at hl;refine sorted_strs (vs:=its) (by simpa using pl.isList) (aQ rv) 'd' λout ss' b1 b2 b3=>?_;obtain⟨c,hc⟩:=sortedAll_at s.heap its out
 have lz:(ss'.map V.str).length<=sizeLine:=by
  rw[jA,b2.length_eq,qR];omega
 refine⟨.ref (s.heap.objs.size + 1),upd H (s.heap.objs.size + 1) (.lst (ss'.map V.str)),?_,rfl,q _ ss' (I.hok.fresh (Nat.le_succ _)) b2 b3⟩;exact I.laid (t':=s.toks) (λb o e=>sortedAll_old e) (Nat.le_succ _) (show ObjOk X.prog X.w _ (sortedAll s.heap its out) _ (.lst (ss'.map V.str)) from⟨lz,out.toList,c,mz b1,by simpa using hc⟩)
end
end L2
namespace L2
open PySem PySem.W PyProof.Rows
section
variable {n:Nat}{lt:Nat->Nat->Bool}{cmp:Nat->Nat->(Bool->xZ->Prop)->xZ->Prop}{Pv:xZ->Prop}
structure SOrd (n:Nat) (lt:Nat->Nat->Bool):Prop where
 trans:∀i j k,i < n->j < n->k < n->lt i j=true->lt j k=true->lt i k=true
 conn:∀i j,i < n->j < n->i≠j->lt i j=false->lt j i=true
def SPm(n:Nat)(p:Array Nat):Prop:=p.Perm (List.toArray (List.range n))
theorem SPm.size(h:SPm n p):p.size=n:=by
 have:=h.size_eq;simpa using this
def SPm.at(h:SPm n p)(hi:i < n):p[i]? = some (p.getD i 0):=by
 have hs:=h.size;rw[jd 'd'];simp[Array.getD,show i < p.size by omega]
def SPm.inn(h:SPm n p)(hi:i < n):p.getD i 0 < n:=by
 have hs:=h.size;have e:=h.at hi;have hm:p.getD i 0∈p:=Array.mem_of_getElem? e;have:=h.mem_iff.mp hm;simpa using this
def SPm.ne(h:SPm n p)(hi:i < n)(hj:j < n)(xK:i≠j):p.getD i 0≠p.getD j 0:=λe=>by
 have hs:=h.size;have nd:p.toList.Nodup:=(show p.toList.Perm (List.range n) from(kP.mp h)).nodup_iff.mpr List.nodup_range;have e1:=h.at hi;have e2:=h.at hj;rw[e]at e1;rw[<- kB]at e1 e2;obtain⟨a1,b1⟩:=jJ.mp e1;obtain⟨a2,b2⟩:=jJ.mp e2;exact xK ((List.getElem_inj nd).mp (b1.trans b2.symm))
def Srt(lt:Nat->Nat->Bool)(p:Array Nat)(m:Nat):Prop:=∀i j,i < j->j < m->lt (p.getD i 0) (p.getD j 0)=true
def Dsc(lt:Nat->Nat->Bool)(p:Array Nat)(m:Nat):Prop:=∀i j,i < j->j < m->lt (p.getD j 0) (p.getD i 0)=true
def Srt.snoc(O:SOrd n lt)(h:SPm n p)(ha:1<=a)(hn:a < n)(s:Srt lt p a)(e:lt (p.getD (a - 1) 0) (p.getD a 0)=true):Srt lt p (a + 1):=λi j xK hj=>by
 by_cases hja:j < a
 . exact s i j xK hja
 . have ej:j=a:=by omega
   subst ej
   by_cases hi:i=j - 1
   . rw[hi];exact e
   . exact O.trans _ _ _ (h.inn 'd') (h.inn 'd') (h.inn hn) (s i (j - 1) 'd' 'd') e
def Dsc.snoc(O:SOrd n lt)(h:SPm n p)(ha:1<=a)(hn:a < n)(s:Dsc lt p a)(e:lt (p.getD a 0) (p.getD (a - 1) 0)=true):Dsc lt p (a + 1):=λi j xK hj=>by
 by_cases hja:j < a
 . exact s i j xK hja
 . have ej:j=a:=by omega
   subst ej
   by_cases hi:i=j - 1
   . rw[hi];exact e
   . exact O.trans _ _ _ (h.inn hn) (h.inn 'd') (h.inn 'd') e (s i (j - 1) 'd' 'd')
end
end L2
namespace L2
open PySem PySem.W PySem.Calls PyProof.Rows
section
variable {prog:J1}{w:J2}{A:J3}{E:xp}{s:xZ}
def ZM(a:J0)(h g:Heap):Prop:=∀b o,b≠a->h.get? b=some o->g.get? b=some o
def Qm(vs:xx)(p:Array Nat):xx:=p.toList.map λi=>vs.getD i Value.none
def wo(vs:xx):Qm vs (List.toArray (List.range vs.length))=vs:=by
 unfold Qm;refine k7 'j' λi h1 h2=>?_;simp[List.getD,h2]
def wp{vs:xx}{c0:Nat}{Z:PySem.Fin->xZ->Prop}(at_:s.heap.get? a=some (seqObj "list" vs.toArray c0))(wee:vs.length < 2)
 (fin:∀g c,ZM a s.heap g->g.get? a=some (seqObj "list" vs.toArray c)->Z (.done (.ret .none)) { s with heap:=g }) :
 wpAny (model prog w) A (Builtin.«list.sort» ⟨[.ref a],[]⟩) Z E s:=by
 have up:=Heap.SameBut.update s.heap a (Obj.mapSeq λ_=>(#[]:xw));obtain⟨c1,at1⟩:∃c,(s.heap.update a (Obj.mapSeq λ_=>(#[]:xw))).get? a=some (seqObj "list" #[] c):=⟨_,get?_update_seq at_ λ_=>#[]⟩;obtain⟨g,eg⟩:∃g,g=((s.heap.update a (Obj.mapSeq λ_=>(#[]:xw))).push (seqObj "tuple" vs.toArray 0)).push (seqObj "list" #[] 0):=⟨_,rfl⟩
 have gx:ZM a s.heap g:=λb o hb e=>by
  rw[eg];exact jB _ (jB _ ((up.2 b hb).trans e))
 have ga:g.get? a=some (seqObj "list" #[] c1):=by
  rw[eg];exact jB _ (jB _ at1)
 rw[list_sort_plain];refine q8 (listItems_at at_ rfl ?_);refine q8 (listUpdate_at at_ rfl ?_ (by rw[jH,qR];omega) (jX _));refine q8 (seqEpoch_at at1 rfl ?_);refine q8 (xj ?_ (by show vs.length<=sizeLine;rw[qR];omega));refine q8 (wpAny_newList ?_ (jX _));refine qK ?_;show wpAny (model prog w) A _ Z E { s with heap:=((s.heap.update a (Obj.mapSeq λ_=>(#[]:xw))).push (seqObj "tuple" vs.toArray 0)).push (seqObj "list" #[] 0) };rw[<- eg];dsimp only;have yes:vs.toArray.size < 2:=by rw[jH];omega
 rw[qh yes,qh yes];refine q8 (qf (q8 (qf ?_)));dsimp only
 have eo:(arrOf (SortSt.mk' general' (vs.toArray.zip vs.toArray) #[] 7 none)).map (·.2)=vs.toArray:=by
  show(vs.toArray.zip vs.toArray).map (·.2)=vs.toArray;apply Array.toList_inj.mp;rw[Array.toList_map,Array.toList_zip];exact List.map_snd_zip (jD _)
 rw[eo];have up2:=Heap.SameBut.update g a (Obj.mapSeq λ_=>vs.toArray);obtain⟨c2,at2⟩:∃c,(g.update a (Obj.mapSeq λ_=>vs.toArray)).get? a=some (seqObj "list" vs.toArray c):=⟨_,get?_update_seq ga λ_=>vs.toArray⟩;refine q8 (seqEpoch_at ga rfl ?_);refine q8 (listUpdate_at ga rfl ?_ (jX _) (by show vs.toArray.size<=_;rw[jH,qR];omega));simp only[bne_self_eq_false,kL,xm];exact qf (fin _ c2 (λb o hb e=>(up2.2 b hb).trans (gx b o hb e)) at2)
end
def im(f:Nat->Keyed)(l:xz):Array Keyed:=(l.map f).toArray
def JE(f:Nat->Keyed)(l:xz):(im f l).size=l.length:=by simp[im]
def wq(f:Nat->Keyed)(l:xz)(i:Nat):(im f l)[i]? = l[i]?.map f:=by simp[im]
def Yz(f:Nat->Keyed)(l:xz)(x:Nat):(im f l).push (f x)=im f (l ++ [x]):=by simp[im]
def ZN(f:Nat->Keyed)(l m:xz):im f l ++ im f m=im f (l ++ m):=by simp[im]
def XW(f:Nat->Keyed)(l:xz)(i j:Nat):(im f l).extract i j=im f ((l.drop i).take (j - i)):=by simp[im,List.extract_eq_take_drop]
def mB(f:Nat->Keyed)(l:xz):(im f l).reverse=im f l.reverse:=by simp[im]
def YA:Bool->Keyed->Array Keyed->Nat->Nat->Nat->StateT SortSt Sem (Option Nat):=sortPriv% PySem.Builtin.gallop
def eO(left:Bool)(key:Keyed)(arr:Array Keyed)(base i:Nat):StateT SortSt Sem (Option Bool) :=
 elem' arr (base + i) >>= λx=>if left=true then lt' x key else lt' key x >>= λo=>pure (o.map λb => !b)
structure TC (prog:J1) (w:J2) (A:J3) (s:xZ) (κ:SortKind) (n:Nat) (lt:Nat->Nat->Bool) (f:Nat->Keyed):Prop where
 O:SOrd n lt
 irr:∀i,i < n->lt i i=false
 cm:∀i j,i < n->j < n->i≠j->∀(C:Bool->xZ->Prop),C (lt i j) s->wpAny (model prog w) A (keyLt' κ (f i).1 (f j).1) C (λ_ _=>False) s
section
variable {prog:J1}{w:J2}{A:J3}{E:xp}{s:xZ}{κ:SortKind}{n:Nat}{lt:Nat->Nat->Bool}{f:Nat->Keyed}
def YB(T:TC prog w A s κ n lt f){st:SortSt}(hk:kindOf st=κ)(hi:i < n)(hj:j < n)(xK:i≠j)(h:Q (some (lt i j)) st):wpS (model prog w) A E s (lt' (f i) (f j)) Q st:=by
 rw[lt'_eq];refine qi (wpS_get ?_);rw[hk];refine qi (wpS_lift (xi (qQ (T.cm i j hi hj xK (λb s'=>s'=s/\b=lt i j) ⟨rfl,rfl⟩) (λb s' hb=>?_) λ_ _ hF=>hF.elim)));obtain⟨rfl,rfl⟩:=hb;exact⟨rfl,qj h⟩
def Q0(h:l[i]? = some x){st:SortSt}(q:Q (f x) st):wpS (model prog w) A E s (elem' (im f l) i) Q st:=by
 rw[elem'_eq,wq,h];exact qj q
def SOrd.flip(O:SOrd n lt)(irr:∀i,i < n->lt i i=false)(hi:i < n)(hj:j < n)(xK:i≠j):(!lt j i)=lt i j:=by
 cases h:lt i j with
 | true =>
  cases h':lt j i with
  | false=>rfl
  | true=>have:=O.trans i j i hi hj hi h h';rw[irr i hi]at this;cases this
 | false=>rw[O.conn i j hi hj xK h];rfl
def wu(T:TC prog w A s κ n lt f){st:SortSt}(hk:kindOf st=κ)(e:l[base + i]? = some x)(hx:x < n)(hkn:k < n)(hxk:x≠k)(h:Q (some (lt x k)) st) :
 wpS (model prog w) A E s (eO left (f k) (im f l) base i) Q st:=by
 unfold eO;refine qi (Q0 e ?_)
 cases left with
 | true =>
  rw[qh rfl];exact YB T hk hx hkn hxk h
 | false =>
  rw[qg 'f'];refine qi (YB T hk hkn hx hxk.symm (qj ?_));show Q (some (!lt k x)) st;rw[T.O.flip T.irr hx hkn hxk];exact h
def ZO(T:TC prog w A s κ n lt f){st:SortSt}(hk:kindOf st=κ){B:Nat->Bool}(hh:hint < m)(hb:∀i,i < m->∃x,l[base + i]? = some x/\x < n/\x≠k/\B i=lt x k)(hkn:k < n)(mono:∀i j,i < j->j < m->B j=true->B i=true){Q:Option Nat->SortSt->Prop}
 (h:∀r,r<=m->(∀i,i < r->B i=true)->(∀i,r<=i->i < m->B i=false)->Q (some r) st):wpS (model prog w) A E s (YA left (f k) (im f l) base m hint) Q st:=by
 have by_:∀{i:Nat}{Q:Option Bool->SortSt->Prop},i < m->Q (some (B i)) st->wpS (model prog w) A E s (eO left (f k) (im f l) base i) Q st:=fun {i Q} hi q=>by
  obtain⟨x,e,h1,h2,h3⟩:=hb i hi;exact wu T hk e h1 hkn h2 (h3 ▸ q)
 have up:∀{i:Nat},B i=true->i < m->∀j,j<=i->B j=true:=fun {i} e hi j hj=>by
  rcases Nat.lt_or_ge j i with z | z
  . exact mono j i z hi e
  . rw[show j=i by omega];exact e
 have dn:∀{i:Nat},B i=false->∀j,i<=j->j < m->B j=false:=fun {i} e j hj hm=>by
  cases z:B j with
  | false=>rfl
  | true=>rw[up z hm i hj]at e;cases e
 have bin:∀lo hi,lo<=hi->hi<=m->(∀i,i < lo->B i=true)->(∀i,hi<=i->i < m->B i=false)->∀(b:Nat->Option (Option Nat)×Nat×Nat->StateT SortSt Sem (ForInStep (Option (Option Nat)×Nat×Nat))) (c:Option (Option Nat)×Nat×Nat->StateT SortSt Sem (Option Nat)),
  (∀x lo hi (R:ForInStep (Option (Option Nat)×Nat×Nat)->SortSt->Prop),hi<=m->(lo ≥ hi->R (.done (none,lo,hi)) st)->(lo < hi->R (.yield (if B (lo + (hi - lo) / 2)=true then(none,lo + (hi - lo) / 2 + 1,hi) else(none,lo,lo + (hi - lo) / 2))) st)->wpS (model prog w) A E s (b x (none,lo,hi)) R st) ->
  (∀hi,Q (some hi) st->wpS (model prog w) A E s (c (none,hi,hi)) Q st)->wpS (model prog w) A E s (forIn [0:m] ((none,lo,hi):Option (Option Nat)×Nat×Nat) b >>= c) Q st:=λlo hi h1 h2 h3 h4 b c hb hc=>by
  refine qi (qY (qV (I:=λx c xC=>xC=st/\∃lo hi,c=(none,lo,hi)/\lo<=hi/\hi<=m/\hi - lo<=m - x/\(∀i,i < lo->B i=true)/\(∀i,hi<=i->i < m->B i=false)) (Q:=λc xC=>xC=st/\∃hi,c=(none,hi,hi)/\hi<=m/\(∀i,i < hi->B i=true)/\(∀i,hi<=i->i < m->B i=false)) ?_ ?_ ⟨rfl,lo,hi,rfl,h1,h2,by omega,h3,h4⟩) ?_)
  . rintro x c xC _ hx ⟨rfl,lo,hi,rfl,h1,h2,h0,h3,h4⟩;refine hb x lo hi _ h2 (λg=>?_) λg=>?_
    . have:lo=hi:=by omega
      subst this;exact⟨rfl,lo,rfl,h2,h3,h4⟩
    . cases hm:B (lo + (hi - lo) / 2) with
      | true =>
       rw[qh rfl];exact⟨rfl,_,hi,rfl,by omega,h2,by omega,λi hi'=>up hm 'd' i 'd',h4⟩
      | false =>
       rw[qg 'f'];exact⟨rfl,lo,_,rfl,by omega,by omega,by omega,h3,λi hi'=>dn hm i 'd'⟩
  . rintro c xC ⟨rfl,lo,hi,rfl,h1,h2,h0,h3,h4⟩;have:lo=hi:=by omega
    subst this;exact⟨rfl,lo,rfl,h2,h3,h4⟩
  . rintro c xC ⟨rfl,hi,rfl,h2,h3,h4⟩;exact hc hi (h hi h2 h3 h4)
 refine qi (by_ hh ?_);dsimp only
 cases hB:B hint with
 | true =>
  rw[qh rfl];refine qi (qY (qV (I:=λx c xC=>xC=st/\∃la xS,c=(none,la,xS)/\x + 1<=xS/\la < xS/\hint + la < m/\B (hint + la)=true) (Q:=λc xC=>xC=st/\∃la xS,c=(none,la,xS)/\la < xS/\hint + la < m/\B (hint + la)=true/\(m<=hint + xS\/B (hint + xS)=false)) ?_ ?_ ⟨rfl,0,1,rfl,by omega,by omega,hh,hB⟩) ?_)
  . rintro x c xC _ hx ⟨rfl,la,xS,rfl,h1,h2,h3,h4⟩;dsimp only
    by_cases g:xS ≥ m - hint
    . rw[qh g];exact qj ⟨rfl,la,xS,rfl,h2,h3,h4,.inl 'd'⟩
    . rw[qg g];refine qi (by_ 'd' ?_);dsimp only
      cases hm:B (hint + xS) with
      | true =>
       rw[qg 'f'];exact qj ⟨rfl,xS,_,rfl,by omega,by omega,by omega,hm⟩
      | false =>
       rw[qh 'f'];exact qj ⟨rfl,la,xS,rfl,h2,h3,h4,.inr hm⟩
  . rintro c xC ⟨rfl,la,xS,rfl,h1,h2,h3,h4⟩;exact⟨rfl,la,xS,rfl,h2,h3,h4,.inl 'd'⟩
  . rintro c xC ⟨rfl,la,xS,rfl,h2,h3,h4,h5⟩;dsimp only;refine bin (hint + la + 1) (hint + min xS (m - hint)) 'd' 'd' (λi hi=>up h4 h3 i 'd') (λi hi hm=>?_) _ _ (λx lo hi R hm a c=>?_) (λhi q=>qj q)
    rotate_left
    . dsimp only
      by_cases g:lo ≥ hi
      . rw[qh g];exact qj (a g)
      . rw[qg g];refine qi (by_ 'd' ?_);have r:=c 'd';dsimp only
        cases hB:B (lo + (hi - lo) / 2) with
        | true=>rw[hB,qh rfl]at r;rw[qh rfl];exact qj r
        | false=>rw[hB,qg 'f']at r;rw[qg 'f'];exact qj r
    rcases h5 with h5 | h5
    . omega
    . by_cases g:m<=hint + xS
      . omega
      . exact dn h5 i 'd' hm
 | false =>
  rw[qg 'f'];refine qi (qY (qV (I:=λx c xC=>xC=st/\∃la xS,c=(none,la,xS)/\x + 1<=xS/\la < xS/\la<=hint/\B (hint - la)=false) (Q:=λc xC=>xC=st/\∃la xS,c=(none,la,xS)/\la < xS/\la<=hint/\B (hint - la)=false/\(hint < xS\/B (hint - xS)=true)) ?_ ?_ ⟨rfl,0,1,rfl,by omega,by omega,by omega,hB⟩) ?_)
  . rintro x c xC _ hx ⟨rfl,la,xS,rfl,h1,h2,h3,h4⟩;dsimp only
    by_cases g:xS ≥ hint + 1
    . rw[qh g];exact qj ⟨rfl,la,xS,rfl,h2,h3,h4,.inl 'd'⟩
    . rw[qg g];refine qi (by_ 'd' ?_);dsimp only
      cases hm:B (hint - xS) with
      | true =>
       rw[qh rfl];exact qj ⟨rfl,la,xS,rfl,h2,h3,h4,.inr hm⟩
      | false =>
       rw[qg 'f'];exact qj ⟨rfl,xS,_,rfl,by omega,by omega,by omega,hm⟩
  . rintro c xC ⟨rfl,la,xS,rfl,h1,h2,h3,h4⟩;exact⟨rfl,la,xS,rfl,h2,h3,h4,.inl 'd'⟩
  . rintro c xC ⟨rfl,la,xS,rfl,h2,h3,h4,h5⟩;dsimp only;refine bin (hint + 1 - min xS (hint + 1)) (hint - la) 'd' 'd' (λi hi=>?_) (λi hi hm=>dn h4 i 'd' hm) _ _ (λx lo hi R hm a c=>?_) (λhi q=>qj q)
    rotate_left
    . dsimp only
      by_cases g:lo ≥ hi
      . rw[qh g];exact qj (a g)
      . rw[qg g];refine qi (by_ 'd' ?_);have r:=c 'd';dsimp only
        cases hB:B (lo + (hi - lo) / 2) with
        | true=>rw[hB,qh rfl]at r;rw[qh rfl];exact qj r
        | false=>rw[hB,qg 'f']at r;rw[qg 'f'];exact qj r
    rcases h5 with h5 | h5
    . omega
    . by_cases g:hint < xS
      . omega
      . exact up h5 'd' i 'd'
end
def aR:Nat->StateT SortSt Sem Unit:=sortPriv% PySem.Builtin.setMinGallop
def wv:Array Keyed->Array Keyed->StateT SortSt Sem (Array Keyed):=sortPriv% PySem.Builtin.mergeLo
def ww:Array Keyed->Array Keyed->StateT SortSt Sem (Array Keyed):=sortPriv% PySem.Builtin.mergeHi
section
variable {prog:J1}{w:J2}{A:J3}{E:xp}{s:xZ}{κ:SortKind}{n:Nat}{lt:Nat->Nat->Bool}{f:Nat->Keyed}
abbrev PwL(lt:Nat->Nat->Bool)(l:xz):Prop:=l.Pairwise λa b=>lt a b=true
structure MgL (lt:Nat->Nat->Bool) (X Y o:xz) (ia ib:Nat):Prop where
 pm:(o ++ (X.drop ia ++ Y.drop ib)).Perm (X ++ Y)
 so:PwL lt o
 cr:∀x∈o,∀y∈X.drop ia ++ Y.drop ib,lt x y=true
def mC(l:xz)(i k:Nat):l.drop i=(l.drop i).take k ++ l.drop (i + k):=by
 rw[<- List.drop_drop,je]
def MgL.takeA(h:MgL lt X Y o ia ib)(sx:PwL lt X)(k:Nat)(hc:∀x∈(X.drop ia).take k,∀y∈Y.drop ib,lt x y=true):MgL lt X Y (o ++ (X.drop ia).take k) (ia + k) ib:=by
 have e:=mC X ia k;have sd:PwL lt (X.drop ia):=sx.sublist (kH _ _);rw[e]at sd;have sd':=jg.mp sd;refine⟨?_,jg.mpr ⟨h.so,sd'.1,λx hx y hy=>h.cr x hx y (jZ _ (jm hy))⟩,λx hx y hy=>?_⟩
 . have:=h.pm;rw[e]at this;rw[jV];rw[jV]at this;exact this
 . rcases jO.mp hx with hx | hx
   . refine h.cr x hx y ?_;rw[e];rcases jO.mp hy with hy | hy
     . exact jZ _ (jN _ hy)
     . exact jN _ hy
   . rcases jO.mp hy with hy | hy
     . exact sd'.2.2 x hx y hy
     . exact hc x hx y hy
def MgL.takeB(h:MgL lt X Y o ia ib)(sy:PwL lt Y)(k:Nat)(hc:∀x∈(Y.drop ib).take k,∀y∈X.drop ia,lt x y=true):MgL lt X Y (o ++ (Y.drop ib).take k) ia (ib + k):=by
 have e:=mC Y ib k;have sd:PwL lt (Y.drop ib):=sy.sublist (kH _ _);rw[e]at sd;have sd':=jg.mp sd;refine⟨?_,jg.mpr ⟨h.so,sd'.1,λx hx y hy=>h.cr x hx y (jN _ (jm hy))⟩,λx hx y hy=>?_⟩
 . refine List.Perm.trans ?_ h.pm;rw[jV];refine List.Perm.append_left _ ?_;rw[e,<- jV,<- jV];refine List.Perm.append_right _ ?_;rw[<- e];exact List.perm_append_comm
 . rcases jO.mp hx with hx | hx
   . refine h.cr x hx y ?_;rw[e];rcases jO.mp hy with hy | hy
     . exact jZ _ hy
     . exact jN _ (jN _ hy)
   . rcases jO.mp hy with hy | hy
     . exact hc x hx y hy
     . exact sd'.2.2 x hx y hy
def MgL.len(h:MgL lt X Y o ia ib):o.length<=X.length + Y.length:=by
 have:=h.pm.length_eq;simp only[jI]at this;omega
def MgD(lt:Nat->Nat->Bool)(X Y Z:xz):Prop:=Z.Perm (X ++ Y)/\PwL lt Z
def MgL.done(h:MgL lt X Y o ia ib)(sx:PwL lt X)(sy:PwL lt Y)(hz:X.length<=ia\/Y.length<=ib):MgD lt X Y (o ++ X.drop ia ++ Y.drop ib):=by
 rw[jV];refine⟨h.pm,jg.mpr ⟨h.so,?_,h.cr⟩⟩;rcases hz with z | z
 . rw[kF z];exact sy.sublist (kH _ _)
 . rw[kF z,ju];exact sx.sublist (kH _ _)
def MgL.last(h:MgL lt X Y o ia ib)(sx:PwL lt X)(sy:PwL lt Y)(hc:∀x∈Y,∀y∈X.drop ia,lt x y=true):MgD lt X Y (o ++ Y.drop ib ++ X.drop ia):=by
 rw[jV];refine⟨List.Perm.trans (List.Perm.append_left _ List.perm_append_comm) h.pm,jg.mpr ⟨h.so,jg.mpr ⟨sy.sublist (kH _ _),sx.sublist (kH _ _),λx hx y hy=>hc x (List.mem_of_mem_drop hx) y hy⟩,λx hx y hy=>h.cr x hx y ?_⟩⟩;rcases jO.mp hy with z | z
 . exact jN _ z
 . exact jZ _ z
def Xr(f:Nat->Keyed)(o X Y:xz)(ia ib:Nat):im f o ++ (im f X).extract ia (im f X).size ++ (im f Y).extract ib (im f Y).size=im f (o ++ X.drop ia ++ Y.drop ib):=by
 rw[XW,XW,JE,JE,ZN,ZN];rw[ji (by rw[jr];exact jD _),ji (by rw[jr];exact jD _)]
def Gs(st xC:SortSt):Prop:=kindOf xC=kindOf st/\arrOf xC=arrOf st/\pendingOf xC=pendingOf st/\failedOf xC=failedOf st
def Gs.refl(st:SortSt):Gs st st:=⟨rfl,rfl,rfl,rfl⟩
theorem Gs.trans{a b c:SortSt}(h:Gs a b)(g:Gs b c):Gs a c:=⟨g.1.trans h.1,g.2.1.trans h.2.1,g.2.2.1.trans h.2.2.1,g.2.2.2.trans h.2.2.2⟩
def aS{st:SortSt}(h:∀xC,Gs st xC->Q () xC):wpS (model prog w) A E s (aR g) Q st:=by
 have e:aR g=modify λst=>SortSt.mk' (kindOf st) (arrOf st) (pendingOf st) g (failedOf st):=rfl;rw[e];exact wpS_modify (h _ ⟨rfl,rfl,rfl,rfl⟩)
def ZP{st:SortSt}(h:Q () st):wpS (model prog w) A E s (liftM (rule r):StateT SortSt Sem Unit) Q st:=wpS_lift (x9 ⟨rfl,h⟩)
def LoP(lt:Nat->Nat->Bool)(f:Nat->Keyed)(X Y:xz)(L:Nat)(st:SortSt)(out:Array Keyed)(ia ib:Nat)(xC:SortSt):Prop:=∃o,out=im f o/\MgL lt X Y o ia ib/\ia + 1 < X.length/\ib < Y.length/\L<=o.length/\Gs st xC
def LoE(lt:Nat->Nat->Bool)(f:Nat->Keyed)(X Y:xz)(st:SortSt)(r:Option (Array Keyed))(xC:SortSt):Prop:=∃Z,r=some (im f Z)/\MgD lt X Y Z/\Gs st xC
abbrev LoR:=Option (Array Keyed)×Array Keyed×Nat×Nat×Nat×Nat×Nat
def LoQ(lt:Nat->Nat->Bool)(f:Nat->Keyed)(X Y:xz)(L:Nat)(st:SortSt)(c:LoR)(xC:SortSt):Prop:=LoE lt f X Y st c.1 xC\/(c.1=none/\LoP lt f X Y L st c.2.1 c.2.2.1 c.2.2.2.1 xC)
def aT(lt:Nat->Nat->Bool)(f:Nat->Keyed)(X Y:xz)(L:Nat)(st:SortSt)(r:ForInStep LoR)(xC:SortSt):Prop:=match r with | .done c=>LoQ lt f X Y L st c xC | .yield c=>c.1=none/\LoP lt f X Y L st c.2.1 c.2.2.1 c.2.2.2.1 xC
def LoE.on{st:SortSt}{ρ:Type}{G:Option (Array Keyed)×ρ->SortSt->Prop}(k:∀Z t xC,MgD lt X Y Z->Gs st xC->G (some (im f Z),t) xC):∀c xC,LoE lt f X Y st c.1 xC->G c xC:=by
 rintro⟨r,t⟩ xC ⟨Z,e,d,g⟩;dsimp only at e;subst e;exact k Z t xC d g
def LoP.on{pa pb:Prop}{X Y:xz}{L:Nat}{st:SortSt}{τ:Type}{G:Option (Array Keyed)×Array Keyed×Nat×Nat×τ->SortSt->Prop}
 (k:∀o ia ib t xC,MgL lt X Y o ia ib->ia + 1 < X.length->ib < Y.length->L<=o.length->Gs st xC->G (none,im f o,ia,ib,t) xC):∀c xC,pa->pb->(c.1=none/\LoP lt f X Y L st c.2.1 c.2.2.1 c.2.2.2.1 xC)->G c xC:=by
 rintro⟨r,out,ia,ib,t⟩ xC _ _ ⟨e,o,e2,m1,m2,m3,m4,g⟩;dsimp only at e e2 m1 m2 m3;subst e e2;exact k o ia ib t xC m1 m2 m3 m4 g
theorem LoQ.on{st:SortSt}{τ:Type}{G:Option (Array Keyed)×Array Keyed×Nat×Nat×τ->SortSt->Prop}(k1:∀Z t xC,MgD lt X Y Z->Gs st xC->G (some (im f Z),t) xC)
 (k:∀o ia ib t xC,MgL lt X Y o ia ib->ia + 1 < X.length->ib < Y.length->L<=o.length->Gs st xC->G (none,im f o,ia,ib,t) xC):∀c xC,(LoE lt f X Y st c.1 xC\/(c.1=none/\LoP lt f X Y L st c.2.1 c.2.2.1 c.2.2.2.1 xC))->G c xC :=
 λc xC h=>h.elim (LoE.on k1 c xC) (LoP.on k c xC trivial trivial)
def aU(a b out:Array Keyed)(ia ib mg ac bc:Nat):StateT SortSt Sem (ForInStep LoR):=do
 let x <- elem' a ia
 if ia + 1 + 1 == a.size then pure (.done (some (out.push x ++ b.extract ib b.size ++ a.extract (ia + 1) a.size),out.push x,ia + 1,ib,mg,ac,bc))
 else if (decide (ac < 7) && decide (bc < 7))=true then pure (.done (none,out.push x,ia + 1,ib,mg,ac,bc))
 else pure (.yield (none,out.push x,ia + 1,ib,mg,ac,bc))
def aV(a b out:Array Keyed)(ia ib mg ac bc:Nat):StateT SortSt Sem (ForInStep LoR):=do
 let y <- elem' b ib
 if ib + 1 == b.size then pure (.done (some (out.push y ++ a.extract ia a.size ++ b.extract (ib + 1) b.size),out.push y,ia,ib + 1,mg,ac,bc))
 else do
  let x <- elem' a ia
  let some k <- YA true x b (ib + 1) (b.size - (ib + 1)) 0 | pure (.done (some (out.push y ++ a.extract ia a.size ++ b.extract (ib + 1) b.size),out.push y,ia,ib + 1,mg,ac,bc))
  if k > 0 then
   if ib + 1 + k == b.size then pure (.done (some (out.push y ++ b.extract (ib + 1) (ib + 1 + k) ++ a.extract ia a.size ++ b.extract (ib + 1 + k) b.size),out.push y ++ b.extract (ib + 1) (ib + 1 + k),ia,ib + 1 + k,mg,ac,k))
   else aU a b (out.push y ++ b.extract (ib + 1) (ib + 1 + k)) ia (ib + 1 + k) mg ac k
  else aU a b (out.push y) ia (ib + 1) mg ac k
def YC(a b out:Array Keyed)(ia ib mg ac bc:Nat):StateT SortSt Sem (ForInStep LoR):=do
 aR mg
 let y <- elem' b ib
 let some k <- YA false y a ia (a.size - ia) 0 | pure (.done (some (out ++ a.extract ia a.size ++ b.extract ib b.size),out,ia,ib,mg,ac,bc))
 if k > 0 then
  if ia + k + 1 == a.size then pure (.done (some (out ++ a.extract ia (ia + k) ++ b.extract ib b.size ++ a.extract (ia + k) a.size),out ++ a.extract ia (ia + k),ia + k,ib,mg,k,bc))
  else if ia + k == a.size then pure (.done (some (out ++ a.extract ia (ia + k) ++ a.extract (ia + k) a.size ++ b.extract ib b.size),out ++ a.extract ia (ia + k),ia + k,ib,mg,k,bc))
  else aV a b (out ++ a.extract ia (ia + k)) (ia + k) ib mg k bc
 else aV a b out ia ib mg k bc
def JQ{l:xz}{i:Nat}(h:i < l.length):l[i]? = some (l.getD i 0):=by rw[jE,jC h];rfl
def YD{l:xz}{i:Nat}(h:i < l.length):l.getD i 0∈l:=jq (JQ h)
def wy{l:xz}{i:Nat}(h:i < l.length):l.drop i=l.getD i 0 :: l.drop (i + 1):=by
 rw[j4 h];congr 1;rw[jE,jC h];rfl
def QR{l:xz}{i:Nat}(h:i < l.length):(l.drop i).take 1=[l.getD i 0]:=by
 rw[wy h];rfl
def Qx(h:PwL lt l)(xK:i < j)(hj:j < l.length):lt (l.getD i 0) (l.getD j 0)=true:=by
 have:=List.pairwise_iff_getElem.mp h i j 'd' hj xK;rw[jE,jC 'd',jE,jC hj];exact this
def ZQ{l:xz}{i x:Nat}(h:x∈l.drop i):∃j,i<=j/\j < l.length/\x=l.getD j 0:=by
 obtain⟨j,hj⟩:=qC.mp h;rw[List.getElem?_drop]at hj;have:=(jJ.mp hj).1;exact⟨i + j,by omega,this,by rw[jE,hj];rfl⟩
def aW{l:xz}{i k x:Nat}(h:x∈(l.drop i).take k):∃j,i<=j/\j < i + k/\j < l.length/\x=l.getD j 0:=by
 obtain⟨j,hj⟩:=qC.mp h;have h1:=(jJ.mp hj).1;rw[jT,jr]at h1;rw[kf 'd',List.getElem?_drop]at hj;exact⟨i + j,by omega,by omega,by omega,by rw[jE,hj];rfl⟩
structure MgC (n:Nat) (lt:Nat->Nat->Bool) (X Y:xz):Prop where
 hn:∀x∈X ++ Y,x < n
 nd:(X ++ Y).Nodup
 sx:PwL lt X
 sy:PwL lt Y
def MgC.ne(h:MgC n lt X Y)(hi:i < X.length)(hj:j < Y.length):X.getD i 0≠Y.getD j 0:=λe =>
 (kQ.mp h.nd).2.2 _ (YD hi) _ (YD hj) e
def MgC.hx(h:MgC n lt X Y)(hi:i < X.length):X.getD i 0 < n:=h.hn _ (jZ _ (YD hi))
def MgC.hy(h:MgC n lt X Y)(hi:i < Y.length):Y.getD i 0 < n:=h.hn _ (jN _ (YD hi))
def MgC.belowY(h:MgC n lt X Y)(O:SOrd n lt)(hx:x < n)(hib:ib < Y.length)(e:lt x (Y.getD ib 0)=true):∀y∈Y.drop ib,lt x y=true:=λy hy=>by
 obtain⟨j,h1,h2,rfl⟩:=ZQ hy;rcases Nat.lt_or_ge ib j with z | z
 . exact O.trans _ _ _ hx (h.hy hib) (h.hy h2) e (Qx h.sy z h2)
 . rw[show j=ib by omega];exact e
def MgC.belowX(h:MgC n lt X Y)(O:SOrd n lt)(hx:x < n)(hia:ia < X.length)(e:lt x (X.getD ia 0)=true):∀y∈X.drop ia,lt x y=true:=λy hy=>by
 obtain⟨j,h1,h2,rfl⟩:=ZQ hy;rcases Nat.lt_or_ge ia j with z | z
 . exact O.trans _ _ _ hx (h.hx hia) (h.hx h2) e (Qx h.sx z h2)
 . rw[show j=ia by omega];exact e
def mD(T:TC prog w A s κ n lt f){st st0:SortSt}(C:MgC n lt X Y)(last:∀x∈Y,∀y∈X.drop (X.length - 1),lt x y=true)(h:MgL lt X Y o ia ib)(h1:ia + 1 < X.length)(h2:ib < Y.length)(hL:L<=o.length)(g:Gs st0 st)(hc:∀y∈Y.drop ib,lt (X.getD ia 0) y=true) :
 wpS (model prog w) A E s (aU (im f X) (im f Y) (im f o) ia ib mg ac bc) (aT lt f X Y L st0) st:=by
 unfold aU;refine qi (Q0 (JQ 'd') ?_)
 have h':MgL lt X Y (o ++ [X.getD ia 0]) (ia + 1) ib:=by
  have:=h.takeA C.sx 1 (by rw[QR 'd'];intro x hx y hy;rw[jM.mp hx];exact hc y hy);rw[QR 'd']at this;exact this
 have hL':L<=(o ++ [X.getD ia 0]).length:=by rw[jI];omega
 rw[Yz]
 by_cases c:ia + 1 + 1=X.length
 . rw[qh (by rw[JE];exact beq_iff_eq.mpr c),Xr];exact qj (.inl ⟨_,rfl,h'.last C.sx C.sy (by rw[show ia + 1=X.length - 1 by omega];exact last),g⟩)
 . rw[qg (by rw[JE];exact λz=>c (beq_iff_eq.mp z))];have P:LoP lt f X Y L st0 (im f (o ++ [X.getD ia 0])) (ia + 1) ib st:=⟨_,rfl,h',by omega,h2,hL',g⟩;split
   . exact qj (.inr ⟨rfl,P⟩)
   . exact qj ⟨rfl,P⟩
def mE(f:Nat->Keyed)(o X:xz)(ia k:Nat):im f o ++ (im f X).extract ia (ia + k)=im f (o ++ (X.drop ia).take k):=by
 rw[XW,ZN,Nat.add_sub_cancel_left]
def mF(T:TC prog w A s κ n lt f){st st0:SortSt}(hk:kindOf st=κ)(C:MgC n lt X Y)(last:∀x∈Y,∀y∈X.drop (X.length - 1),lt x y=true)(h:MgL lt X Y o ia ib)(h1:ia + 1 < X.length)(h2:ib < Y.length)(hL:L<=o.length)(g:Gs st0 st)(hc:∀y∈X.drop ia,lt (Y.getD ib 0) y=true) :
 wpS (model prog w) A E s (aV (im f X) (im f Y) (im f o) ia ib mg ac bc) (aT lt f X Y L st0) st:=by
 unfold aV;refine qi (Q0 (JQ h2) ?_)
 have h':MgL lt X Y (o ++ [Y.getD ib 0]) ia (ib + 1):=by
  have:=h.takeB C.sy 1 (by rw[QR h2];intro x hx y hy;rw[jM.mp hx];exact hc y hy);rw[QR h2]at this;exact this
 have hL':L<=(o ++ [Y.getD ib 0]).length:=by rw[jI];omega
 rw[Yz]
 by_cases c:ib + 1=Y.length
 . rw[qh (by rw[JE];exact beq_iff_eq.mpr c),Xr];exact qj (.inl ⟨_,rfl,h'.done C.sx C.sy (.inr 'd'),g⟩)
 rw[qg (by rw[JE];exact λz=>c (beq_iff_eq.mp z))];refine qi (Q0 (JQ 'd') ?_);rw[JE];refine qi (ZO T hk (B:=λi=>lt (Y.getD (ib + 1 + i) 0) (X.getD ia 0)) 'd' (λi hi=>⟨_,JQ 'd',C.hy 'd',(C.ne 'd' 'd').symm,rfl⟩) (C.hx 'd') (λi j xK hj e=>T.O.trans _ _ _ (C.hy 'd') (C.hy 'd') (C.hx 'd') (Qx C.sy 'd' 'd') e) λk hk1 hk2 hk3=>?_);dsimp only
 have cut:∀x∈(Y.drop (ib + 1)).take k,∀y∈X.drop ia,lt x y=true:=λx hx=>by
  obtain⟨j,j1,j2,j3,rfl⟩:=aW hx;refine C.belowX T.O (C.hy j3) 'd' ?_;have:=hk2 (j - (ib + 1)) 'd'
  rwa [show ib + 1 + (j - (ib + 1))=j by omega]at this
 have h3:=h'.takeB C.sy k cut;have hL3:L<=(o ++ [Y.getD ib 0] ++ (Y.drop (ib + 1)).take k).length:=by rw[jI];omega
 have xG:ib + 1 + k < Y.length->∀y∈Y.drop (ib + 1 + k),lt (X.getD ia 0) y=true:=λhlt=>by
  refine C.belowY T.O (C.hx 'd') hlt ?_;have:=hk3 k (jD _) 'd';exact T.O.conn _ _ (C.hy 'd') (C.hx 'd') (C.ne 'd' 'd').symm this
 by_cases k0:k > 0
 . rw[qh k0,mE]
   by_cases c2:ib + 1 + k=Y.length
   . rw[qh (beq_iff_eq.mpr c2)];have e:=Xr f (o ++ [Y.getD ib 0] ++ (Y.drop (ib + 1)).take k) X Y ia (ib + 1 + k);rw[JE,JE]at e;rw[JE,e];exact qj (.inl ⟨_,rfl,h3.done C.sx C.sy (.inr 'd'),g⟩)
   . rw[qg (λz=>c2 (beq_iff_eq.mp z))];exact mD T C last h3 h1 'd' hL3 g (xG 'd')
 . rw[qg k0];have:k=0:=by omega
   subst this;exact mD T C last h' h1 'd' hL' g (xG 'd')
def wz(T:TC prog w A s κ n lt f){st st0:SortSt}(hk:kindOf st0=κ)(C:MgC n lt X Y)(last:∀x∈Y,∀y∈X.drop (X.length - 1),lt x y=true)(h:MgL lt X Y o ia ib)(h1:ia + 1 < X.length)(h2:ib < Y.length)(hL:L<=o.length)(g:Gs st0 st) :
 wpS (model prog w) A E s (YC (im f X) (im f Y) (im f o) ia ib mg ac bc) (aT lt f X Y L st0) st:=by
 unfold YC;refine qi (aS λst1 g1'=>?_);have g1:=g.trans g1';have hk1:kindOf st1=κ:=g1.1.trans hk;refine qi (Q0 (JQ h2) ?_);rw[JE];refine qi (ZO T hk1 (B:=λi=>lt (X.getD (ia + i) 0) (Y.getD ib 0)) 'd' (λi hi=>⟨_,JQ 'd',C.hx 'd',C.ne 'd' h2,rfl⟩) (C.hy h2) (λi j xK hj e=>T.O.trans _ _ _ (C.hx 'd') (C.hx 'd') (C.hy h2) (Qx C.sx 'd' 'd') e) λk hk1' hk2 hk3=>?_);dsimp only
 have cut:∀x∈(X.drop ia).take k,∀y∈Y.drop ib,lt x y=true:=λx hx=>by
  obtain⟨j,j1,j2,j3,rfl⟩:=aW hx;refine C.belowY T.O (C.hx j3) h2 ?_;have:=hk2 (j - ia) 'd'
  rwa [show ia + (j - ia)=j by omega]at this
 have h3:=h.takeA C.sx k cut;have hL3:L<=(o ++ (X.drop ia).take k).length:=by rw[jI];omega
 have xG:ia + k < X.length->∀y∈X.drop (ia + k),lt (Y.getD ib 0) y=true:=λhlt=>by
  refine C.belowX T.O (C.hy h2) hlt ?_;have:=hk3 k (jD _) 'd';exact T.O.conn _ _ (C.hx 'd') (C.hy h2) (C.ne 'd' h2) this
 by_cases k0:k > 0
 . rw[qh k0,mE]
   by_cases c1:ia + k + 1=X.length
   . rw[qh (beq_iff_eq.mpr c1)];have e:=Xr f (o ++ (X.drop ia).take k) Y X ib (ia + k);rw[JE,JE]at e;rw[JE,e];exact qj (.inl ⟨_,rfl,h3.last C.sx C.sy (by rw[show ia + k=X.length - 1 by omega];exact last),g1⟩)
   rw[qg (λz=>c1 (beq_iff_eq.mp z))]
   by_cases c2:ia + k=X.length
   . rw[qh (beq_iff_eq.mpr c2)];have e:=Xr f (o ++ (X.drop ia).take k) X Y (ia + k) ib;rw[JE,JE]at e;rw[JE,e];exact qj (.inl ⟨_,rfl,h3.done C.sx C.sy (.inl 'd'),g1⟩)
   . rw[qg (λz=>c2 (beq_iff_eq.mp z))];exact mF T hk1 C last h3 'd' h2 hL3 g1 (xG 'd')
 . rw[qg k0];have:k=0:=by omega
   subst this;exact mF T hk1 C last h h1 h2 hL g1 (xG 'd')
def wB(T:TC prog w A s κ n lt f){st:SortSt}(hk:kindOf st=κ)(C:MgC n lt X Y)(x0:0 < X.length)(y0:0 < Y.length)(first:∀y∈X,lt (Y.getD 0 0) y=true)(last:∀x∈Y,∀y∈X.drop (X.length - 1),lt x y=true)(h:∀Z xC,MgD lt X Y Z->Gs st xC->Q (im f Z) xC):wpS (model prog w) A E s (wv (im f X) (im f Y)) Q st:=by
 refine qi (ZP ?_);dsimp only;refine qi (Q0 (JQ y0) ?_);have e0:#[f (Y.getD 0 0)]=im f [Y.getD 0 0]:=rfl
 have h0:MgL lt X Y [Y.getD 0 0] 0 1:=by
  have:=(show MgL lt X Y [] 0 0 from⟨List.Perm.refl _,List.Pairwise.nil,λx hx=>nomatch hx⟩).takeB C.sy 1 (by rw[QR y0];intro x hx y hy;rw[jM.mp hx];exact first y hy);rw[QR y0]at this;exact this
 rw[e0]
 by_cases c1:1=Y.length
 . rw[qh (by rw[JE];exact beq_iff_eq.mpr c1)];refine qj ?_;rw[Xr];exact h _ _ (h0.done C.sx C.sy (.inr 'd')) (Gs.refl _)
 rw[qg (by rw[JE];exact λz=>c1 (beq_iff_eq.mp z))]
 by_cases c2:0 + 1=X.length
 . rw[qh (by rw[JE];exact beq_iff_eq.mpr c2)];refine qj ?_;rw[Xr];exact h _ _ (h0.last C.sx C.sy (by rw[show 0=X.length - 1 by omega];exact last)) (Gs.refl _)
 rw[qg (by rw[JE];exact λz=>c2 (beq_iff_eq.mp z))];refine qi (wpS_get ?_);have tot:(im f X).size + (im f Y).size=X.length + Y.length:=by rw[JE,JE]
 rw[tot];refine qi (qY (qV (I:=λx c xC=>c.1=none/\LoP lt f X Y (x + 1) st c.2.1 c.2.2.1 c.2.2.2.1 xC) (Q:=λc xC=>LoE lt f X Y st c.1 xC) ?_ ?_ ⟨rfl,_,rfl,h0,by show 0 + 1 < X.length;omega,by show 1 < Y.length;omega,jD _,Gs.refl _⟩) ?_)
 . intro x;refine LoP.on λo ia ib mg xC m1 m2 m3 m4 g=>?_;dsimp only;refine qi (qY (qV (I:=λy (c:Option (Array Keyed)×Array Keyed×Nat×Nat×Nat×Nat) xC=>c.1=none/\LoP lt f X Y (x + 1 + y) st c.2.1 c.2.2.1 c.2.2.2.1 xC) (Q:=λc xC=>LoE lt f X Y st c.1 xC\/(c.1=none/\LoP lt f X Y (x + 1 + 1) st c.2.1 c.2.2.1 c.2.2.2.1 xC)) ?_ ?_ ⟨rfl,o,rfl,m1,m2,m3,m4,g⟩) ?_)
   . intro y;refine LoP.on λo ia ib t xC m1 m2 m3 m4 g=>?_;dsimp only;refine qi (Q0 (JQ m3) ?_);refine qi (Q0 (JQ 'd') ?_);refine qi (YB T (g.1.trans hk) (C.hy m3) (C.hx 'd') (C.ne 'd' m3).symm ?_);dsimp only
     cases hw:lt (Y.getD ib 0) (X.getD ia 0) with
     | true =>
      rw[qh rfl];refine qi (Q0 (JQ m3) ?_)
      have h':MgL lt X Y (o ++ [Y.getD ib 0]) ia (ib + 1):=by
       have:=m1.takeB C.sy 1 (by rw[QR m3];intro x hx y hy;rw[jM.mp hx];exact C.belowX T.O (C.hy m3) 'd' hw y hy);rw[QR m3]at this;exact this
      have hL:(o ++ [Y.getD ib 0]).length=o.length + 1:=by rw[jI];rfl
      rw[Yz]
      by_cases d:ib + 1=Y.length
      . rw[qh (by rw[JE];exact beq_iff_eq.mpr d),Xr];exact qj (.inl ⟨_,rfl,h'.done C.sx C.sy (.inr 'd'),g⟩)
      rw[qg (by rw[JE];exact λz=>d (beq_iff_eq.mp z))];split
      . exact qj (.inr ⟨rfl,_,rfl,h',m2,by show ib + 1 < Y.length;omega,by omega,g⟩)
      . exact qj ⟨rfl,_,rfl,h',m2,by show ib + 1 < Y.length;omega,by omega,g⟩
     | false =>
      rw[qg 'f'];refine qi (Q0 (JQ 'd') ?_);have hw':=T.O.conn _ _ (C.hy m3) (C.hx 'd') (C.ne 'd' m3).symm hw
      have h':MgL lt X Y (o ++ [X.getD ia 0]) (ia + 1) ib:=by
       have:=m1.takeA C.sx 1 (by rw[QR 'd'];intro x hx y hy;rw[jM.mp hx];exact C.belowY T.O (C.hx 'd') m3 hw' y hy);rw[QR 'd']at this;exact this
      have hL:(o ++ [X.getD ia 0]).length=o.length + 1:=by rw[jI];rfl
      rw[Yz]
      by_cases d:ia + 1 + 1=X.length
      . rw[qh (by rw[JE];exact beq_iff_eq.mpr d),Xr];exact qj (.inl ⟨_,rfl,h'.last C.sx C.sy (by rw[show ia + 1=X.length - 1 by omega];exact last),g⟩)
      rw[qg (by rw[JE];exact λz=>d (beq_iff_eq.mp z))];split
      . exact qj (.inr ⟨rfl,_,rfl,h',by show ia + 1 + 1 < X.length;omega,m3,by omega,g⟩)
      . exact qj ⟨rfl,_,rfl,h',by show ia + 1 + 1 < X.length;omega,m3,by omega,g⟩
   . rintro⟨r,out,ia,ib,ac,bc⟩ xC ⟨rfl,o,rfl,m1,m2,m3,m4,g⟩;exact .inr ⟨rfl,o,rfl,m1,m2,m3,by omega,g⟩
   . refine LoQ.on (λZ t xC d g=>qj ⟨Z,rfl,d,g⟩) λo ia ib t xC m1 m2 m3 m4 g=>?_
     . skip
       dsimp only;refine qi (ZP ?_);refine qi (qY (qV (I:=λy (c:LoR) xC=>c.1=none/\LoP lt f X Y (x + 1 + 1) st c.2.1 c.2.2.1 c.2.2.2.1 xC) (Q:=LoQ lt f X Y (x + 1 + 1) st) ?_ ?_ ⟨rfl,o,rfl,m1,m2,m3,m4,g⟩) ?_)
       . intro y;refine LoP.on λo ia ib t xC m1 m2 m3 m4 g=>?_;obtain⟨mg,ac,bc⟩:=t;have hh:∀mg,wpS (model prog w) A E s (YC (im f X) (im f Y) (im f o) ia ib mg ac bc) (aT lt f X Y (x + 1 + 1) st) xC:=λmg=>wz T hk C last m1 m2 m3 m4 g
         by_cases c:mg > 1
         . refine Eq.mpr (qP (λm=>wpS (model prog w) A E s m _ xC) (qh c)) ?_;refine Eq.mpr (qP (λm=>wpS (model prog w) A E s m _ xC) (show _=YC (im f X) (im f Y) (im f o) ia ib (mg - 1) ac bc from by kernel_rfl)) ?_;exact qY (hh (mg - 1)) λa xC h=>by cases a<;>exact h
         . refine Eq.mpr (qP (λm=>wpS (model prog w) A E s m _ xC) (qg c)) ?_;refine Eq.mpr (qP (λm=>wpS (model prog w) A E s m _ xC) (show _=YC (im f X) (im f Y) (im f o) ia ib mg ac bc from by kernel_rfl)) ?_;exact qY (hh mg) λa xC h=>by cases a<;>exact h
       . rintro c xC ⟨e,hP⟩;exact .inr ⟨e,hP⟩
       . refine LoQ.on (λZ t xC d g=>qj ⟨Z,rfl,d,g⟩) λo ia ib t xC m1 m2 m3 m4 g=>?_
         . skip
           dsimp only;refine qi (aS λxJ g2=>?_);exact qj ⟨rfl,o,rfl,m1,m2,m3,m4,g.trans g2⟩
 . rintro⟨r,out,ia,ib,mg⟩ xC ⟨rfl,o,rfl,m1,m2,m3,m4,g⟩;have:=m1.len;omega
 . exact LoE.on λZ t xC d g=>qj (h Z xC d g)
end
section
variable {prog:J1}{w:J2}{A:J3}{E:xp}{s:xZ}{κ:SortKind}{n:Nat}{lt:Nat->Nat->Bool}{f:Nat->Keyed}
structure MgH (lt:Nat->Nat->Bool) (X Y r:xz) (na nb:Nat):Prop where
 pm:(X.take na ++ Y.take nb ++ r).Perm (X ++ Y)
 so:PwL lt r
 cr:∀x∈X.take na ++ Y.take nb,∀y∈r,lt x y=true
def mG(l:xz)(h:i<=j):l.take j=l.take i ++ (l.drop i).take (j - i):=by
 rw[<- List.take_add];congr 1;omega
def MgH.takeA(h:MgH lt X Y r na nb)(sx:PwL lt X)(hk:k<=na)(hc:∀x∈Y.take nb,∀y∈(X.drop k).take (na - k),lt x y=true):MgH lt X Y ((X.drop k).take (na - k) ++ r) k nb:=by
 have e:=mG X hk;have sd:PwL lt (X.take na):=sx.sublist (kC _ _);rw[e]at sd;have sd':=jg.mp sd;refine⟨?_,jg.mpr ⟨sd'.2.1,h.so,λx hx y hy=>h.cr x (jZ _ (by rw[e];exact jN _ hx)) y hy⟩,λx hx y hy=>?_⟩
 . refine List.Perm.trans ?_ h.pm;rw[e,<- jV];refine List.Perm.append_right _ ?_;rw[jV,jV];exact List.Perm.append_left _ List.perm_append_comm
 . rcases jO.mp hy with hy | hy
   . rcases jO.mp hx with hx | hx
     . exact sd'.2.2 x hx y hy
     . exact hc x hx y hy
   . refine h.cr x ?_ y hy;rw[e];rcases jO.mp hx with hx | hx
     . exact jZ _ (jZ _ hx)
     . exact jN _ hx
def MgH.takeB(h:MgH lt X Y r na nb)(sy:PwL lt Y)(hk:k<=nb)(hc:∀x∈X.take na,∀y∈(Y.drop k).take (nb - k),lt x y=true):MgH lt X Y ((Y.drop k).take (nb - k) ++ r) na k:=by
 have e:=mG Y hk;have sd:PwL lt (Y.take nb):=sy.sublist (kC _ _);rw[e]at sd;have sd':=jg.mp sd;refine⟨?_,jg.mpr ⟨sd'.2.1,h.so,λx hx y hy=>h.cr x (jN _ (by rw[e];exact jN _ hx)) y hy⟩,λx hx y hy=>?_⟩
 . refine List.Perm.trans (List.Perm.of_eq ?_) h.pm;rw[e];simp only[jV]
 . rcases jO.mp hy with hy | hy
   . rcases jO.mp hx with hx | hx
     . exact hc x hx y hy
     . exact sd'.2.2 x hx y hy
   . refine h.cr x ?_ y hy;rw[e];rcases jO.mp hx with hx | hx
     . exact jZ _ hx
     . exact jN _ (jZ _ hx)
def MgH.len(h:MgH lt X Y r na nb):r.length<=X.length + Y.length:=by
 have:=h.pm.length_eq;simp only[jI]at this;omega
def MgH.done(h:MgH lt X Y r na nb)(sx:PwL lt X)(sy:PwL lt Y)(hz:na=0\/nb=0):MgD lt X Y (X.take na ++ Y.take nb ++ r):=by
 refine⟨h.pm,jg.mpr ⟨?_,h.so,h.cr⟩⟩;rcases hz with z | z
 . subst z;rw[List.take_zero,List.nil_append];exact sy.sublist (kC _ _)
 . subst z;rw[List.take_zero,ju];exact sx.sublist (kC _ _)
def MgH.first(h:MgH lt X Y r na nb)(sx:PwL lt X)(sy:PwL lt Y)(hc:∀x∈Y.take nb,∀y∈X,lt x y=true):MgD lt X Y (Y.take nb ++ X.take na ++ r):=by
 refine⟨List.Perm.trans (List.Perm.append_right _ List.perm_append_comm) h.pm,jg.mpr ⟨jg.mpr ⟨sy.sublist (kC _ _),sx.sublist (kC _ _),λx hx y hy=>hc x hx y (jm hy)⟩,h.so,λx hx y hy=>h.cr x ?_ y hy⟩⟩;rcases jO.mp hx with z | z
 . exact jN _ z
 . exact jZ _ z
def Xs(f:Nat->Keyed)(r X Y:xz)(na nb:Nat):(im f X).extract 0 na ++ (im f Y).extract 0 nb ++ (im f r.reverse).reverse=im f (X.take na ++ Y.take nb ++ r):=by
 rw[XW,XW,mB,ZN,ZN,List.reverse_reverse,kO,kO,qG,qG]
def aX(f:Nat->Keyed)(r:xz)(x:Nat):(im f r.reverse).push (f x)=im f (x :: r).reverse:=by
 rw[Yz,List.reverse_cons]
def mH(f:Nat->Keyed)(r X:xz)(i j:Nat):im f r.reverse ++ ((im f X).extract i j).reverse=im f ((X.drop i).take (j - i) ++ r).reverse:=by
 rw[XW,mB,ZN,List.reverse_append]
def HiP(lt:Nat->Nat->Bool)(f:Nat->Keyed)(X Y:xz)(L:Nat)(st:SortSt)(na nb:Nat)(out:Array Keyed)(xC:SortSt):Prop:=∃r,out=im f r.reverse/\MgH lt X Y r na nb/\0 < na/\na<=X.length/\1 < nb/\nb<=Y.length/\L<=r.length/\Gs st xC
abbrev HiR:=Option (Array Keyed)×Nat×Nat×Array Keyed×Nat×Nat×Nat
def HiQ(lt:Nat->Nat->Bool)(f:Nat->Keyed)(X Y:xz)(L:Nat)(st:SortSt)(c:HiR)(xC:SortSt):Prop:=LoE lt f X Y st c.1 xC\/(c.1=none/\HiP lt f X Y L st c.2.1 c.2.2.1 c.2.2.2.1 xC)
def aY(lt:Nat->Nat->Bool)(f:Nat->Keyed)(X Y:xz)(L:Nat)(st:SortSt)(r:ForInStep HiR)(xC:SortSt):Prop:=match r with | .done c=>HiQ lt f X Y L st c xC | .yield c=>c.1=none/\HiP lt f X Y L st c.2.1 c.2.2.1 c.2.2.2.1 xC
def HiP.on{pa pb:Prop}{X Y:xz}{L:Nat}{st:SortSt}{τ:Type}{G:Option (Array Keyed)×Nat×Nat×Array Keyed×τ->SortSt->Prop}
 (k:∀o na nb t xC,MgH lt X Y o na nb->0 < na->na<=X.length->1 < nb->nb<=Y.length->L<=o.length->Gs st xC->G (none,na,nb,im f o.reverse,t) xC):∀c xC,pa->pb->(c.1=none/\HiP lt f X Y L st c.2.1 c.2.2.1 c.2.2.2.1 xC)->G c xC:=by
 rintro⟨r,na,nb,out,t⟩ xC _ _ ⟨e,o,e2,m1,m2,m2',m3,m3',m4,g⟩;dsimp only at e e2 m1 m2 m2' m3 m3';subst e e2;exact k o na nb t xC m1 m2 m2' m3 m3' m4 g
theorem HiQ.on{st:SortSt}{τ:Type}{G:Option (Array Keyed)×Nat×Nat×Array Keyed×τ->SortSt->Prop}(k1:∀Z t xC,MgD lt X Y Z->Gs st xC->G (some (im f Z),t) xC)
 (k:∀o na nb t xC,MgH lt X Y o na nb->0 < na->na<=X.length->1 < nb->nb<=Y.length->L<=o.length->Gs st xC->G (none,na,nb,im f o.reverse,t) xC):∀c xC,(LoE lt f X Y st c.1 xC\/(c.1=none/\HiP lt f X Y L st c.2.1 c.2.2.1 c.2.2.2.1 xC))->G c xC :=
 λc xC h=>h.elim (LoE.on k1 c xC) (HiP.on k c xC trivial trivial)
def aZ(a b out:Array Keyed)(na nb mg ac bc:Nat):StateT SortSt Sem (ForInStep HiR):=do
 let x <- elem' a (na - 1)
 if na - 1 == 0 then pure (.done (some (a.extract 0 (na - 1) ++ b.extract 0 nb ++ (out.push x).reverse),na - 1,nb,out.push x,mg,ac,bc))
 else if (decide (ac < 7) && decide (bc < 7))=true then pure (.done (none,na - 1,nb,out.push x,mg,ac,bc))
 else pure (.yield (none,na - 1,nb,out.push x,mg,ac,bc))
def b4(a b out:Array Keyed)(na nb mg ac bc:Nat):StateT SortSt Sem (ForInStep HiR):=do
 let y <- elem' b (nb - 1)
 if nb - 1 == 1 then pure (.done (some (b.extract 0 (nb - 1) ++ a.extract 0 na ++ (out.push y).reverse),na,nb - 1,out.push y,mg,ac,bc))
 else do
  let x <- elem' a (na - 1)
  let some at_ <- YA true x b 0 (nb - 1) (nb - 1 - 1) | pure (.done (some (a.extract 0 na ++ b.extract 0 (nb - 1) ++ (out.push y).reverse),na,nb - 1,out.push y,mg,ac,bc))
  if nb - 1 - at_ > 0 then
   if at_ == 1 then pure (.done (some (b.extract 0 at_ ++ a.extract 0 na ++ (out.push y ++ (b.extract at_ (nb - 1)).reverse).reverse),na,at_,out.push y ++ (b.extract at_ (nb - 1)).reverse,mg,ac,nb - 1 - at_))
   else if at_ == 0 then pure (.done (some (a.extract 0 na ++ b.extract 0 at_ ++ (out.push y ++ (b.extract at_ (nb - 1)).reverse).reverse),na,at_,out.push y ++ (b.extract at_ (nb - 1)).reverse,mg,ac,nb - 1 - at_))
   else aZ a b (out.push y ++ (b.extract at_ (nb - 1)).reverse) na at_ mg ac (nb - 1 - at_)
  else aZ a b (out.push y) na (nb - 1) mg ac (nb - 1 - at_)
def YE(a b out:Array Keyed)(na nb mg ac bc:Nat):StateT SortSt Sem (ForInStep HiR):=do
 aR mg
 let y <- elem' b (nb - 1)
 let some at_ <- YA false y a 0 na (na - 1) | pure (.done (some (a.extract 0 na ++ b.extract 0 nb ++ out.reverse),na,nb,out,mg,ac,bc))
 if na - at_ > 0 then
  if at_ == 0 then pure (.done (some (a.extract 0 at_ ++ b.extract 0 nb ++ (out ++ (a.extract at_ na).reverse).reverse),at_,nb,out ++ (a.extract at_ na).reverse,mg,na - at_,bc))
  else b4 a b (out ++ (a.extract at_ na).reverse) at_ nb mg (na - at_) bc
 else b4 a b out na nb mg (na - at_) bc
def ZR{l:xz}{i x:Nat}(h:x∈l.take i):∃j,j < i/\j < l.length/\x=l.getD j 0:=by
 obtain⟨j,hj⟩:=qC.mp h;have h1:=(jJ.mp hj).1;rw[jT]at h1;rw[kf 'd']at hj;exact⟨j,by omega,by omega,by rw[jE,hj];rfl⟩
def MgC.aboveY(h:MgC n lt X Y)(O:SOrd n lt)(hx:x < n)(h0:0 < nb)(hib:nb<=Y.length)(e:lt (Y.getD (nb - 1) 0) x=true):∀y∈Y.take nb,lt y x=true:=λy hy=>by
 obtain⟨j,h1,h2,rfl⟩:=ZR hy;rcases Nat.lt_or_ge j (nb - 1) with z | z
 . exact O.trans _ _ _ (h.hy h2) (h.hy 'd') hx (Qx h.sy z 'd') e
 . rw[show j=nb - 1 by omega];exact e
def MgC.aboveX(h:MgC n lt X Y)(O:SOrd n lt)(hx:x < n)(h0:0 < na)(hia:na<=X.length)(e:lt (X.getD (na - 1) 0) x=true):∀y∈X.take na,lt y x=true:=λy hy=>by
 obtain⟨j,h1,h2,rfl⟩:=ZR hy;rcases Nat.lt_or_ge j (na - 1) with z | z
 . exact O.trans _ _ _ (h.hx h2) (h.hx 'd') hx (Qx h.sx z 'd') e
 . rw[show j=na - 1 by omega];exact e
def X5{l:xz}{i:Nat}(h0:0 < i)(h:i<=l.length):(l.drop (i - 1)).take (i - (i - 1))=[l.getD (i - 1) 0]:=by
 rw[show i - (i - 1)=1 by omega];exact QR 'd'
def b5{X Y:xz}(first:∀y∈X,lt (Y.getD 0 0) y=true){nb:Nat}(h:nb=1):∀x∈Y.take nb,∀y∈X,lt x y=true:=λx hx y hy=>by
 obtain⟨j,h1,_,rfl⟩:=ZR hx;rw[show j=0 by omega];exact first y hy
def mI(T:TC prog w A s κ n lt f){st st0:SortSt}(C:MgC n lt X Y)(h:MgH lt X Y r na nb)(h1:0 < na)(h1':na<=X.length)(h2:1 < nb)(h2':nb<=Y.length)(hL:L<=r.length)(g:Gs st0 st)(hc:∀x∈Y.take nb,lt x (X.getD (na - 1) 0)=true) :
 wpS (model prog w) A E s (aZ (im f X) (im f Y) (im f r.reverse) na nb mg ac bc) (aY lt f X Y L st0) st:=by
 unfold aZ;refine qi (Q0 (JQ 'd') ?_)
 have h':MgH lt X Y (X.getD (na - 1) 0 :: r) (na - 1) nb:=by
  have:=h.takeA C.sx (k:=na - 1) 'd' (by rw[X5 h1 h1'];intro x hx y hy;rw[jM.mp hy];exact hc x hx);rw[X5 h1 h1']at this;exact this
 have hL':L<=(X.getD (na - 1) 0 :: r).length:=by rw[jP];omega
 rw[aX]
 by_cases c:na - 1=0
 . rw[qh (beq_iff_eq.mpr c),Xs];exact qj (.inl ⟨_,rfl,h'.done C.sx C.sy (.inl c),g⟩)
 . rw[qg (λz=>c (beq_iff_eq.mp z))];have P:HiP lt f X Y L st0 (na - 1) nb (im f (X.getD (na - 1) 0 :: r).reverse) st:=⟨_,rfl,h',by omega,by omega,h2,h2',hL',g⟩;split
   . exact qj (.inr ⟨rfl,P⟩)
   . exact qj ⟨rfl,P⟩
def mJ(T:TC prog w A s κ n lt f){st st0:SortSt}(hk:kindOf st=κ)(C:MgC n lt X Y)(first:∀y∈X,lt (Y.getD 0 0) y=true)(h:MgH lt X Y r na nb)(h1:0 < na)(h1':na<=X.length)(h2:1 < nb)(h2':nb<=Y.length)(hL:L<=r.length)(g:Gs st0 st)(hc:∀x∈X.take na,lt x (Y.getD (nb - 1) 0)=true) :
 wpS (model prog w) A E s (b4 (im f X) (im f Y) (im f r.reverse) na nb mg ac bc) (aY lt f X Y L st0) st:=by
 unfold b4;refine qi (Q0 (JQ 'd') ?_)
 have h':MgH lt X Y (Y.getD (nb - 1) 0 :: r) na (nb - 1):=by
  have:=h.takeB C.sy (k:=nb - 1) 'd' (by rw[X5 'd' h2'];intro x hx y hy;rw[jM.mp hy];exact hc x hx);rw[X5 'd' h2']at this;exact this
 have hL':L<=(Y.getD (nb - 1) 0 :: r).length:=by rw[jP];omega
 rw[aX]
 by_cases c:nb - 1=1
 . rw[qh (beq_iff_eq.mpr c),Xs];exact qj (.inl ⟨_,rfl,h'.first C.sx C.sy (b5 first c),g⟩)
 rw[qg (λz=>c (beq_iff_eq.mp z))];refine qi (Q0 (JQ 'd') ?_);refine qi (ZO T hk (B:=λi=>lt (Y.getD (0 + i) 0) (X.getD (na - 1) 0)) 'd' (λi hi=>⟨_,JQ 'd',C.hy 'd',(C.ne 'd' 'd').symm,rfl⟩) (C.hx 'd') (λi j xK hj e=>T.O.trans _ _ _ (C.hy 'd') (C.hy 'd') (C.hx 'd') (Qx C.sy 'd' 'd') e) λk hk1 hk2 hk3=>?_);dsimp only
 have up:∀i,k<=i->i < nb - 1->lt (X.getD (na - 1) 0) (Y.getD i 0)=true:=λi i1 i2=>by
  have:=hk3 i i1 i2;rw[Nat.zero_add]at this;exact T.O.conn _ _ (C.hy 'd') (C.hx 'd') (C.ne 'd' 'd').symm this
 have cut:∀x∈X.take na,∀y∈(Y.drop k).take (nb - 1 - k),lt x y=true:=λx hx y hy=>by
  obtain⟨j,j1,j2,j3,rfl⟩:=aW hy;exact C.aboveX T.O (C.hy j3) h1 h1' (up j j1 'd') x hx
 have h3:=h'.takeB C.sy hk1 cut;have hL3:L<=((Y.drop k).take (nb - 1 - k) ++ Y.getD (nb - 1) 0 :: r).length:=by rw[jI];omega
 have xG:0 < k->∀x∈Y.take k,lt x (X.getD (na - 1) 0)=true:=λk0=>by
  refine C.aboveY T.O (C.hx 'd') k0 'd' ?_;have:=hk2 (k - 1) 'd'
  rwa [Nat.zero_add]at this
 by_cases k0:nb - 1 - k > 0
 . rw[qh k0,mH]
   by_cases c1:k=1
   . rw[qh (beq_iff_eq.mpr c1),Xs];exact qj (.inl ⟨_,rfl,h3.first C.sx C.sy (b5 first c1),g⟩)
   rw[qg (λz=>c1 (beq_iff_eq.mp z))]
   by_cases c2:k=0
   . rw[qh (beq_iff_eq.mpr c2),Xs];exact qj (.inl ⟨_,rfl,h3.done C.sx C.sy (.inr c2),g⟩)
   rw[qg (λz=>c2 (beq_iff_eq.mp z))];exact mI T C h3 h1 h1' 'd' 'd' hL3 g (xG 'd')
 . rw[qg k0];have:k=nb - 1:=by omega
   subst this;exact mI T C h' h1 h1' 'd' 'd' hL' g (xG 'd')
def wC(T:TC prog w A s κ n lt f){st st0:SortSt}(hk:kindOf st0=κ)(C:MgC n lt X Y)(first:∀y∈X,lt (Y.getD 0 0) y=true)(h:MgH lt X Y r na nb)(h1:0 < na)(h1':na<=X.length)(h2:1 < nb)(h2':nb<=Y.length)(hL:L<=r.length)(g:Gs st0 st) :
 wpS (model prog w) A E s (YE (im f X) (im f Y) (im f r.reverse) na nb mg ac bc) (aY lt f X Y L st0) st:=by
 unfold YE;refine qi (aS λst1 g1'=>?_);have g1:=g.trans g1';have hk1:kindOf st1=κ:=g1.1.trans hk;refine qi (Q0 (JQ 'd') ?_);refine qi (ZO T hk1 (B:=λi=>lt (X.getD (0 + i) 0) (Y.getD (nb - 1) 0)) 'd' (λi hi=>⟨_,JQ 'd',C.hx 'd',C.ne 'd' 'd',rfl⟩) (C.hy 'd') (λi j xK hj e=>T.O.trans _ _ _ (C.hx 'd') (C.hx 'd') (C.hy 'd') (Qx C.sx 'd' 'd') e) λk hk1' hk2 hk3=>?_);dsimp only
 have up:∀i,k<=i->i < na->lt (Y.getD (nb - 1) 0) (X.getD i 0)=true:=λi i1 i2=>by
  have:=hk3 i i1 i2;rw[Nat.zero_add]at this;exact T.O.conn _ _ (C.hx 'd') (C.hy 'd') (C.ne 'd' 'd') this
 have cut:∀x∈Y.take nb,∀y∈(X.drop k).take (na - k),lt x y=true:=λx hx y hy=>by
  obtain⟨j,j1,j2,j3,rfl⟩:=aW hy;exact C.aboveY T.O (C.hx j3) 'd' h2' (up j j1 'd') x hx
 have h3:=h.takeA C.sx hk1' cut;have hL3:L<=((X.drop k).take (na - k) ++ r).length:=by rw[jI];omega
 have xG:0 < k->∀x∈X.take k,lt x (Y.getD (nb - 1) 0)=true:=λk0=>by
  refine C.aboveX T.O (C.hy 'd') k0 'd' ?_;have:=hk2 (k - 1) 'd'
  rwa [Nat.zero_add]at this
 by_cases k0:na - k > 0
 . rw[qh k0,mH]
   by_cases c1:k=0
   . rw[qh (beq_iff_eq.mpr c1),Xs];exact qj (.inl ⟨_,rfl,h3.done C.sx C.sy (.inl c1),g1⟩)
   rw[qg (λz=>c1 (beq_iff_eq.mp z))];exact mJ T hk1 C first h3 'd' 'd' h2 h2' hL3 g1 (xG 'd')
 . rw[qg k0];have:k=na:=by omega
   subst this;exact mJ T hk1 C first h h1 h1' h2 h2' hL g1 (xG 'd')
def wD(T:TC prog w A s κ n lt f){st:SortSt}(hk:kindOf st=κ)(C:MgC n lt X Y)(x0:0 < X.length)(y0:0 < Y.length)(first:∀y∈X,lt (Y.getD 0 0) y=true)(last:∀x∈Y,lt x (X.getD (X.length - 1) 0)=true)(h:∀Z xC,MgD lt X Y Z->Gs st xC->Q (im f Z) xC):wpS (model prog w) A E s (ww (im f X) (im f Y)) Q st:=by
 refine qi (ZP ?_);dsimp only;have ez:(im f X).size - 1=X.length - 1:=by rw[JE]
 have ey:(im f Y).size=Y.length:=JE f Y;have ex:(im f X).size=X.length:=JE f X;rw[ez,ey];refine qi (Q0 (JQ 'd') ?_);have e0:#[f (X.getD (X.length - 1) 0)]=im f [X.getD (X.length - 1) 0].reverse:=rfl;have hs:MgH lt X Y [] X.length Y.length:=⟨by rw[jk,jk,ju],List.Pairwise.nil,λx _ y hy=>nomatch hy⟩
 have h0:MgH lt X Y [X.getD (X.length - 1) 0] (X.length - 1) Y.length:=by
  have:=hs.takeA C.sx (k:=X.length - 1) 'd' (by rw[X5 x0 (jD _)];intro x hx y hy;rw[jM.mp hy];exact last x (jm hx));rw[X5 x0 (jD _)]at this;exact this
 rw[e0]
 by_cases c1:X.length - 1=0
 . rw[qh (beq_iff_eq.mpr c1)];refine qj ?_;rw[Xs];exact h _ _ (h0.done C.sx C.sy (.inl c1)) (Gs.refl _)
 rw[qg (λz=>c1 (beq_iff_eq.mp z))]
 by_cases c2:Y.length=1
 . rw[qh (beq_iff_eq.mpr c2)];refine qj ?_;rw[Xs];exact h _ _ (h0.first C.sx C.sy (b5 first c2)) (Gs.refl _)
 rw[qg (λz=>c2 (beq_iff_eq.mp z))];refine qi (wpS_get ?_);rw[ex];refine qi (qY (qV (I:=λx c xC=>c.1=none/\HiP lt f X Y (x + 1) st c.2.1 c.2.2.1 c.2.2.2.1 xC) (Q:=λc xC=>LoE lt f X Y st c.1 xC) ?_ ?_ ⟨rfl,_,rfl,h0,by show 0 < X.length - 1;omega,by show X.length - 1<=X.length;omega,by show 1 < Y.length;omega,jD _,jD _,Gs.refl _⟩) ?_)
 . intro x;refine HiP.on λo na nb mg xC m1 m2 m2' m3 m3' m4 g=>?_;dsimp only;refine qi (qY (qV (I:=λy (c:Option (Array Keyed)×Nat×Nat×Array Keyed×Nat×Nat) xC=>c.1=none/\HiP lt f X Y (x + 1 + y) st c.2.1 c.2.2.1 c.2.2.2.1 xC) (Q:=λc xC=>LoE lt f X Y st c.1 xC\/(c.1=none/\HiP lt f X Y (x + 1 + 1) st c.2.1 c.2.2.1 c.2.2.2.1 xC)) ?_ ?_ ⟨rfl,o,rfl,m1,m2,m2',m3,m3',m4,g⟩) ?_)
   . intro y;refine HiP.on λo na nb t xC m1 m2 m2' m3 m3' m4 g=>?_;dsimp only;refine qi (Q0 (JQ 'd') ?_);refine qi (Q0 (JQ 'd') ?_);refine qi (YB T (g.1.trans hk) (C.hy 'd') (C.hx 'd') (C.ne 'd' 'd').symm ?_);dsimp only
     cases hw:lt (Y.getD (nb - 1) 0) (X.getD (na - 1) 0) with
     | true =>
      rw[qh rfl];refine qi (Q0 (JQ 'd') ?_)
      have h':MgH lt X Y (X.getD (na - 1) 0 :: o) (na - 1) nb:=by
       have:=m1.takeA C.sx (k:=na - 1) 'd' (by rw[X5 m2 m2'];intro x hx y hy;rw[jM.mp hy];exact C.aboveY T.O (C.hx 'd') 'd' m3' hw x hx);rw[X5 m2 m2']at this;exact this
      have hL:(X.getD (na - 1) 0 :: o).length=o.length + 1:=rfl;rw[aX]
      by_cases d:na - 1=0
      . rw[qh (beq_iff_eq.mpr d),Xs];exact qj (.inl ⟨_,rfl,h'.done C.sx C.sy (.inl d),g⟩)
      rw[qg (λz=>d (beq_iff_eq.mp z))];split
      . exact qj (.inr ⟨rfl,_,rfl,h',by show 0 < na - 1;omega,by show na - 1<=_;omega,m3,m3',by omega,g⟩)
      . exact qj ⟨rfl,_,rfl,h',by show 0 < na - 1;omega,by show na - 1<=_;omega,m3,m3',by omega,g⟩
     | false =>
      rw[qg 'f'];refine qi (Q0 (JQ 'd') ?_);have hw':=T.O.conn _ _ (C.hy 'd') (C.hx 'd') (C.ne 'd' 'd').symm hw
      have h':MgH lt X Y (Y.getD (nb - 1) 0 :: o) na (nb - 1):=by
       have:=m1.takeB C.sy (k:=nb - 1) 'd' (by rw[X5 'd' m3'];intro x hx y hy;rw[jM.mp hy];exact C.aboveX T.O (C.hy 'd') m2 m2' hw' x hx);rw[X5 'd' m3']at this;exact this
      have hL:(Y.getD (nb - 1) 0 :: o).length=o.length + 1:=rfl;rw[aX]
      by_cases d:nb - 1=1
      . rw[qh (beq_iff_eq.mpr d),Xs];exact qj (.inl ⟨_,rfl,h'.first C.sx C.sy (b5 first d),g⟩)
      rw[qg (λz=>d (beq_iff_eq.mp z))];split
      . exact qj (.inr ⟨rfl,_,rfl,h',m2,m2',by show 1 < nb - 1;omega,by show nb - 1<=_;omega,by omega,g⟩)
      . exact qj ⟨rfl,_,rfl,h',m2,m2',by show 1 < nb - 1;omega,by show nb - 1<=_;omega,by omega,g⟩
   . rintro⟨r,na,nb,out,ac,bc⟩ xC ⟨rfl,o,rfl,m1,m2,m2',m3,m3',m4,g⟩;exact .inr ⟨rfl,o,rfl,m1,m2,m2',m3,m3',by omega,g⟩
   . refine HiQ.on (λZ t xC d g=>qj ⟨Z,rfl,d,g⟩) λo na nb t xC m1 m2 m2' m3 m3' m4 g=>?_
     . skip
       dsimp only;refine qi (ZP ?_);refine qi (qY (qV (I:=λy (c:HiR) xC=>c.1=none/\HiP lt f X Y (x + 1 + 1) st c.2.1 c.2.2.1 c.2.2.2.1 xC) (Q:=HiQ lt f X Y (x + 1 + 1) st) ?_ ?_ ⟨rfl,o,rfl,m1,m2,m2',m3,m3',m4,g⟩) ?_)
       . intro y;refine HiP.on λo na nb t xC m1 m2 m2' m3 m3' m4 g=>?_;obtain⟨mg,ac,bc⟩:=t;have hh:∀mg,wpS (model prog w) A E s (YE (im f X) (im f Y) (im f o.reverse) na nb mg ac bc) (aY lt f X Y (x + 1 + 1) st) xC:=λmg=>wC T hk C first m1 m2 m2' m3 m3' m4 g
         by_cases c:mg > 1
         . refine Eq.mpr (qP (λm=>wpS (model prog w) A E s m _ xC) (qh c)) ?_;refine Eq.mpr (qP (λm=>wpS (model prog w) A E s m _ xC) (show _=YE (im f X) (im f Y) (im f o.reverse) na nb (mg - 1) ac bc from by kernel_rfl)) ?_;exact qY (hh (mg - 1)) λa xC h=>by cases a<;>exact h
         . refine Eq.mpr (qP (λm=>wpS (model prog w) A E s m _ xC) (qg c)) ?_;refine Eq.mpr (qP (λm=>wpS (model prog w) A E s m _ xC) (show _=YE (im f X) (im f Y) (im f o.reverse) na nb mg ac bc from by kernel_rfl)) ?_;exact qY (hh mg) λa xC h=>by cases a<;>exact h
       . rintro c xC ⟨e,hP⟩;exact .inr ⟨e,hP⟩
       . refine HiQ.on (λZ t xC d g=>qj ⟨Z,rfl,d,g⟩) λo na nb t xC m1 m2 m2' m3 m3' m4 g=>?_
         . skip
           dsimp only;refine qi (aS λxJ g2=>?_);exact qj ⟨rfl,o,rfl,m1,m2,m2',m3,m3',m4,g.trans g2⟩
 . rintro⟨r,na,nb,out,mg⟩ xC ⟨rfl,o,rfl,m1,m2,m2',m3,m3',m4,g⟩;have:=m1.len;omega
 . exact LoE.on λZ t xC d g=>qj (h Z xC d g)
end
section
variable {prog:J1}{w:J2}{A:J3}{E:xp}{s:xZ}{κ:SortKind}{n:Nat}{lt:Nat->Nat->Bool}{f:Nat->Keyed}
theorem mK(f:Nat->Keyed)(b:Nat):∀(Z M P S:xz) (k:Nat),M.length=Z.length->P.length=b + k->((Z.map f).zipIdx k).foldl (λa (x:Keyed×Nat)=>a.setIfInBounds (b + x.2) x.1) (im f (P ++ (M ++ S)))=im f (P ++ (Z ++ S))
 | [],M,P,S,k,h1,h2=>by
  have:M=[]:=List.eq_nil_of_length_eq_zero h1;subst this;rfl
 | z :: Z,[],P,S,k,h1,h2=>by simp at h1
 | z :: Z,m :: M,P,S,k,h1,h2=>by
  show((Z.map f).zipIdx (k + 1)).foldl _ ((im f (P ++ (m :: M ++ S))).setIfInBounds (b + k) (f z))=_
  have e:(im f (P ++ (m :: M ++ S))).setIfInBounds (b + k) (f z)=im f ((P ++ [z]) ++ (M ++ S)):=by
   unfold im;rw[<- h2];apply Array.toList_inj.mp;rw[Array.toList_setIfInBounds];simp[List.set_append]
  rw[e,mK f b Z M (P ++ [z]) S (k + 1) (by simpa using h1) (by rw[jI];simp;omega)];simp
def wE{σ:Type}{st xC:σ}{Q:PUnit->σ->Prop}{M:Model}(h:Q ⟨⟩ xC):wpS M A E s (set xC:StateT σ Sem PUnit) Q st:=by
 unfold wpS;rw[StateT.run_set];exact qf ⟨rfl,h⟩
def eP{P X R:xz}{i:Nat}(h:i < X.length):(P ++ (X ++ R))[P.length + i]? = some (X.getD i 0):=by
 rw[jw 'd',Nat.add_sub_cancel_left,kW h];exact JQ h
def mL{P X Y R:xz}{i:Nat}(h:i < Y.length):(P ++ (X ++ (Y ++ R)))[P.length + X.length + i]? = some (Y.getD i 0):=by
 rw[<- jV,<- jI];exact eP h
def wF(l:xz)(k i:Nat):(l.drop k).getD i 0=l.getD (k + i) 0:=by
 rw[jE,List.getElem?_drop,<- jE]
def wG{l:xz}{k i:Nat}(h:i < k):(l.take k).getD i 0=l.getD i 0:=by
 rw[jE,kf h,<- jE]
def wH(T:TC prog w A s κ n lt f){st:SortSt}(hk:kindOf st=κ)(hf:failedOf st=none)(ha:arrOf st=im f (P ++ (X ++ (Y ++ S))))(C:MgC n lt X Y)(x0:0 < X.length)(y0:0 < Y.length)
 (e1:(pendingOf st)[i]? = some (P.length,X.length,pw)) (e2:(pendingOf st)[i + 1]? = some (P.length + X.length,Y.length,pw2))
 (h:∀(Z:xz) (xC:SortSt),MgD lt X Y Z->kindOf xC=κ->arrOf xC=im f (P ++ (Z ++ S))->failedOf xC=none->pendingOf xC=((pendingOf st).setIfInBounds i (P.length,X.length + Y.length,pw)).eraseIdxIfInBounds (i + 1)->Q true xC):wpS (model prog w) A E s (mergeAt' i) Q st:=by
 refine qi (wpS_get ?_);rw[e1,e2];dsimp only;refine qi (wE ?_);obtain⟨st1,est1⟩:∃st1,st1=SortSt.mk' (kindOf st) (arrOf st) (((pendingOf st).setIfInBounds i (P.length,X.length + Y.length,pw)).eraseIdxIfInBounds (i + 1)) (gallopOf st) (failedOf st):=⟨_,rfl⟩;have k1:kindOf st1=κ:=by rw[est1];exact hk
 have a1:arrOf st1=im f (P ++ (X ++ (Y ++ S))):=by rw[est1];exact ha
 have f1:failedOf st1=none:=by rw[est1];exact hf
 have p1:pendingOf st1=((pendingOf st).setIfInBounds i (P.length,X.length + Y.length,pw)).eraseIdxIfInBounds (i + 1):=by rw[est1]
 change wpS (model prog w) A E s _ Q (SortSt.mk' (kindOf st) (arrOf st) (((pendingOf st).setIfInBounds i (P.length,X.length + Y.length,pw)).eraseIdxIfInBounds (i + 1)) (gallopOf st) (failedOf st))
 rw[<- est1];have ha':=ha;unfold arrOf at ha';rw[ha']
 have ey0:(P ++ (X ++ (Y ++ S)))[P.length + X.length]? = some (Y.getD 0 0):=by
  have:=mL (P:=P) (X:=X) (R:=S) y0
  rwa [Nat.add_zero]at this
 refine qi (Q0 ey0 ?_);refine qi (ZO T k1 (B:=λi=>lt (X.getD i 0) (Y.getD 0 0)) x0 (λi hi=>⟨_,eP hi,C.hx hi,C.ne hi y0,rfl⟩) (C.hy y0) (λi j xK hj e=>T.O.trans _ _ _ (C.hx 'd') (C.hx hj) (C.hy y0) (Qx C.sx xK hj) e) λk hk1 hk2 hk3=>?_);dsimp only;have plain:(∀x∈X,∀y∈Y,lt x y=true)->Q true st1:=λc=>h (X ++ Y) st1 ⟨List.Perm.refl _,jg.mpr ⟨C.sx,C.sy,c⟩⟩ k1 (by rw[a1,jV]) f1 p1
 by_cases c0:X.length - k=0
 . rw[qh (beq_iff_eq.mpr c0)];refine qj (plain λx hx y hy=>?_)
   obtain⟨j,j2,rfl⟩:∃j,j < X.length/\x=X.getD j 0:=by
    obtain⟨j,hj⟩:=qC.mp hx;exact⟨j,(jJ.mp hj).1,by rw[jE,hj];rfl⟩
   exact C.belowY T.O (C.hx j2) y0 (hk2 j 'd') y (by rw[kO];exact hy)
 rw[qg (λz=>c0 (beq_iff_eq.mp z))];have klt:k < X.length:=by omega
 have elast:(P ++ (X ++ (Y ++ S)))[P.length + k + (X.length - k) - 1]? = some (X.getD (X.length - 1) 0):=by
  rw[show P.length + k + (X.length - k) - 1=P.length + (X.length - 1) by omega];exact eP 'd'
 refine qi (Q0 elast ?_);refine qi (ZO T k1 (B:=λi=>lt (Y.getD i 0) (X.getD (X.length - 1) 0)) 'd' (λi hi=>⟨_,mL hi,C.hy hi,(C.ne 'd' hi).symm,rfl⟩) (C.hx 'd') (λi j xK hj e=>T.O.trans _ _ _ (C.hy 'd') (C.hy hj) (C.hx 'd') (Qx C.sy xK hj) e) λm hm1 hm2 hm3=>?_);dsimp only
 have above:∀j,m<=j->j < Y.length->∀x∈X,lt x (Y.getD j 0)=true:=λj j1 j2 x hx=>by
  have:=T.O.conn _ _ (C.hy j2) (C.hx 'd') (C.ne 'd' j2).symm (hm3 j j1 j2);exact C.aboveX T.O (C.hy j2) x0 (jD _) this x (by rw[jk];exact hx)
 by_cases c1:m=0
 . rw[qh (beq_iff_eq.mpr c1)];refine qj (plain λx hx y hy=>?_);obtain⟨j,j1,j2,rfl⟩:=ZQ (l:=Y) (i:=0) (by rw[kO];exact hy);exact above j 'd' j2 x hx
 rw[qg (λz=>c1 (beq_iff_eq.mp z))]
 have exX:(im f (P ++ (X ++ (Y ++ S)))).extract (P.length + k) (P.length + X.length)=im f (X.drop k):=by
  rw[XW];congr 1;rw[<- List.drop_drop,List.drop_left,List.drop_append_of_le_length 'd',show P.length + X.length - (P.length + k)=(X.drop k).length by rw[jr];omega,List.take_left]
 have exY:(im f (P ++ (X ++ (Y ++ S)))).extract (P.length + X.length) (P.length + X.length + m)=im f (Y.take m):=by
  rw[XW];congr 1;rw[<- List.drop_drop,List.drop_left,List.drop_left,Nat.add_sub_cancel_left,ki hm1]
 have C':MgC n lt (X.drop k) (Y.take m):=by
  have sub:((X.drop k) ++ (Y.take m)).Sublist (X ++ Y):=(kH _ _).append (kC _ _);exact⟨λx hx=>C.hn x (sub.subset hx),C.nd.sublist sub,C.sx.sublist (kH _ _),C.sy.sublist (kC _ _)⟩
 have x0':0 < (X.drop k).length:=by rw[jr];omega
 have y0':0 < (Y.take m).length:=by rw[jT];omega
 have firstL:∀y∈X.drop k,lt ((Y.take m).getD 0 0) y=true:=λy hy=>by
  rw[wG 'd'];exact C.belowX T.O (C.hy y0) klt (T.O.conn _ _ (C.hx klt) (C.hy y0) (C.ne klt y0) (hk3 k (jD _) klt)) y hy
 have lastE:(X.drop k).getD ((X.drop k).length - 1) 0=X.getD (X.length - 1) 0:=by
  rw[wF,jr];congr 1;omega
 have lastL:∀x∈Y.take m,lt x ((X.drop k).getD ((X.drop k).length - 1) 0)=true:=λx hx=>by
  rw[lastE];obtain⟨j,j1,j2,rfl⟩:=ZR hx;exact hm2 j j1
 have fin:∀Z xJ,MgD lt (X.drop k) (Y.take m) Z->Gs st1 xJ->wpS (model prog w) A E s (do
  modify λs=>setArr s ((im f Z).toList.zipIdx.foldl (λa (p,j)=>a.setIfInBounds (P.length + k + j) p) (arrOf s))
  return (failedOf (<- get)).isNone) Q xJ:=λZ xJ d g=>by
  refine qi (wpS_modify ?_);refine qi (wpS_get (qj ?_));have ef:failedOf (setArr xJ ((im f Z).toList.zipIdx.foldl (λa (p,j)=>a.setIfInBounds (P.length + k + j) p) (arrOf xJ)))=none:=g.2.2.2.trans f1;rw[ef];have lz:Z.length=(X.drop k).length + (Y.take m).length:=by rw[d.1.length_eq,jI]
  refine h (X.take k ++ (Z ++ Y.drop m)) _ ⟨?_,?_⟩ (g.1.trans k1) ?_ ef (g.2.2.1.trans p1)
  . have e:X ++ Y=X.take k ++ ((X.drop k ++ Y.take m) ++ Y.drop m):=by
     rw[jV,je,<- jV,je]
    rw[e];exact List.Perm.append_left _ (List.Perm.append_right _ d.1)
  . refine jg.mpr ⟨C.sx.sublist (kC _ _),jg.mpr ⟨d.2,C.sy.sublist (kH _ _),λx hx y hy=>?_⟩,λx hx y hy=>?_⟩
    . obtain⟨j,j1,j2,rfl⟩:=ZQ hy;rcases jO.mp (d.1.mem_iff.mp hx) with z | z
      . exact above j j1 j2 x (List.mem_of_mem_drop z)
      . obtain⟨i',i1,i2,rfl⟩:=ZR z;exact Qx C.sy 'd' j2
    . obtain⟨i',i1,i2,rfl⟩:=ZR hx;have bY:∀y∈Y,lt (X.getD i' 0) y=true:=λy hy=>C.belowY T.O (C.hx i2) y0 (hk2 i' i1) y (by rw[kO];exact hy);rcases jO.mp hy with z | z
      . rcases jO.mp (d.1.mem_iff.mp z) with z | z
        . obtain⟨j,j1,j2,rfl⟩:=ZQ z;exact Qx C.sx 'd' j2
        . exact bY y (jm z)
      . exact bY y (List.mem_of_mem_drop z)
  . show(im f Z).toList.zipIdx.foldl (λa (x:Keyed×Nat)=>a.setIfInBounds (P.length + k + x.2) x.1) (arrOf xJ)=_
    have el:P ++ (X ++ (Y ++ S))=(P ++ X.take k) ++ ((X.drop k ++ Y.take m) ++ (Y.drop m ++ S)):=by
     conv=>lhs;rw[<- je k X,<- je m Y]
     simp only[jV]
    rw[show arrOf xJ=im f ((P ++ X.take k) ++ ((X.drop k ++ Y.take m) ++ (Y.drop m ++ S))) by rw[g.2.1,a1,el]];have:=mK f (P.length + k) Z (X.drop k ++ Y.take m) (P ++ X.take k) (Y.drop m ++ S) 0 (by rw[jI,lz]) (by rw[jI,jT];omega);refine Eq.trans (Eq.trans ?_ this) ?_
    . rfl
    . congr 1;simp only[jV]
 rw[exX,exY]
 by_cases cc:X.length - k<=m
 . rw[qh cc];refine qi (wB T k1 C' x0' y0' firstL (λx hx y hy=>?_) λZ xJ d g=>?_)
   . obtain⟨j,j1,j2,rfl⟩:=ZQ hy;rw[show j=(X.drop k).length - 1 by omega];exact lastL x hx
   . exact fin Z xJ d g
 . rw[qg cc];refine qi (wD T k1 C' x0' y0' firstL lastL λZ xJ d g=>?_);exact fin Z xJ d g
end
section
variable {prog:J1}{w:J2}{A:J3}{E:xp}{s:xZ}{κ:SortKind}{n:Nat}{lt:Nat->Nat->Bool}{f:Nat->Keyed}
structure Ts (κ:SortKind) (f:Nat->Keyed) (n:Nat) (l:xz) (st:SortSt):Prop where
 k:kindOf st=κ
 a:arrOf st=im f l
 pm:l.Perm (List.range n)
 fl:failedOf st=none
def Ts.len{st:SortSt}(t:Ts κ f n l st):l.length=n:=by rw[t.pm.length_eq,kR]
def Ts.lts{st:SortSt}(t:Ts κ f n l st)(h:i < n):l.getD i 0 < n:=by
 have:=t.pm.mem_iff.mp (YD (l:=l) (i:=i) (by rw[t.len];exact h));exact kh.mp this
def Ts.ne{st:SortSt}(t:Ts κ f n l st)(hi:i < n)(hj:j < n)(xK:i≠j):l.getD i 0≠l.getD j 0:=λe=>by
 have nd:l.Nodup:=t.pm.nodup_iff.mpr List.nodup_range;have h1:=JQ (l:=l) (i:=i) (by rw[t.len];exact hi);have h2:=JQ (l:=l) (i:=j) (by rw[t.len];exact hj);rw[e]at h1;obtain⟨a1,b1⟩:=jJ.mp h1;obtain⟨a2,b2⟩:=jJ.mp h2;exact xK ((List.getElem_inj nd).mp (b1.trans b2.symm))
def ZT(T:TC prog w A s κ n lt f){st:SortSt}(t:Ts κ f n l st)(hi:i < n)(hj:j < n)(xK:i≠j)(h:Q (some (lt (l.getD i 0) (l.getD j 0))) st):wpS (model prog w) A E s (ltAt' i j) Q st:=by
 rw[ltAt'_eq];refine qi (wpS_get ?_);show wpS _ _ _ _ (do let x <- elem' (arrOf st) i;let y <- elem' (arrOf st) j;lt' x y) Q st;rw[t.a];refine qi (Q0 (JQ (by rw[t.len];exact hi)) ?_);refine qi (Q0 (JQ (by rw[t.len];exact hj)) ?_);exact YB T t.k (t.lts hi) (t.lts hj) (t.ne hi hj xK) h
def Ris(lt:Nat->Nat->Bool)(l:xz)(lo m:Nat):Prop:=∀i j,lo<=i->i < j->j < lo + m->lt (l.getD i 0) (l.getD j 0)=true
def Fal(lt:Nat->Nat->Bool)(l:xz)(lo m:Nat):Prop:=∀i j,lo<=i->i < j->j < lo + m->lt (l.getD j 0) (l.getD i 0)=true
def Ris.snoc(O:SOrd n lt){st:SortSt}(t:Ts κ f n l st){lo m:Nat}(h:Ris lt l lo m)(h1:1<=m)(hn:lo + m < n)(e:lt (l.getD (lo + m - 1) 0) (l.getD (lo + m) 0)=true):Ris lt l lo (m + 1):=λi j hi xK hj=>by
 by_cases c:j < lo + m
 . exact h i j hi xK c
 . have:j=lo + m:=by omega
   subst this
   by_cases d:i=lo + m - 1
   . rw[d];exact e
   . exact O.trans _ _ _ (t.lts 'd') (t.lts 'd') (t.lts hn) (h i (lo + m - 1) hi 'd' 'd') e
def Fal.snoc(O:SOrd n lt){st:SortSt}(t:Ts κ f n l st){lo m:Nat}(h:Fal lt l lo m)(h1:1<=m)(hn:lo + m < n)(e:lt (l.getD (lo + m) 0) (l.getD (lo + m - 1) 0)=true):Fal lt l lo (m + 1):=λi j hi xK hj=>by
 by_cases c:j < lo + m
 . exact h i j hi xK c
 . have:j=lo + m:=by omega
   subst this
   by_cases d:i=lo + m - 1
   . rw[d];exact e
   . exact O.trans _ _ _ (t.lts hn) (t.lts 'd') (t.lts 'd') e (h i (lo + m - 1) hi 'd' 'd')
def Out(l l':xz)(lo hi:Nat):Prop:=∀i,(i < lo\/hi<=i)->l'.getD i 0=l.getD i 0
def QS(l:xz)(i j:Nat):xz:=(mirror l.toArray i j ((j - i) / 2)).toList
def mM(a:Array Nat)(i:Nat):a.toList.getD i 0=(a[i]?).getD 0:=by rw[jE,kB]
def eQ(hj:j<=l.length)(k:Nat):(QS l i j).getD k 0=if i<=k/\k < j then l.getD (i + j - 1 - k) 0 else l.getD k 0:=by
 unfold QS;rw[mM,getElem?_mirror_all (by simpa using hj)];split
 . rw[j8,<- jE]
 . rw[j8,<- jE]
def wI(l:xz)(i j:Nat):(QS l i j).Perm l:=by
 have:=mirror_perm l.toArray i j ((j - i) / 2);exact kP.mp this
def ZU(f:Nat->Keyed)(l:xz):im f l=l.toArray.map f:=by simp[im]
def wJ{st:SortSt}(t:Ts κ f n l st)(h:∀xC,Ts κ f n (QS l i j) xC->pendingOf xC=pendingOf st->Q () xC):wpS (model prog w) A E s (reverseSlice' i j) Q st:=by
 rw[reverseSlice'_eq];refine wpS_modify (h _ ⟨t.k,?_,(wI l i j).trans t.pm,t.fl⟩ rfl);show mirror (arrOf st) i j ((j - i) / 2)=_;rw[t.a,ZU,ZU];have e1:mirror (l.toArray.map f) i j ((j - i) / 2)=(mirror l.toArray i j ((j - i) / 2)).map f:=kas_swaps_map f (λk=>i + k) (λk=>j - 1 - k) _ _;rw[e1];unfold QS;rw[Array.toArray_toList]
def wK(T:TC prog w A s κ n lt f){st:SortSt}(t:Ts κ f n l st){lo xU:Nat}(h1:1<=xU)(hn:lo + xU<=n){Q:Option Nat->SortSt->Prop}
 (h:∀m l' xC,1<=m->m<=xU->Ts κ f n l' xC->pendingOf xC=pendingOf st->Out l l' lo (lo + m)->Ris lt l' lo m->Q (some m) xC):wpS (model prog w) A E s (countRun' lo xU) Q st:=by
 have one:∀(l:xz),Ris lt l lo 1:=λl i j hi xK hj=>absurd xK 'd';refine qi (qY (qV (I:=λx c xC=>xC=st/\c=(none,x)/\Ris lt l lo x) (Q:=λc xC=>xC=st/\∃m,c=(none,m)/\1<=m/\m<=xU/\Ris lt l lo m/\(m < xU->lt (l.getD (lo + m) 0) (l.getD (lo + m - 1) 0)=true)) ?_ ?_ ⟨rfl,rfl,one l⟩) ?_)
 . rintro x c xC hx1 hx2 ⟨rfl,rfl,r⟩;dsimp only;refine qi (ZT T t 'd' 'd' 'd' ?_);dsimp only
   cases e:lt (l.getD (lo + x) 0) (l.getD (lo + x - 1) 0) with
   | true=>exact qj ⟨rfl,x,rfl,hx1,by omega,r,λ_=>e⟩
   | false=>exact qj ⟨rfl,rfl,r.snoc T.O t 'd' 'd' (T.O.conn _ _ (t.lts 'd') (t.lts 'd') (t.ne 'd' 'd' 'd') e)⟩
 . rintro c xC ⟨rfl,rfl,r⟩;have e:max 1 xU=xU:=by omega
   rw[e]at r ⊢;exact⟨rfl,xU,rfl,h1,jD _,r,λz=>absurd z 'd'⟩
 rintro c xC ⟨rfl,m,rfl,m1,m2,r,e⟩;dsimp only
 by_cases c1:m=xU
 . rw[qh (beq_iff_eq.mpr c1)];exact qj (h m l xC m1 m2 t rfl (λ_ _=>rfl) r)
 rw[qg (λz=>c1 (beq_iff_eq.mp z))];have e:=e 'd'
 by_cases c2:m > 1
 . rw[qh c2];refine qi (ZT T t 'd' 'd' 'd' ?_);dsimp only;rw[r lo (lo + m - 1) (jD _) 'd' 'd',qh rfl];exact qj (h m l xC m1 m2 t rfl (λ_ _=>rfl) r)
 rw[qg c2];have:m=1:=by omega
 subst this;refine qi (ZP ?_)
 have f2:Fal lt l lo 2:=λi j hi xK hj=>by
  rw[show j=lo + 1 by omega,show i=lo + 1 - 1 by omega];exact e
 refine qi (qY (qV (I:=λx c st''=>st''=xC/\c=(none,x,0)/\Fal lt l lo x) (Q:=λc st''=>st''=xC/\∃m,c=(none,m,0)/\2<=m/\m<=xU/\Fal lt l lo m) ?_ ?_ ⟨rfl,rfl,f2⟩) ?_)
 . rintro x c st'' hx1 hx2 ⟨rfl,rfl,r⟩;dsimp only;refine qi (ZT T t 'd' 'd' 'd' ?_);dsimp only
   cases e:lt (l.getD (lo + x) 0) (l.getD (lo + x - 1) 0) with
   | true =>
    rw[qh rfl,qg 'f'];exact qj ⟨rfl,rfl,r.snoc T.O t 'd' 'd' e⟩
   | false =>
    rw[qg 'f'];refine qi (ZT T t 'd' 'd' 'd' ?_);dsimp only;rw[T.O.conn _ _ (t.lts 'd') (t.lts 'd') (t.ne 'd' 'd' 'd') e,qh rfl];exact qj ⟨rfl,x,rfl,hx1,by omega,r⟩
 . rintro c st'' ⟨rfl,rfl,r⟩;have e:max (1 + 1) xU=xU:=by omega
   rw[e]at r ⊢;exact⟨rfl,xU,rfl,by omega,jD _,r⟩
 rintro c st'' ⟨rfl,m,rfl,m1,m2,r⟩;dsimp only;rw[qg 'f'];refine qi (wJ t λxJ t2 p2=>?_);have hl:lo + m<=l.length:=by rw[t.len];omega
 have r2:Ris lt (QS l lo (lo + m)) lo m:=λi j hi xK hj=>by
  rw[eQ hl,eQ hl,qh 'd',qh 'd'];exact r _ _ 'd' 'd' 'd'
 have o2:∀m',m<=m'->Out l (QS l lo (lo + m)) lo (lo + m'):=λm' hm i hi=>by
  rw[eQ hl,qg 'd']
 refine qi (qY (qV (I:=λx c xC=>xC=xJ/\c=(none,x)/\Ris lt (QS l lo (lo + m)) lo x) (Q:=λc xC=>xC=xJ/\∃m',c=(none,m')/\m<=m'/\m'<=xU/\Ris lt (QS l lo (lo + m)) lo m') ?_ ?_ ⟨rfl,rfl,r2⟩) ?_)
 . rintro x c xC hx1 hx2 ⟨rfl,rfl,r⟩;dsimp only;refine qi (ZT T t2 'd' 'd' 'd' ?_);dsimp only
   cases e:lt ((QS l lo (lo + m)).getD (lo + x) 0) ((QS l lo (lo + m)).getD (lo + x - 1) 0) with
   | true=>exact qj ⟨rfl,x,rfl,hx1,by omega,r⟩
   | false=>exact qj ⟨rfl,rfl,r.snoc T.O t2 'd' 'd' (T.O.conn _ _ (t2.lts 'd') (t2.lts 'd') (t2.ne 'd' 'd' 'd') e)⟩
 . rintro c xC ⟨rfl,rfl,r⟩;have e:max m xU=xU:=by omega
   rw[e]at r ⊢;exact⟨rfl,xU,rfl,m2,jD _,r⟩
 rintro c st3 ⟨rfl,m',rfl,q1,q2,r3⟩;exact qj (h m' _ st3 'd' q2 t2 p2 (o2 m' q1) r3)
def YF(l:xz)(src dst:Nat):xz:=(bubble l.toArray src (src - dst)).toList
def eR(hs:src < l.length)(hd:dst<=src)(k:Nat):(YF l src dst).getD k 0=if k=dst then l.getD src 0 else if dst < k/\k<=src then l.getD (k - 1) 0 else l.getD k 0:=by
 unfold YF;rw[mM,getElem?_bubble (by simpa using hs) _ 'd',show src - (src - dst)=dst by omega]
 repeat' split
 all_goals rw[j8,<- jE]
def wL(l:xz)(i j:Nat):(YF l i j).Perm l:=kP.mp (bubble_perm l.toArray i (i - j))
def wN{st:SortSt}(t:Ts κ f n l st)(h:∀xC,Ts κ f n (YF l i j) xC->pendingOf xC=pendingOf st->Q () xC):wpS (model prog w) A E s (moveDown' i j) Q st:=by
 rw[moveDown'_eq];refine wpS_modify (h _ ⟨t.k,?_,(wL l i j).trans t.pm,t.fl⟩ rfl);show bubble (arrOf st) i (i - j)=_;rw[t.a,ZU,ZU];have e1:bubble (l.toArray.map f) i (i - j)=(bubble l.toArray i (i - j)).map f:=kas_swaps_map f (λk=>i - k) (λk=>i - k - 1) _ _;rw[e1];unfold YF;rw[Array.toArray_toList]
def wQ(T:TC prog w A s κ n lt f){st:SortSt}(t:Ts κ f n l st){lo m ok:Nat}(ho:ok<=m)(h1:1<=ok)(hn:lo + m<=n)(r:Ris lt l lo ok){Q:Bool->SortSt->Prop}
 (h:∀l' xC,Ts κ f n l' xC->pendingOf xC=pendingOf st->Out l l' lo (lo + m)->Ris lt l' lo m->Q true xC):wpS (model prog w) A E s (binarySort' lo m ok) Q st:=by
 have e1:max ok 1=ok:=by omega
 refine qi (qY (qV (I:=λx c xC=>c=(none,())/\∃l',Ts κ f n l' xC/\pendingOf xC=pendingOf st/\Out l l' lo (lo + m)/\Ris lt l' lo x) (Q:=λc xC=>c=(none,())/\∃l',Ts κ f n l' xC/\pendingOf xC=pendingOf st/\Out l l' lo (lo + m)/\Ris lt l' lo m) ?_ ?_ ⟨rfl,l,t,rfl,λ_ _=>rfl,by rw[e1];exact r⟩) ?_)
 . rintro x c xC hx1 hx2 ⟨rfl,l',t',p',o',r'⟩;dsimp only;have hx:lo + x < l'.length:=by rw[t'.len];omega
   refine qi (qY (qV (I:=λy c st''=>st''=xC/\∃a b,c=(none,a,b)/\a<=b/\b<=x/\b - a<=x - y/\(∀i,i < a->lt (l'.getD (lo + i) 0) (l'.getD (lo + x) 0)=true)/\(∀i,b<=i->i < x->lt (l'.getD (lo + x) 0) (l'.getD (lo + i) 0)=true)) (Q:=λc st''=>st''=xC/\∃a,c=(none,a,a)/\a<=x/\(∀i,i < a->lt (l'.getD (lo + i) 0) (l'.getD (lo + x) 0)=true)/\(∀i,a<=i->i < x->lt (l'.getD (lo + x) 0) (l'.getD (lo + i) 0)=true)) ?_ ?_ ⟨rfl,0,x,rfl,by omega,by omega,by omega,λi hi=>absurd hi 'd',λi hi hi'=>absurd hi 'd'⟩) ?_)
   . rintro y c st'' hy1 hy2 ⟨rfl,a,b,rfl,ab,bx,by_,lo1,hi1⟩;dsimp only
     by_cases c1:a ≥ b
     . rw[qh c1];have:a=b:=by omega
       subst this;exact qj ⟨rfl,a,rfl,bx,lo1,hi1⟩
     rw[qg c1];refine qi (ZT T t' 'd' 'd' 'd' ?_);dsimp only
     cases e:lt (l'.getD (lo + x) 0) (l'.getD (lo + (a + b) / 2) 0) with
     | true =>
      rw[qh rfl];refine qj ⟨rfl,a,(a + b) / 2,rfl,by omega,by omega,by omega,lo1,λi hi hi'=>?_⟩
      by_cases z:i=(a + b) / 2
      . rw[z];exact e
      . exact T.O.trans _ _ _ (t'.lts 'd') (t'.lts 'd') (t'.lts 'd') e (r' (lo + (a + b) / 2) (lo + i) 'd' 'd' 'd')
     | false =>
      rw[qg 'f'];have e':=T.O.conn _ _ (t'.lts 'd') (t'.lts 'd') (t'.ne 'd' 'd' 'd') e;refine qj ⟨rfl,(a + b) / 2 + 1,b,rfl,by omega,by omega,by omega,λi hi=>?_,hi1⟩
      by_cases z:i=(a + b) / 2
      . rw[z];exact e'
      . exact T.O.trans _ _ _ (t'.lts 'd') (t'.lts 'd') (t'.lts 'd') (r' (lo + i) (lo + (a + b) / 2) 'd' 'd' 'd') e'
   . rintro c st'' ⟨rfl,a,b,rfl,ab,bx,by_,lo1,hi1⟩;have:a=b:=by omega
     subst this;exact⟨rfl,a,rfl,bx,lo1,hi1⟩
   rintro c st'' ⟨rfl,a,rfl,ax,lo1,hi1⟩;dsimp only;refine qi (wN t' λst3 t3 p3=>?_);refine qj ⟨rfl,_,t3,p3.trans p',λi hi=>?_,λi j hi xK hj=>?_⟩
   . rw[eR hx 'd',qg 'd',qg 'd'];exact o' i hi
   . rw[eR hx 'd',eR hx 'd']
     by_cases i1:i=lo + a
     . rw[qh i1,qg 'd',qh 'd'];have:=hi1 (j - 1 - lo) 'd' 'd'
       rwa [show lo + (j - 1 - lo)=j - 1 by omega]at this
     rw[qg i1]
     by_cases i2:lo + a < i/\i<=lo + x
     . rw[qh i2,qg 'd',qh 'd'];exact r' _ _ 'd' 'd' 'd'
     rw[qg i2]
     by_cases j1:j=lo + a
     . rw[qh j1];have:=lo1 (i - lo) 'd'
       rwa [show lo + (i - lo)=i by omega]at this
     rw[qg j1]
     by_cases j2:lo + a < j/\j<=lo + x
     . rw[qh j2];exact r' _ _ 'd' 'd' 'd'
     . rw[qg j2];exact r' _ _ 'd' 'd' 'd'
 . rintro c xC ⟨rfl,l',t',p',o',r'⟩;rw[e1,show max ok m=m by omega]at r';exact⟨rfl,l',t',p',o',r'⟩
 . rintro c xC ⟨rfl,l',t',p',o',r'⟩;exact qj (h l' xC t' p' o' r')
end
section
variable {prog:J1}{w:J2}{A:J3}{E:xp}{s:xZ}{κ:SortKind}{n:Nat}{lt:Nat->Nat->Bool}{f:Nat->Keyed}
abbrev Rn:=Nat×Nat×Nat
def Runs(lt:Nat->Nat->Bool)(l:xz):Nat->List Rn->Nat->Prop
 | a,[],b=>a=b
 | a,r :: rs,b=>r.1=a/\0 < r.2.1/\Ris lt l a r.2.1/\Runs lt l (a + r.2.1) rs b
theorem Runs.app:∀{rs rs':List Rn}{a c:Nat},Runs lt l a (rs ++ rs') c↔∃b,Runs lt l a rs b/\Runs lt l b rs' c
 | [],rs',a,c=>⟨λh=>⟨a,rfl,h⟩,λ⟨b,e,h⟩=>by cases e;exact h⟩
 | r :: rs,rs',a,c=>by
  constructor
  . rintro⟨h1,h2,h3,h4⟩;obtain⟨b,h5,h6⟩:=Runs.app.mp h4;exact⟨b,⟨h1,h2,h3,h5⟩,h6⟩
  . rintro⟨b,⟨h1,h2,h3,h5⟩,h6⟩;exact⟨h1,h2,h3,Runs.app.mpr ⟨b,h5,h6⟩⟩
theorem Runs.le:∀{rs:List Rn}{a b:Nat},Runs lt l a rs b->a + rs.length<=b
 | [],a,b,h=>by cases h;exact jD _
 | r :: rs,a,b,⟨h1,h2,h3,h4⟩=>by have:=Runs.le h4;rw[jP];omega
theorem Runs.frame:∀{rs:List Rn}{a b:Nat},Runs lt l a rs b->(∀i,a<=i->i < b->l'.getD i 0=l.getD i 0)->Runs lt l' a rs b
 | [],a,b,h,_=>h
 | r :: rs,a,b,⟨h1,h2,h3,h4⟩,o=>by
  have:=Runs.le h4;exact⟨h1,h2,λi j hi xK hj=>by rw[o i hi 'd',o j 'd' 'd'];exact h3 i j hi xK hj,h4.frame λi hi hb=>o i 'd' hb⟩
theorem Runs.pow(pw:Nat):∀{rs:List Rn}{a b:Nat} (i:Nat),Runs lt l a rs b->Runs lt l a (rs.modify i λ(x:Rn)=>(x.1,x.2.1,pw)) b
 | [],a,b,i,h=>by simpa using h
 | r :: rs,a,b,0,⟨h1,h2,h3,h4⟩=>⟨h1,h2,h3,h4⟩
 | r :: rs,a,b,i + 1,⟨h1,h2,h3,h4⟩=>⟨h1,h2,h3,h4.pow pw i⟩
def mO{lo m:Nat}(h:Ris lt l lo m)(hl:lo + m<=l.length):PwL lt ((l.drop lo).take m):=by
 refine List.pairwise_iff_getElem.mpr λi j hi hj xK=>?_;rw[jT,jr]at hi hj
 have e:∀k (hk:k < ((l.drop lo).take m).length),((l.drop lo).take m)[k]=l.getD (lo + k) 0:=λk hk=>by
  rw[jT,jr]at hk;rw[List.getElem_take,List.getElem_drop,jE,jC 'd'];rfl
 rw[e,e];exact h _ _ 'd' 'd' 'd'
def wR(l:xz)(a b c:Nat):l=l.take a ++ ((l.drop a).take b ++ ((l.drop (a + b)).take c ++ l.drop (a + b + c))):=by
 rw[<- List.drop_drop (i:=c),je,<- List.drop_drop (i:=b),je,je]
def mP(T:TC prog w A s κ n lt f){st:SortSt}(t:Ts κ f n l st){i lo:Nat}(rn:Runs lt l 0 (pendingOf st).toList lo)(hlo:lo<=n)(hi:i + 1 < (pendingOf st).size){Q:Bool->SortSt->Prop}
 (h:∀(l':xz) (xC:SortSt),Ts κ f n l' xC->Runs lt l' 0 (pendingOf xC).toList lo->(pendingOf xC).size + 1=(pendingOf st).size->(∀i,lo<=i->l'.getD i 0=l.getD i 0)->Q true xC):wpS (model prog w) A E s (mergeAt' i) Q st:=by
 obtain⟨rs,ers⟩:∃rs,rs=(pendingOf st).toList:=⟨_,rfl⟩;have lrs:rs.length=(pendingOf st).size:=by rw[ers,jU]
 rw[<- ers]at rn
 obtain⟨rs1,r1,r2,rs2,e,l1⟩:∃rs1 r1 r2 rs2,rs=rs1 ++ r1 :: r2 :: rs2/\rs1.length=i:=by
  refine⟨rs.take i,rs[i],rs[i + 1],rs.drop (i + 2),?_,by rw[jT];omega⟩
  conv=>lhs;rw[<- je i rs]
  congr 1;rw[j4 'd',j4 'd']
 rw[e]at rn;obtain⟨b,g1,g2⟩:=Runs.app.mp rn;obtain⟨a1,a2,a3,b1,b2,b3,g3⟩:=g2;have z1:=g1.le;have z3:=g3.le;have ln:=t.len;have ep:∀k,(pendingOf st)[k]? = rs[k]? := λk=>by rw[ers,kB]
 have lX:((l.drop b).take r1.2.1).length=r1.2.1:=by rw[jT,jr];omega
 have lY:((l.drop (b + r1.2.1)).take r2.2.1).length=r2.2.1:=by rw[jT,jr];omega
 have lP:(l.take b).length=b:=by rw[jT];omega
 have e4:=wR l b r1.2.1 r2.2.1;have nd:l.Nodup:=t.pm.nodup_iff.mpr List.nodup_range
 have sub:((l.drop b).take r1.2.1 ++ (l.drop (b + r1.2.1)).take r2.2.1).Sublist l:=by
  conv=>rhs;rw[e4]
  rw[<- jV ((l.drop b).take r1.2.1)];exact(List.sublist_append_left _ _).trans (List.sublist_append_right _ _)
 have C:MgC n lt ((l.drop b).take r1.2.1) ((l.drop (b + r1.2.1)).take r2.2.1):=⟨λx hx=>kh.mp (t.pm.mem_iff.mp (sub.subset hx)),nd.sublist sub,mO a3 'd',mO b3 'd'⟩;refine wH T t.k t.fl (i:=i) (pw:=r1.2.2) (pw2:=r2.2.2) (t.a.trans (qP (im f) e4)) C 'd' 'd' ?_ ?_ λZ xC d k' a' f' p'=>?_
 . rw[ep,e,jw 'd',l1,Nat.sub_self,lP,lX,<- a1];rfl
 . rw[ep,e,jw 'd',l1,Nat.add_sub_cancel_left,lP,lX,lY,<- b1];rfl
 have lZ:Z.length=r1.2.1 + r2.2.1:=by rw[d.1.length_eq,jI,lX,lY]
 have pl:(pendingOf xC).toList=rs1 ++ (b,r1.2.1 + r2.2.1,r1.2.2) :: rs2:=by
  rw[p',Array.toList_eraseIdxIfInBounds,Array.toList_setIfInBounds,<- ers,e,lP,lX,lY,<- l1];simp[List.set_append,List.eraseIdx_append];exact λz=>absurd z 'd'
 obtain⟨l',el'⟩:∃l',l'=l.take b ++ (Z ++ l.drop (b + r1.2.1 + r2.2.1)):=⟨_,rfl⟩;rw[<- el']at a'
 have out:∀k,(k < b\/b + r1.2.1 + r2.2.1<=k)->l'.getD k 0=l.getD k 0:=λk hk=>by
  rw[el',jE,jE];congr 1;rcases hk with hk | hk
  . rw[kW 'd',kf hk]
  . rw[jw 'd',jw 'd',List.getElem?_drop];congr 1;omega
 have pm':l'.Perm l:=by
  rw[el']
  conv=>rhs;rw[e4]
  refine List.Perm.append_left _ ?_;rw[<- jV ((l.drop b).take r1.2.1)];exact List.Perm.append_right _ d.1
 refine h l' xC ⟨k',a',pm'.trans t.pm,f'⟩ ?_ ?_ (λk hk=>out k (.inr 'd'))
 . rw[pl];refine Runs.app.mpr ⟨b,g1.frame λk _ hk=>out k (.inl hk),rfl,by show 0 < r1.2.1 + r2.2.1;omega,λp q hp hpq hq=>?_,?_⟩
   . have gz:∀k,b<=k->k < b + (r1.2.1 + r2.2.1)->l'.getD k 0=Z.getD (k - b) 0:=λk h1 h2=>by
      rw[el',jE,jw 'd',kW 'd',<- jE,lP]
     have hq':q < b + (r1.2.1 + r2.2.1):=hq;rw[gz p hp 'd',gz q 'd' hq'];exact Qx d.2 'd' 'd'
   . show Runs lt l' (b + (r1.2.1 + r2.2.1)) rs2 lo;rw[<- Nat.add_assoc];exact g3.frame λk hk _=>out k (.inr hk)
 . rw[<- jU,<- jU,<- ers,pl,e];simp;omega
def b6(n lo nn:Nat):StateT SortSt Sem (ForInStep (Option Unit×Nat)):=do
 let st <- get
 match (pendingOf st).back? with
 | some (s1,n1,_)=>do
  let r <- forIn [0:n] ((none,()):Option Unit×Unit) λ_ _=>do
   let st <- get
   match (if (pendingOf st).size > 1 then(pendingOf st)[(pendingOf st).size - 2]? else none) with
   | some (_,_,older) =>
    if older<=power' n (2 * s1 + n1) (2 * s1 + n1 + n1 + nn) n then pure (ForInStep.done (none,()))
    else do
     let b <- mergeAt' ((pendingOf st).size - 2)
     if (!b)=true then pure (ForInStep.done (some (),())) else pure (ForInStep.yield (none,()))
   | _=>pure (ForInStep.done (none,()))
  match r.1 with
  | some r=>pure (ForInStep.done (some r,lo))
  | none=>do
   modify λs=>setPending s ((pendingOf s).modify ((pendingOf s).size - 1) λ(st,len,_)=>(st,len,power' n (2 * s1 + n1) (2 * s1 + n1 + n1 + nn) n))
   modify λs=>setPending s ((pendingOf s).push (lo,nn,0))
   pure (ForInStep.yield (none,lo + nn))
 | _=>do
  modify λs=>setPending s ((pendingOf s).push (lo,nn,0))
  pure (ForInStep.yield (none,lo + nn))
def wS(T:TC prog w A s κ n lt f){st:SortSt}(t:Ts κ f n l st)(hp:pendingOf st=#[])(h1:1<=n)
 (h:∀(l':xz) (xC:SortSt),Ts κ f n l' xC->Ris lt l' 0 n->Q () xC):wpS (model prog w) A E s sortRuns' Q st:=by
 rw[sortRuns'_eq];refine qi (wpS_get ?_);have sz:(arrOf st).size=n:=by rw[t.a,JE,t.len]
 rw[sz];dsimp only;generalize minRun' n n 0=mr;refine qi (qY (qV (I:=λx c xC=>∃lo l',c=(none,lo)/\Ts κ f n l' xC/\Runs lt l' 0 (pendingOf xC).toList lo/\lo<=n/\(x<=lo\/lo=n)) (Q:=λc xC=>∃l',c=(none,n)/\Ts κ f n l' xC/\Runs lt l' 0 (pendingOf xC).toList n) ?_ ?_ ⟨0,l,rfl,t,by rw[hp];rfl,by omega,by omega⟩) ?_)
 . rintro x c xC _ hx ⟨lo,l',rfl,t',rn,hlo,hxl⟩;dsimp only
   by_cases c0:lo ≥ n
   . rw[qh c0];have:lo=n:=by omega
     subst this;exact qj ⟨l',rfl,t',rn⟩
   rw[qg c0];refine qi (wK T t' 'd' 'd' λm l1 st1 m1 m2 t1 p1 o1 r1=>?_);dsimp only
   -- the run behind the ones that are pending
   have fin:∀(nn:Nat) (l2:xz) (xJ:SortSt),1<=nn->nn<=n - lo->Ts κ f n l2 xJ->Runs lt l2 0 (pendingOf xJ).toList lo->Ris lt l2 lo nn->∃lo' l',(none,lo + nn)=((none,lo'):Option Unit×Nat)/\Ts κ f n l' (setPending xJ ((pendingOf xJ).push (lo,nn,0)))/\Runs lt l' 0 (pendingOf (setPending xJ ((pendingOf xJ).push (lo,nn,0)))).toList lo'/\lo'<=n/\(x + 1<=lo'\/lo'=n):=λnn l2 xJ n1 n2 t2 rn2 r2=>by
    refine⟨lo + nn,l2,rfl,⟨t2.k,t2.a,t2.pm,t2.fl⟩,?_,by omega,by omega⟩;show Runs lt l2 0 ((pendingOf xJ).push (lo,nn,0)).toList (lo + nn);rw[Array.toList_push];exact Runs.app.mpr ⟨lo,rn2,rfl,n1,r2,rfl⟩
   have go:∀(nn:Nat) (l2:xz) (xJ:SortSt),1<=nn->nn<=n - lo->Ts κ f n l2 xJ->Runs lt l2 0 (pendingOf xJ).toList lo->Ris lt l2 lo nn->wpS (model prog w) A E s (b6 n lo nn) (λr xC=>match r with | .done c'=>∃l',c'=(none,n)/\Ts κ f n l' xC/\Runs lt l' 0 (pendingOf xC).toList n | .yield c'=>∃lo l',c'=(none,lo)/\Ts κ f n l' xC/\Runs lt l' 0 (pendingOf xC).toList lo/\lo<=n/\(x + 1<=lo\/lo=n)) xJ:=λnn l2 xJ n1 n2 t2 rn2 r2=>by
    unfold b6;refine qi (wpS_get ?_)
    cases eb:(pendingOf xJ).back? with
    | none =>
     dsimp only;exact qi (wpS_modify (qj (fin nn l2 xJ n1 n2 t2 rn2 r2)))
    | some q =>
     obtain⟨s1,q1,q2⟩:=q;dsimp only;generalize power' n (2 * s1 + q1) (2 * s1 + q1 + q1 + nn) n=pw;refine qi (qY (qV (I:=λ_ c st3=>∃l3,c=(none,())/\Ts κ f n l3 st3/\Runs lt l3 0 (pendingOf st3).toList lo/\Ris lt l3 lo nn) (Q:=λc st3=>∃l3,c=(none,())/\Ts κ f n l3 st3/\Runs lt l3 0 (pendingOf st3).toList lo/\Ris lt l3 lo nn) ?_ (λ_ _ hh=>hh) ⟨l2,rfl,t2,rn2,r2⟩) ?_)
     . rintro y c st3 _ hy ⟨l3,rfl,t3,rn3,r3⟩;refine qi (wpS_get ?_)
       by_cases c2:(pendingOf st3).size > 1
       . rw[qh c2]
         cases eo:(pendingOf st3)[(pendingOf st3).size - 2]? with
         | none=>exact qj ⟨l3,rfl,t3,rn3,r3⟩
         | some q =>
          obtain⟨o1,o2,older⟩:=q;dsimp only
          by_cases c3:older<=pw
          . rw[qh c3];exact qj ⟨l3,rfl,t3,rn3,r3⟩
          rw[qg c3];refine qi (mP T t3 rn3 hlo 'd' λl4 st4 t4 rn4 _ o4=>?_);exact qj ⟨l4,rfl,t4,rn4,λi j hi xK hj=>by rw[o4 i hi,o4 j 'd'];exact r3 i j hi xK hj⟩
       . rw[qg c2];exact qj ⟨l3,rfl,t3,rn3,r3⟩
     . rintro c st3 ⟨l3,rfl,t3,rn3,r3⟩;dsimp only;refine qi (wpS_modify ?_);refine qi (wpS_modify (qj (fin nn l3 _ n1 n2 ⟨t3.k,t3.a,t3.pm,t3.fl⟩ ?_ r3)));show Runs lt l3 0 ((pendingOf st3).modify ((pendingOf st3).size - 1) λ(x:Rn)=>(x.1,x.2.1,pw)).toList lo;rw[Array.toList_modify];exact rn3.pow pw _
   have rn1:Runs lt l1 0 (pendingOf st1).toList lo:=by
    rw[p1];exact rn.frame λi _ hi=>o1 i (.inl hi)
   by_cases cm:m < mr
   . rw[qh cm];refine qi (ZP ?_);refine qi (wQ T t1 (m:=min (n - lo) mr) 'd' m1 'd' r1 λl2 xJ t2 p2 o2 r2=>?_);refine Eq.mpr (qP (λm=>wpS (model prog w) A E s m _ xJ) (qg (show ¬((!true)=true) by decide))) ?_;have g:=go (min (n - lo) mr) l2 xJ 'd' 'd' t2 (by rw[p2];exact rn1.frame λi _ hi=>o2 i (.inl hi)) r2;refine Eq.mpr (qP (λm=>wpS (model prog w) A E s m _ xJ) (?_:_=b6 n lo (min (n - lo) mr))) ?_
     . kernel_rfl
     . exact qY g λa xC h=>by cases a<;>exact h
   . rw[qg cm];have g:=go m l1 st1 m1 m2 t1 rn1 r1;refine Eq.mpr (qP (λm=>wpS (model prog w) A E s m _ st1) (?_:_=b6 n lo (m))) ?_
     . kernel_rfl
     . exact qY g λa xC h=>by cases a<;>exact h
 . rintro c xC ⟨lo,l',rfl,t',rn,hlo,hxl⟩;have:lo=n:=by omega
   subst this;exact⟨l',rfl,t',rn⟩
 . rintro c xC ⟨l',rfl,t',rn⟩;dsimp only;have le:=rn.le;rw[jU]at le;refine qi (qY (qV (I:=λy c xJ=>∃l2,c=(none,())/\Ts κ f n l2 xJ/\Runs lt l2 0 (pendingOf xJ).toList n/\(pendingOf xJ).size<=max 1 (n - y)) (Q:=λc xJ=>∃l2,c=(none,())/\Ts κ f n l2 xJ/\Runs lt l2 0 (pendingOf xJ).toList n/\(pendingOf xJ).size<=1) ?_ ?_ ⟨l',rfl,t',rn,by omega⟩) ?_)
   . rintro y c xJ _ hy ⟨l2,rfl,t2,rn2,z2⟩;refine qi (wpS_get ?_)
     by_cases c1:(pendingOf xJ).size<=1
     . rw[qh c1];exact qj ⟨l2,rfl,t2,rn2,c1⟩
     rw[qg c1];have m:∀i,i + 1 < (pendingOf xJ).size->wpS (model prog w) A E s (mergeAt' i) (λb st3=>b=true/\∃l2,Ts κ f n l2 st3/\Runs lt l2 0 (pendingOf st3).toList n/\(pendingOf st3).size<=max 1 (n - (y + 1))) xJ:=λi hi=>mP T t2 rn2 (jD _) hi λl3 st3 t3 rn3 z3 _=>⟨rfl,l3,t3,rn3,by omega⟩;refine qi (qY (m _ ?_) ?_)
     . repeat' split
       all_goals omega
     . rintro b st3 ⟨rfl,l3,t3,rn3,z3⟩;exact qj ⟨l3,rfl,t3,rn3,z3⟩
   . rintro c xJ ⟨l2,rfl,t2,rn2,z2⟩;exact⟨l2,rfl,t2,rn2,by omega⟩
   . rintro c xJ ⟨l2,rfl,t2,rn2,z2⟩;refine qj (h l2 xJ t2 ?_);obtain⟨rs,ers⟩:∃rs,rs=(pendingOf xJ).toList:=⟨_,rfl⟩;have lrs:rs.length<=1:=by rw[ers,jU];exact z2
     rw[<- ers]at rn2
     match rs,lrs,rn2 with
     | [],_,e=>exact absurd e (by show ¬(0=n);omega)
     | [r],_,⟨_,_,h3,h4⟩ =>
      have:0 + r.2.1=n:=h4;rw[show n=r.2.1 by omega];exact h3
end
section
variable {prog:J1}{w:J2}{A:J3}{E:xp}{s:xZ}
def wT{κ:SortKind}(at_:s.heap.get? a=some (seqObj "list" vs.toArray c0))(two:2<=vs.length)(few:vs.length < 100000)(O:SOrd vs.length lt)(irr:∀i,i < vs.length->lt i i=false)
 (kind:∀g,ZM a s.heap g->∀R:SortKind->xZ->Prop,R κ { s with heap:=g }->wpAny (model prog w) A (keyKind' vs.toArray) R (λ_ _=>False) { s with heap:=g })
 (less:∀g,ZM a s.heap g->∀i j (C:Bool->xZ->Prop),i < vs.length->j < vs.length->i≠j->C (lt i j) { s with heap:=g }->wpAny (model prog w) A (keyLt' κ (vs.getD i Value.none) (vs.getD j Value.none)) C (λ_ _=>False) { s with heap:=g })
 (fin:∀(p:Array Nat) g c,SPm vs.length p->Srt lt p vs.length->ZM a s.heap g->g.get? a=some (seqObj "list" (Qm vs p).toArray c)->Z (.done (.ret .none)) { s with heap:=g }) :
 wpAny (model prog w) A (Builtin.«list.sort» ⟨[.ref a],[]⟩) Z E s:=by
 have up:=Heap.SameBut.update s.heap a (Obj.mapSeq λ_=>(#[]:xw));obtain⟨c1,at1⟩:∃c,(s.heap.update a (Obj.mapSeq λ_=>(#[]:xw))).get? a=some (seqObj "list" #[] c):=⟨_,get?_update_seq at_ λ_=>#[]⟩;obtain⟨g,eg⟩:∃g,g=((s.heap.update a (Obj.mapSeq λ_=>(#[]:xw))).push (seqObj "tuple" vs.toArray 0)).push (seqObj "list" #[] 0):=⟨_,rfl⟩
 have gx:ZM a s.heap g:=λb o hb e=>by
  rw[eg];exact jB _ (jB _ ((up.2 b hb).trans e))
 have ga:g.get? a=some (seqObj "list" #[] c1):=by
  rw[eg];exact jB _ (jB _ at1)
 rw[list_sort_plain];refine q8 (listItems_at at_ rfl ?_);refine q8 (listUpdate_at at_ rfl ?_ (by rw[jH,qR];omega) (jX _));refine q8 (seqEpoch_at at1 rfl ?_);refine q8 (xj ?_ (by show vs.length<=sizeLine;rw[qR];omega));refine q8 (wpAny_newList ?_ (jX _));refine qK ?_;show wpAny (model prog w) A _ Z E { s with heap:=((s.heap.update a (Obj.mapSeq λ_=>(#[]:xw))).push (seqObj "tuple" vs.toArray 0)).push (seqObj "list" #[] 0) };rw[<- eg];dsimp only;have nt:¬vs.toArray.size < 2:=by rw[jH];omega
 rw[qg nt,qg nt];refine q8 (qQ (kind g gx (λk s0=>k=κ/\s0={ s with heap:=g }) ⟨rfl,rfl⟩) (λk s0 hk=>?_) λ_ _ x=>x.elim);obtain⟨rfl,rfl⟩:=hk
 have tc:TC prog w A { s with heap:=g } k vs.length lt (kas_item (vs.toArray.zip vs.toArray)):=⟨O,irr,λi j hi hj xK C hC=>by
  have e1:∀i,(kas_item (vs.toArray.zip vs.toArray) i).1=vs.getD i Value.none:=λi=>by
   have:=kas_item_eq vs i;rw[show pairsOf vs=vs.toArray.zip vs.toArray from rfl]at this;rw[this]
  rw[e1,e1];exact less g gx i j C hi hj xK hC⟩
 have zsz:(vs.toArray.zip vs.toArray).size=vs.length:=by simp
 have ts:Ts k (kas_item (vs.toArray.zip vs.toArray)) vs.length (List.range vs.length) (SortSt.mk' k (vs.toArray.zip vs.toArray) #[] 7 none):=⟨rfl,by
  have e:=kas_range (vs.toArray.zip vs.toArray);rw[zsz]at e;rw[ZU];exact e.symm,List.Perm.refl _,rfl⟩
 refine q8 (qQ (wS (Q:=λ_ st=>∃p:Array Nat,p.size=vs.length/\arrOf st=p.map (kas_item (vs.toArray.zip vs.toArray))/\failedOf st=none/\SPm vs.length p/\Srt lt p vs.length) tc ts rfl 'd' λl' xC t' r'=>⟨l'.toArray,by rw[jH,t'.len],by rw[t'.a,ZU],t'.fl,t'.pm.toArray,λi j xK hj=>by
  have e:∀i,l'.toArray.getD i 0=l'.getD i 0:=λi=>by rw[Array.getD_eq_getD_getElem?,j8,jE]
  rw[e,e];exact r' i j (jX _) xK 'd'⟩) ?_ λ_ _ e=>e)
 rintro⟨⟨⟩,st⟩ s2 ⟨rfl,p,hp,har,hf,pm,sr⟩;dsimp only;have eo:=kat_snds rfl har;have zo:(Qm vs p).toArray.size=vs.length:=by unfold Qm;rw[jH,jA,jU,hp]
 rw[eo];have up2:=Heap.SameBut.update g a (Obj.mapSeq λ_=>(Qm vs p).toArray);obtain⟨c2,at2⟩:∃c,(g.update a (Obj.mapSeq λ_=>(Qm vs p).toArray)).get? a=some (seqObj "list" (Qm vs p).toArray c):=⟨_,get?_update_seq ga λ_=>(Qm vs p).toArray⟩;refine q8 (seqEpoch_at ga rfl ?_);refine q8 (listUpdate_at ga rfl ?_ (jX _) (by show(Qm vs p).toArray.size<=_;rw[zo,qR];omega));rw[hf];simp only[bne_self_eq_false,kL,xm];exact qf (fin p _ c2 pm sr (λb o hb e=>(up2.2 b hb).trans (gx b o hb e)) at2)
def mQ{Q:xp}{C:xx->xZ->Prop}(col:∀(E':xp) (R:xx->xZ->Prop),(∀vs s1,C vs s1->R vs s1)->wpAny (model prog w) A.in1 (collect x) R E' s)
 (few:∀vs s1,C vs s1->vs.length < 100000) (κ:SortKind) (lt:xx->xZ->Nat->Nat->Bool) (O:∀vs s1,C vs s1->SOrd vs.length (lt vs s1)) (irr:∀vs s1,C vs s1->∀i,i < vs.length->lt vs s1 i i=false)
 (kind:∀vs s1,C vs s1->2<=vs.length->∀g,(∀b o,s1.heap.get? b=some o->g.get? b=some o)->∀R:SortKind->xZ->Prop,R κ { s1 with heap:=g }->wpAny (model prog w) A.in1.in1 (keyKind' vs.toArray) R (λ_ _=>False) { s1 with heap:=g })
 (less:∀vs s1,C vs s1->∀g,(∀b o,s1.heap.get? b=some o->g.get? b=some o)->∀i j (Z:Bool->xZ->Prop),i < vs.length->j < vs.length->i≠j->Z (lt vs s1 i j) { s1 with heap:=g }->wpAny (model prog w) A.in1.in1 (keyLt' κ (vs.getD i Value.none) (vs.getD j Value.none)) Z (λ_ _=>False) { s1 with heap:=g })
 (fin:∀vs s1,C vs s1->∀(p:Array Nat) g c,SPm vs.length p->Srt (lt vs s1) p vs.length->(∀b o,s1.heap.get? b=some o->g.get? b=some o)->g.get? s1.heap.objs.size=some (seqObj "list" (Qm vs p).toArray c)->Q (.ref s1.heap.objs.size) { s1 with heap:=g }) :
 wpAny (model prog w) A (call (.builtin "sorted") [x]) Q E s:=by
 refine Calls.call_function_entry kind_sorted plain_sorted entry_sorted (args_sorted1 _) ?_;unfold Builtin.«sorted»;refine q8 (m:=checkCount "sorted" 1 1 _) (qf ?_);refine q8 (col _ _ λvs s1 hC=>?_);have fw:=few vs s1 hC;refine q8 (wpAny_newList ?_ (by rw[qR];omega));have xM:(s1.heap.push (seqObj "list" vs.toArray 0)).get? s1.heap.objs.size=some (seqObj "list" vs.toArray 0):=jK _ rfl;have kp:∀b o,s1.heap.get? b=some o->(s1.heap.push (seqObj "list" vs.toArray 0)).get? b=some o:=λb o q=>jB _ q;have far:∀b o,s1.heap.get? b=some o->b≠s1.heap.objs.size:=λb o q=>jQ (jG q);show wpAny _ _ _ _ _ { s1 with heap:=s1.heap.push (seqObj "list" vs.toArray 0) };refine q8 (qK (qL slot_list_sort ⟨_,xM,rfl⟩ entry_list_sort ?_ (args_list_sort _)))
 by_cases two:2<=vs.length
 . refine wT (κ:=κ) (lt:=lt vs s1) (s:={ s1 with heap:=s1.heap.push (seqObj "list" vs.toArray 0) }) xM two fw (O vs s1 hC) (irr vs s1 hC) (λg hx R hR=>?_) (λg hx i j Z hi hj xK hZ=>?_) (λp g c pm sr hx hg=>?_)
   . exact kind vs s1 hC two g (λb o q=>hx b o (far b o q) (kp b o q)) R hR
   . exact less vs s1 hC g (λb o q=>hx b o (far b o q) (kp b o q)) i j Z hi hj xK hZ
   . exact⟨_,rfl,qf ⟨_,rfl,fin vs s1 hC p g c pm sr (λb o q=>hx b o (far b o q) (kp b o q)) hg⟩⟩
 . refine wp (s:={ s1 with heap:=s1.heap.push (seqObj "list" vs.toArray 0) }) xM 'd' λg c hx hg=>?_;exact⟨_,rfl,qf ⟨_,rfl,fin vs s1 hC (List.toArray (List.range vs.length)) g c (.refl _) (λi j h1 h2=>absurd h1 'd') (λb o q=>hx b o (far b o q) (kp b o q)) (by rw[wo];exact hg)⟩⟩
end
end L2
namespace L2
open PySem PySem.W PyProof.Rows
section
variable {prog:J1}{w:J2}{A:J3}{E:xp}{s:xZ}
def VIt(h:Heap)(it d:J0)(i n ep:Nat):Prop:=∃x y u v,h.get? it=some { cls := .type "dict_itemiterator",dict:=none,data := .fields #[x,y,.ref d,.int i 0,.int n 0,.int ep 0,u,v],slots:=#[] } /\
 ((x = .none/\y = .bool false)\/∃(a:J0) (oa:Obj) (f:Bool),x=rawInt (a:Nat)/\y = .bool f/\h.get? a=some oa/\it < a)
def VDc(h:Heap)(d:J0)(es:Array DictEntry)(ep:Nat):Prop:=∃o,h.get? d=some o/\o.data = .dict es ep
def mU(t:VIt s.heap it d i es.size ep)(D:VDc s.heap d es ep)(hi:i < es.size)
 (k:∀g,VIt g it d (i + 1) es.size ep->g.get? s.heap.objs.size=some { cls := .type "tuple",data := .seq #[es[i].key,es[i].val] }->g.objs.size=s.heap.objs.size + 1->(∀b o,b≠it->s.heap.get? b=some o->g.get? b=some o)->(∀u v,IsItemIter s.heap it d i es.size ep u v->IsItemIterOut g it d (i + 1) es.size ep es[i].key es[i].val s.heap.objs.size)->Q (some (.ref s.heap.objs.size)) { s with heap:=g }) :
 wpAny (model prog w) A (pyNext (.ref it)) Q E s:=by
 obtain⟨hp,gg,dr,tk,os⟩:=s;obtain⟨x,y,u,v,xM,own⟩:=t;obtain⟨od,od1,od2⟩:=D;have ty:Shared.TypeIs ⟨hp,gg,dr,tk,os⟩ (.ref it) "dict_itemiterator" := ⟨_,xM,rfl⟩;unfold pyNext;refine q8 (xi (qJ (name:=Str.ofString "__next__") ty PySem.F.slot_dict_itemiterator_next (qL PySem.F.slot_dict_itemiterator_next ty PySem.F.entry_dict_itemiterator_next ?_ (PySem.F.args_dict_itemiterator_next_1 _))));refine q8 (qf (q8 (q8 ?_)));refine q8 (xc ty (qf (q8 (wpAny_fieldsOf xM rfl ?_))));simp only[show Builtin.Dict_items.ownsTuple "dict_itemiterator" = true by decide,if_true];show wpAny _ _ (if (Value.ref d == Value.none)=true then _ else _) _ _ _;rw[qg 'j'];refine q8 (qf (q8 (wpAny_dictEntries od1 od2 ?_)));rw[qg 'j'];refine q8 (qf (q8 (wpAny_dictEpoch od1 od2 ?_)));rw[qg 'j'];refine qf ?_;simp only[show ¬((i:Int) < 0) by omega,xm,jp,jd hi];refine q8 (q8 (xc ty (qf (q8 (wpAny_isOneOf_itemiter ty ?_)))));show wpAny _ _ (setField (.ref it) 3 (rawInt ((i:Int) + 1)) >>= _) _ _ ⟨hp,gg,dr,tk,os⟩;refine q8 (qO xM 'j' λg1 at1 sb1=>?_);have sz1:g1.objs.size=hp.objs.size:=sb1.1;have low:it < hp.objs.size:=jG xM;obtain⟨g2,eg2⟩:∃g2,g2=g1.push { cls := .type "tuple",data := .seq #[es[i].key,es[i].val] }:=⟨_,rfl⟩
 have at2:g2.get? it=some { cls := .type "dict_itemiterator",dict:=none,data := .fields #[x,y,.ref d,.int ((i + 1:Nat):Int) 0,.int es.size 0,.int ep 0,u,v],slots:=#[] }:=by
  rw[eg2];refine jB _ ?_;have e:((i + 1:Nat):Int)=(i:Int) + 1:=by omega
  rw[e];simpa [rawInt] using at1
 have tup2:g2.get? hp.objs.size=some { cls := .type "tuple",data := .seq #[es[i].key,es[i].val] }:=by rw[eg2,<- sz1];exact jK _ rfl
 have sz2:g2.objs.size=hp.objs.size + 1:=by rw[eg2,j6,sz1]
 have kp2:∀b o,b≠it->hp.get? b=some o->g2.get? b=some o:=λb o hb e=>by rw[eg2];exact jB _ (sb1.extBut b o hb e)
 have ty1:Shared.TypeIs ⟨g1,gg,dr,tk,os⟩ (.ref it) "dict_itemiterator" := ⟨_,at1,rfl⟩
 have done:∀g:Heap,VIt g it d (i + 1) es.size ep->Heap.SameBut it g2 g->(∀u v,IsItemIter hp it d i es.size ep u v->IsItemIterOut g it d (i + 1) es.size ep es[i].key es[i].val hp.objs.size)->Q (some (.ref hp.objs.size)) ⟨g,gg,dr,tk,os⟩:=λg tg sb =>
  k g tg (sb.extBut _ _ (jn low) tup2) (by show g.objs.size=hp.objs.size + 1;rw[sb.1,sz2]) λb o hb e=>sb.extBut b o hb (kp2 b o hb e)
 have never:∀{a:Nat}{y' u' v':xY}{g:Heap},hp.get? it=some { cls := .type "dict_itemiterator",dict:=none,data := .fields #[rawInt a,y',.ref d,.int i 0,.int es.size 0,.int ep 0,u',v'],slots:=#[] }->∀u v,IsItemIter hp it d i es.size ep u v->IsItemIterOut g it d (i + 1) es.size ep es[i].key es[i].val hp.objs.size:=λh u v z=>by
  have z:=h.symm.trans z;simp[rawInt]at z
 refine q8 (qK (q8 (wpAny_isOneOf_itemiter ty1 (q8 (wpAny_isOneOf_itemiter ty1 ?_)))));show wpAny _ _ (Builtin.Dict_items.pairFromOwner (.ref it) 6 es[i].key es[i].val) _ _ ⟨g1,gg,dr,tk,os⟩;unfold Builtin.Dict_items.pairFromOwner;refine q8 (xj ?_);show wpAny _ _ (Builtin.Dict_items.ownedTupleIsFree (.ref it) >>= _) _ _ ⟨g1.push { cls := .type "tuple",data := .seq #[es[i].key,es[i].val] },gg,dr,tk,os⟩;rw[<- eg2,sz1];refine q8 ?_;unfold Builtin.Dict_items.ownedTupleIsFree;rcases own with ⟨rfl,rfl⟩ | ⟨a,oa,f,rfl,rfl,ha,hai⟩
 . refine q8 (qq at2 rfl (x := .none) rfl (qf ?_));simp only[if_true];refine q8 (qq at2 rfl (x:=u) rfl (q8 (qq at2 rfl (x:=v) rfl ?_)));refine q8 (qO at2 'j' λg3 at3 sb3=>q8 (qO at3 'j' λg4 at4 sb4=>q8 (qO at4 'j' λg5 at5 sb5=>q8 (qO at5 'j' λg6 at6 sb6=>?_))));have sb:Heap.SameBut it g2 g6:=((sb3.trans sb4).trans sb5).trans sb6;refine q8 (wpAny_letGo (qf (qf ⟨_,rfl,qf (done g6 ⟨_,_,_,_,at6,.inr ⟨hp.objs.size,_,false,rfl,rfl,sb.extBut _ _ (jn low) tup2,low⟩⟩ sb λ_ _ _=>at6)⟩)))
 . have ha2:=kp2 a oa (jn hai) ha;refine q8 (qq at2 rfl (x:=rawInt a) rfl ?_);show wpAny _ _ (loadIfAlive ((a:Int).toNat) >>= _) _ _ _;rw[jp];refine q8 (kdx_alive ha2 ?_);simp only[Option.isNone_some,kL,xm];refine q8 (qq at2 rfl (x := .bool f) rfl ?_)
   cases f with
   | true =>
    rw[qg 'j'];refine qf ?_;simp only[kL,xm];exact qf (qf ⟨_,rfl,qf (done g2 ⟨_,_,_,_,at2,.inr ⟨a,oa,true,rfl,rfl,ha2,hai⟩⟩ (Heap.SameBut.refl _ _) (never xM))⟩)
   | false =>
    rw[qh 'g'];refine q8 (qO at2 'j' λg3 at3 sb3=>?_);refine qf ?_;simp only[kL,xm];exact qf (qf ⟨_,rfl,qf (done g3 ⟨_,_,_,_,at3,.inr ⟨a,oa,true,rfl,rfl,sb3.extBut _ _ (jn hai) ha2,hai⟩⟩ sb3 (never xM))⟩)
def mV(hh:A.handled=none)(t:VIt s.heap it d es.size es.size ep)(D:VDc s.heap d es ep)
 (k:∀g,Heap.ExtBut it s.heap g->Q none { s with heap:=g }):wpAny (model prog w) A (pyNext (.ref it)) Q E s:=by
 obtain⟨x,y,u,v,xM,own⟩:=t;obtain⟨od,od1,od2⟩:=D;have ty:s.TypeIs (.ref it) "dict_itemiterator" := ⟨_,xM,rfl⟩;unfold pyNext;refine q8 (xi (qJ (name:=Str.ofString "__next__") ty PySem.F.slot_dict_itemiterator_next (qL PySem.F.slot_dict_itemiterator_next ty PySem.F.entry_dict_itemiterator_next ?_ (PySem.F.args_dict_itemiterator_next_1 _))));refine q8 (qf (q8 (q8 ?_)));refine q8 (xc ty (qf (q8 (wpAny_fieldsOf xM rfl ?_))));simp only[show Builtin.Dict_items.ownsTuple "dict_itemiterator" = true by decide,if_true];show wpAny _ _ (if (Value.ref d == Value.none)=true then _ else _) _ _ s;rw[qg 'j'];refine q8 (qf (q8 (wpAny_dictEntries od1 od2 ?_)));rw[qg 'j'];refine q8 (qf (q8 (wpAny_dictEpoch od1 od2 ?_)));rw[qg 'j'];refine qf ?_;simp only[show ¬((es.size:Int) < 0) by omega,xm,jp,kS (jD es.size)];refine q8 (q8 (xc ty (qf ?_)));show wpAny _ _ (setField (.ref it) 2 .none >>= _) _ _ s;refine q8 (qW xM rfl 'j' ?_);refine q8 ?_;unfold newExc newTuple;refine q8 (qw (q8 (m:=firstArgMember _ _) (xf (a:=Value.none) (by first | rfl | (unfold firstArgMember;rfl)) (qw ?_ (by size_fits)))) (by size_fits));unfold raiseNew;refine q8 (wpAny_handled ?_);rw[show A.in1.handled=none from hh];refine q8 (qf (wpAny_throw ?_));refine q8 (x8 (b:=true) (T := "StopIteration") ⟨_,jK _ rfl,rfl⟩ isSubtype_stop (qf ?_));exact k _ (((Heap.SameBut.update ..).extBut.push _).push _)
theorem mW(view:s.heap.IsItemsView r d)(D:VDc s.heap d es ep)
 (k:Q (.ref s.heap.objs.size) { s with heap:=s.heap.push { cls := .type "dict_itemiterator",data := .fields #[.none,.bool false,.ref d,.int 0 0,.int es.size 0,.int ep 0,.none,.none] } }):wpAny (model prog w) A (pyIter (.ref r)) Q E s:=by
 obtain⟨ov,v1,v2,v3⟩:=id view;obtain⟨od,od1,od2⟩:=D;refine wpAny_pyIter_slot view.typeIs PySem.F.slot_dict_items_iter (qL PySem.F.slot_dict_items_iter view.typeIs PySem.F.entry_dict_items_iter ?_ (PySem.F.args_dict_items_iter_1 _));unfold Builtin.«dict_items.__iter__»;refine q8 (qf (q8 ?_));unfold Builtin.Dict_items.dictOf;refine q8 (qq v1 v3 (x := .ref d) rfl (qf (q8 ?_)));unfold Builtin.Dict_items.newIterator;refine q8 (wpAny_dictEntries od1 od2 (q8 (wpAny_dictEpoch od1 od2 ?_)));simp only[show Builtin.Dict_items.ownsTuple "dict_itemiterator" = true by decide,if_true];refine qw (qf ⟨_,rfl, "dict_itemiterator",_,⟨_,jK _ rfl,rfl⟩,PySem.F.slot_dict_itemiterator_next.lookup,?_⟩) (by simp only[sizeOk,Builtin.Dict_items.ownedTupleFields,jH,jI,jP,kU,qR];omega);simpa [rawInt,Builtin.Dict_items.ownedTupleFields] using k
structure VPs (es:Array DictEntry) (lo:J0) (h:Heap) (as:List J0):Prop where
 nd:as.Nodup
 above:∀a∈as,lo < a
 pairs:∀(j:Nat) (a:J0),as[j]? = some a->∃e:DictEntry,es[j]? = some e/\h.get? a=some { cls := .type "tuple",data := .seq #[e.key,e.val] }
def VPs.there{es:Array DictEntry}{lo:J0}{h:Heap}{as:List J0}(g:VPs es lo h as){a:J0}(ha:a∈as):a < h.objs.size:=by
 obtain⟨j,hj⟩:=qC.mp ha;obtain⟨_,_,e⟩:=g.pairs j a hj;exact jG e
def VPs.kept{es:Array DictEntry}{lo:J0}{h h':Heap}{as:List J0}(g:VPs es lo h as)(k:∀b o,lo < b->h.get? b=some o->h'.get? b=some o):VPs es lo h' as:=⟨g.nd,g.above,λj a hj=>by
 obtain⟨e,h1,h2⟩:=g.pairs j a hj;exact⟨e,h1,k a _ (g.above a (jq hj)) h2⟩⟩
def VIt.kept(t:VIt h it d i n ep)(hS:S < it)(hT:∀b o,b≠S->h.get? b=some o->h'.get? b=some o):VIt h' it d i n ep:=by
 obtain⟨x,y,u,v,e,o⟩:=t;refine⟨x,y,u,v,hT _ _ (jn hS) e,?_⟩;rcases o with o | ⟨a,oa,f,h1,h2,h3,h4⟩
 . exact .inl o
 . exact .inr ⟨a,oa,f,h1,h2,hT _ _ (jn (Nat.lt_trans hS h4)) h3,h4⟩
theorem mX{S I d:J0}{es:Array DictEntry}{ep:Nat}{R:Result->xZ->Prop}(hh:A.handled=none)(hSI:S < I)(hdS:d≠S)(hdI:d≠I)(few:es.size<=sizeLine)(res:xY){h0:Heap}
 (k:∀g xT acc c as,(∀b o,b≠S->b≠I->h0.get? b=some o->g.get? b=some o)->g.get? S=some { cls := .type "list",dict:=none,data := .seq acc c,slots:=#[] }->as.length=es.size->VPs es I g as->acc.toList=as.map Value.ref->R (.ok (.ret res)) { s with heap:=g,toks:=xT }) :
 ∀(m i:Nat) (h:Heap) (xT c:Nat) (acc:xw) (as:List J0),es.size - i=m->i<=es.size->VIt h I d i es.size ep->VDc h d es ep->(∀b o,b≠S->b≠I->h0.get? b=some o->h.get? b=some o) ->
  h.get? S=some { cls := .type "list",dict:=none,data := .seq acc c,slots:=#[] }->acc.toList=as.map Value.ref->as.length=i->VPs es I h as->I < h.objs.size ->
  codeAny (model prog w) A (.builtin "list.extend.loop" ⟨[.ref S,.ref I,res],[]⟩) R { s with heap:=h,toks:=xT }
 | 0,i,h,xT,c,acc,as,hm,hi,t,D,kp,hS,ha,hl,ps,hIs=>by
  have ei:i=es.size:=by omega
  subst ei;refine qM PySem.F.entry_extend_loop ?_;rw[Around.under_plainId PySem.F.plain_extend_loop _];show wpAny _ A.in1 (pyNext (.ref I) >>= _) _ _ _;refine q8 (mV (s:={ s with heap:=h,toks:=xT }) (A:=A.in1) hh t D λg ex=>?_);exact qf (k g xT acc c as (λb o n1 n2 e=>ex b o n2 (kp b o n1 n2 e)) (ex S _ (jQ hSI) hS) hl (ps.kept λb o hb e=>ex b o (jn hb) e) ha)
 | m + 1,i,h,xT,c,acc,as,hm,hi,t,D,kp,hS,ha,hl,ps,hIs=>by
  have lt:i < es.size:=by omega
  have az:acc.size=i:=by rw[<- jU,ha,jA,hl]
  have hSl:S < h.objs.size:=jG hS;refine qM PySem.F.entry_extend_loop ?_;rw[Around.under_plainId PySem.F.plain_extend_loop _];show wpAny _ A.in1 (pyNext (.ref I) >>= _) _ _ _;refine q8 (mU (s:={ s with heap:=h,toks:=xT }) t D lt λg tg tup sz kg _=>?_);dsimp only at tup sz kg ⊢;have hS':=kg S _ (jQ hSI) hS;have up:∀b o,b≠S->g.get? b=some o->(g.update S (Obj.mapSeq (·.push (Value.ref h.objs.size)))).get? b=some o:=λb o hb e=>(jY _ _ (Ne.symm hb)).trans e;show wpAny _ A.in1 (updateSeq S (·.push (Value.ref h.objs.size)) >>= _) _ _ _;refine q8 (x6 hS' rfl (qf ⟨qU PySem.F.plain_extend_loop _,?_⟩) (by rw[az];omega) (by show(acc.push (Value.ref h.objs.size)).size<=sizeLine + 1;rw[Array.size_push,az];omega));obtain⟨od,od1,od2⟩:=D;refine mX hh hSI hdS hdI few res k m (i + 1) _ xT _ (acc.push (Value.ref h.objs.size)) (as ++ [h.objs.size]) 'd' lt (tg.kept hSI up) ⟨od,up d _ hdS (kg d _ hdI od1),od2⟩ (λb o n1 n2 e=>up b o n1 (kg b o n2 (kp b o n1 n2 e))) (ja _ hS' rfl) (by rw[Array.toList_push,ha,jo];rfl) (by rw[jI,hl];rfl) ⟨?_,?_,?_⟩ ?_
  . refine kQ.mpr ⟨ps.nd,by simp,λa ha' b hb e=>?_⟩;rw[jM.mp hb]at e;exact jQ (ps.there ha') e
  . intro a ha';rcases jO.mp ha' with ha' | ha'
    . exact ps.above a ha'
    . rw[jM.mp ha'];exact hIs
  . intro j b hj
    by_cases hj2:j < as.length
    . rw[kW hj2]at hj;obtain⟨e,e1,e2⟩:=ps.pairs j b hj;have hb:=ps.above b (jq hj);exact⟨e,e1,up b _ (jn (Nat.lt_trans hSI hb)) (kg b _ (jn hb) e2)⟩
    . rw[jw 'd']at hj
      have ej:j=i:=by
       by_cases z:j - as.length=0
       . omega
       . rw[List.getElem?_singleton,qg z]at hj;cases hj
      subst ej;rw[hl,Nat.sub_self]at hj;have eb:h.objs.size=b:=by simpa using hj
      subst eb;exact⟨es[j],jd lt,up _ _ (jn hSl) tup⟩
  . exact Nat.lt_trans hIs (jG (up _ _ (jn hSl) tup))
theorem mY(hh:A.handled=none)(view:s.heap.IsItemsView r d)(D:VDc s.heap d es ep)(S:J0)(hSr:S≠r)(hdS:d≠S)(res:xY)(c0:Nat)(hS:s.heap.get? S=some { cls := .type "list",data := .seq #[] c0 })(few:es.size<=sizeLine)
 (k:∀g xT acc c as,(∀b o,b≠S->s.heap.get? b=some o->g.get? b=some o)->g.get? S=some { cls := .type "list",dict:=none,data := .seq acc c,slots:=#[] }->as.length=es.size->VPs es s.heap.objs.size g as->acc.toList=as.map Value.ref->R (.ok (.ret res)) { s with heap:=g,toks:=xT }) :
 wpAny (model prog w) A.in1 (Builtin.List.listExtendWith (.ref S) (.ref r) res)
  (λfin s'=>match fin with | .done f=>R (.ok f) s' | .again c'=>c'.quiet=true/\codeAny (model prog w) A c' R s') (λe s'=>R (.error e) s') s:=by
 have hSI:S < s.heap.objs.size:=jG hS;obtain⟨od,od1,od2⟩:=id D;have hdI:d < s.heap.objs.size:=jG od1;obtain⟨oi,eoi⟩:∃oi:Obj,oi={ cls := .type "dict_itemiterator",data := .fields #[.none,.bool false,.ref d,.int 0 0,.int es.size 0,.int ep 0,.none,.none] }:=⟨_,rfl⟩
 have go:∀(h:Heap) (c1 xT:Nat),(∀b o,b≠S->(s.heap.push oi).get? b=some o->h.get? b=some o)->h.get? S=some { cls := .type "list",data := .seq #[] c1 } ->
  codeAny (model prog w) A (.builtin "list.extend.loop" ⟨[.ref S,.ref s.heap.objs.size,res],[]⟩) R { s with heap:=h,toks:=xT }:=λh c1 xT kp hS1=>by
  have hI:=kp s.heap.objs.size _ (jn hSI) (jK _ (by rw[eoi];rfl));have old:∀b o,b≠S->s.heap.get? b=some o->h.get? b=some o:=λb o hb e=>kp b o hb (jB _ e)
  refine mX (ep:=ep) (h0:=s.heap) hh hSI hdS (jQ hdI) few res (λg tk2 acc c as k1 k2 k3 k4 k5=>k g tk2 acc c as (λb o hb e=>k1 b o hb (jQ (jG e)) e) k2 k3 k4 k5)
   es.size 0 h xT c1 #[] [] (qG _) (jX _) ⟨.none,.bool false,.none,.none,by rw[hI,eoi];rfl,.inl ⟨rfl,rfl⟩⟩ ⟨od,old d _ hdS od1,od2⟩ (λb o hb _ e=>old b o hb e) hS1 rfl rfl ⟨jx,(λ_ ha=>nomatch ha),(λj a hj=>by simp at hj)⟩ (jG hI)
 unfold Builtin.List.listExtendWith;refine q8 (xa (T := "dict_items") view.typeIs ?_);simp only[show Builtin.List.listSameRef (.ref S) (.ref r)=false by simp[Builtin.List.listSameRef,hSr],show(Value.type "dict_items" == Value.type "list")=false by decide,show(Value.type "dict_items" == Value.type "tuple")=false by decide,Bool.or_false,kL,xm];refine q8 (mW view D ?_);rw[<- eoi];have hS1:=jB oi hS;refine q8 (qK (kdx_hint (let ⟨o,ho,hc,_⟩:=view;⟨o,jB _ ho,hc⟩) ?_));refine qu (λ_=>?_) (λ_=>qf ⟨qU PySem.F.plain_extend_loop _,go _ c0 _ (λb o _ e=>e) hS1⟩);refine q8 (x9 (q8 ?_));show wpAny _ _ (updateSeq S (·.push .none) >>= λ_=>updateSeq S (·.pop)) _ _ _;refine q8 (x6 hS1 rfl ?_);have hS2:=ja (Obj.mapSeq (·.push Value.none)) hS1 rfl;refine x6 (hz:=by seq_fits) hS2 rfl (qf ⟨qU PySem.F.plain_extend_loop _,go _ _ _ (λb o hb e=>?_) (ja (Obj.mapSeq (·.pop)) hS2 rfl)⟩);exact(jY _ _ (Ne.symm hb)).trans ((jY _ _ (Ne.symm hb)).trans e)
theorem wV(hh:A.handled=none)(view:s.heap.IsItemsView r d)(D:VDc s.heap d es ep)(few:es.size<=sizeLine)
 (k:∀(g:Heap) (xT:Nat) (as:List J0),(∀b o,s.heap.get? b=some o->g.get? b=some o)->s.heap.objs.size < g.objs.size->as.length=es.size->VPs es s.heap.objs.size g as->R (as.map Value.ref) { s with heap:=g,toks:=xT }) :
 wpAny (model prog w) A (collect (.ref r)) R E s:=by
 have hr:r < s.heap.objs.size:=let ⟨_,ho,_⟩:=view;jG ho;obtain⟨od,od1,od2⟩:=id D;have hd:d < s.heap.objs.size:=jG od1;unfold collect;refine q8 (wpAny_runValue (qM entry_proto_collect' ?_));rw[Around.under_plainId PySem.F.plain_proto_collect _];show wpAny _ A.in1 (newList [] >>= λl=>again (.builtin "list.__iadd__" ⟨[l,.ref r],[]⟩)) _ _ s;refine q8 (qw (qf ⟨qU PySem.F.plain_list_iadd _,qM entry_list_iadd' ?_⟩));rw[Around.under_plainId PySem.F.plain_list_iadd _];obtain⟨g0,eg0⟩:∃g0,g0=s.heap.push { cls := .type "list",data := .seq ([]:xx).toArray }:=⟨_,rfl⟩;have xM:g0.get? s.heap.objs.size=some { cls := .type "list",data := .seq #[] 0 }:=by rw[eg0];exact jK _ rfl
 have kp0:∀b o,s.heap.get? b=some o->g0.get? b=some o:=λb o e=>by rw[eg0];exact jB _ e
 show wpAny _ A.in1 (Builtin.List.listExtendWith (.ref s.heap.objs.size) (.ref r) (.ref s.heap.objs.size)) _ _ _;rw[<- eg0]
 have step:=mY (prog:=prog) (w:=w) (A:=A) (s:={ s with heap:=g0 }) (ep:=ep) (es:=es) (r:=r) (d:=d)
  (R:=λ(q:Result) (s':xZ)=>∃(g:Heap) (xT:Nat) (acc:xw) (c:Nat) (as:List J0),q = .ok (.ret (.ref s.heap.objs.size))/\s'={ s with heap:=g,toks:=xT }/\(∀b o,s.heap.get? b=some o->g.get? b=some o) /\
   g.get? s.heap.objs.size=some { cls := .type "list",dict:=none,data := .seq acc c,slots:=#[] }/\as.length=es.size/\VPs es s.heap.objs.size g as/\acc.toList=as.map Value.ref)
  hh (let ⟨o,ho,x⟩:=view;⟨o,kp0 _ _ ho,x⟩) ⟨od,kp0 _ _ od1,od2⟩ s.heap.objs.size (jn hr) (jQ hd) (.ref s.heap.objs.size) 0 xM few
  (λg xT acc c as k1 k2 k3 k4 k5=>⟨g,xT,acc,c,as,rfl,rfl,λb o e=>k1 b o (jQ (jG e)) (kp0 b o e),k2,k3,⟨k4.nd,λa ha=>js (by rw[eg0,j6];exact Nat.le_succ _) (k4.above a ha),k4.pairs⟩,k5⟩)
 have last:∀(g:Heap) (xT:Nat) (acc:xw) (c:Nat) (as:List J0),(∀b o,s.heap.get? b=some o->g.get? b=some o)->g.get? s.heap.objs.size=some { cls := .type "list",dict:=none,data := .seq acc c,slots:=#[] }->as.length=es.size->VPs es s.heap.objs.size g as->acc.toList=as.map Value.ref ->
  wpAny (model prog w) A (load s.heap.objs.size >>= λo=>match o.data with | .seq xs _=>pure xs.toList | _=>unsupported "internal:collect") R E { s with heap:=g,toks:=xT }:=λg xT acc c as k1 k2 k3 k4 k5=>by
  refine q8 (wpAny_load k2 (qf ?_));show R acc.toList _;rw[k5];exact k g xT as k1 (jG k2) k3 k4
 refine qQ step (λfin s2 x=>?_) λe s2 x=>?_
 . cases fin with
   | done f =>
    obtain⟨g,xT,acc,c,as,e,rfl,y⟩:=x
    cases e
    exact last g xT acc c as y.1 y.2.1 y.2.2.1 y.2.2.2.1 y.2.2.2.2
   | again c1 =>
    refine⟨x.1,xh x.2 λq s3 z=>?_⟩;obtain⟨g,xT,acc,c,as,rfl,rfl,y⟩:=z;exact last g xT acc c as y.1 y.2.1 y.2.2.1 y.2.2.2.1 y.2.2.2.2
 . obtain⟨_,_,_,_,_,z,_⟩:=x
   cases z
end
end L2
namespace L2
open PySem PySem.W PySem.Spec PyProof.Rows
section
variable {X:Cx}{xB:xr}{σ:St}{H H':Hp}{s:xZ}
def Inv.many(I:Inv X xB σ H s)(k:∀b u,s.heap.get? b=some u->g.get? b=some u)(same:∀b o,H b=some o->H' b=some o)
 (new:∀b o,H' b=some o->H b=some o\/(s.heap.objs.size<=b/\ObjOk X.prog X.w H' g b o)):Inv X xB σ H' { s with heap:=g,toks:=t' }:=by
 refine I.un ⟨λb u q _ _ _=>k b u q,λb u q _ _ _=>⟨u.slots,k b u q⟩,λb u q n _=>?_,λb u q _=>⟨u,k b u q⟩,λb xs q=>same b _ q,λb u xs q=>same b _ q,λb ps q=>⟨#[],by rw[same b _ q];simp⟩⟩ λb o e=>?_
 . cases e:H' b with
   | none=>rfl
   | some o =>
    rcases new b o e with z | ⟨z,_⟩
    . rw[n]at z;cases z
    . exact absurd (jG q) (Nat.not_lt.mpr z)
 . rcases new b o e with z | ⟨_,z⟩
   . exact(I.hok b o z).stay (λc v _ q=>k c v q) (λc q=>same c _ q) λc xs q=>same c _ q
   . exact z
end
section
variable {prog:J1}{w:J2}{A:J3}{E:xp}{s:xZ}
def eS(ho:s.heap.get? a=some o)(hd:o.ExactDict)(hs:(a == sysModules)=false)
 (k:Q (.ref s.heap.objs.size) { s with heap:=s.heap.push { cls := .type "dict_items",data := .fields #[.ref a] } }):wpAny (model prog w) A (call (.builtin "dict.items") [.ref a]) Q E s:=by
 have ty:s.TypeIs (.ref a) "dict" := ⟨o,ho,hd.1⟩;refine qL PySem.F.slot_dict_items ty PySem.F.entry_dict_items ?_ (PySem.F.args_dict_items_1 _);unfold Builtin.«dict.items» Builtin.Dict.noArgs;refine q8 (q8 (wpAny_notOrdered_dict ty (qf ?_)));show wpAny _ _ (Builtin.Dict.showsAll a >>= _) _ _ s;unfold Builtin.Dict.showsAll;rw[qg (by rw[hs];decide)];exact q8 (qf (q8 (qw (qf ⟨_,rfl,k⟩))))
theorem b7:∀{a b c:xA},HT.lexLt a b=true->HT.lexLt b c=true->HT.lexLt a c=true
 | [],[],[],h1,_=>h1
 | [],y :: b,[],_,h2=>by rw[HT.lexLt_cons_nil]at h2;cases h2
 | [],_,_ :: _,_,_=>rfl
 | _ :: _,[],_,h1,_=>by rw[HT.lexLt_cons_nil]at h1;cases h1
 | x :: a,y :: b,[],_,h2=>by rw[HT.lexLt_cons_nil]at h2;cases h2
 | x :: a,y :: b,z :: c,h1,h2=>by
  rw[HT.lexLt_cons]at h1 h2 ⊢
  by_cases e1:x=y
  . rw[qh e1]at h1
    by_cases e2:y=z
    . rw[qh e2]at h2;rw[qh (e1.trans e2)];exact b7 h1 h2
    . rw[qg e2]at h2;rw[e1,qg e2];exact h2
  . rw[qg e1]at h1;have l1:=x5 h1
    by_cases e2:y=z
    . rw[<- e2,qg e1];exact h1
    . rw[qg e2]at h2;have l2:=x5 h2;rw[qg 'd'];exact qm 'd'
theorem mZ:∀{a b:xA},a≠b->HT.lexLt a b=false->HT.lexLt b a=true
 | [],[],h,_=>absurd rfl h
 | [],_ :: _,_,h=>by cases h
 | _ :: _,[],_,_=>rfl
 | x :: a,y :: b,h,e=>by
  rw[HT.lexLt_cons]at e ⊢
  by_cases z:x=y
  . rw[qh z]at e;rw[qh z.symm];exact mZ (λq=>h (by rw[z,q])) e
  . rw[qg z]at e;rw[qg (Ne.symm z)];have:=of_decide_eq_false e;exact qm 'd'
end
theorem eT{α:Type}{o:α}:∀{L:List (J0×α)},L.lookup b=some o->(b,o)∈L
 | (c,u) :: L,h=>by
  rw[List.lookup_cons]at h;split at h
  . rename_i e;have:b=c:=by simpa using e
    cases h
    rw[this];exact .head _
  . exact .tail _ (eT h)
theorem n8{α:Type}{b:J0}{o:α}:∀{L:List (J0×α)},(L.map (·.1)).Nodup->(b,o)∈L->L.lookup b=some o
 | (c,u) :: L,nd,h=>by
  rw[jf,j5]at nd;rw[List.lookup_cons];rcases jL.mp h with e | h
  . cases e;simp
  . have ne:b≠c:=λz=>nd.1 (by rw[<- z];exact jW.mpr ⟨_,h,rfl⟩);rw[show(b == c)=false by simpa using ne];exact n8 nd.2 h
def more(H:Hp)(L:List (J0×HO)):Hp:=λb=>(L.lookup b).or (H b)
def b8(nd:(L.map (·.1)).Nodup)(h:(b,o)∈L):more H L b=some o:=by
 unfold more;rw[n8 nd h];rfl
def ZV(fr:∀p∈L,H p.1=none)(h:H b=some o):more H L b=some o:=by
 unfold more
 cases e:L.lookup b with
 | none=>exact h
 | some u=>rw[fr _ (eT e)]at h;cases h
def n9(h:more H L b=some o):H b=some o\/(b,o)∈L:=by
 unfold more at h
 cases e:L.lookup b with
 | none=>rw[e]at h;exact .inl h
 | some u=>rw[e]at h;cases h;exact .inr (eT e)
section
variable {X:Cx}{xB:xr}{σ:St}{H:Hp}{s:xZ}
abbrev kz(ks:List (xA×V)):List (List Key×V):=ks.map λkv=>(kv.1.map Sum.inl,kv.2)
def b9(H:Hp)(x:V)(kv:xA×V):Prop:=∃p b,x = .ref p/\H p=some (.tup [.ref b,kv.2])/\H b=some (.tup (kv.1.map V.int))
def X6(ns:xA):(ns.map (Sum.inl:Int->Key)).map kV=ns.map V.int:=by rw[kK];rfl
theorem ZW{α β:Type}{F:α->β->Prop}:∀{l:List α}{m:List β},Paired F l m->∀{i:Nat}{x:α},l[i]? = some x->∃y,m[i]? = some y/\F x y
 | _,_,.nil,i,x,h=>by simp at h
 | _,_,.cons h t,0,x,e=>by
  rw[List.getElem?_cons_zero]at e
  cases e;exact⟨_,rfl,h⟩
 | _,_,.cons h t,i + 1,x,e=>by
  rw[List.getElem?_cons_succ]at e;obtain⟨y,e1,e2⟩:=ZW t e;exact⟨y,by rw[List.getElem?_cons_succ];exact e1,e2⟩
theorem nc:∀(as:List J0) (fs:xx),as.length=fs.length->(∀(i:Nat) (b:J0) (f:xY),as[i]? = some b->fs[i]? = some f->∃o ys n,h.get? b=some o/\o.cls = .type "tuple" /\ o.data = .seq ys n/\ys[0]? = some f)->KatTups h (as.map Value.ref) fs
 | [],[],_,_=>KatTups.nil
 | b :: as,f :: fs,hl,k=>by
  obtain⟨o,ys,n,h1,h2,h3,h4⟩:=k 0 b f rfl rfl;exact KatTups.cons h1 h2 h3 h4 (nc as fs (by simpa using hl) λi b' f' e1 e2=>k (i + 1) b' f' (by simpa using e1) (by simpa using e2))
def nh(hr:Room k A):A.in1.in1.units < cLine:=by
 have:=hr.units;show A.units + 1 + 1 < cLine;omega
end
section
variable {X:Cx}{xB:xr}{σ:St}{H H':Hp}{s:xZ}
theorem YG:∀(a:xA),HT.lexLt a a=false
 | []=>rfl
 | x :: a=>by
  rw[HT.lexLt_cons,qh rfl];exact YG a
def wW(hc:X.calm=true)(hu:X.A.in1.in1.units < cLine)(I:Inv X xB σ H s)(e:H a=some (.dT (kz ks)))(few:ks.length < 100000)(view:s.heap.IsItemsView r a)
 (q:∀(H':Hp) (l:J0) (qs:List (xA×V)) (xs:List V),qs.Perm ks->qs.Pairwise (λp q=>HT.lexLt p.1 q.1=true)->Same H H'->H l=none->H' l=some (.lst xs)->xs.length=qs.length->(∀(i:Nat) (x:V) (kv:xA×V),xs[i]? = some x->qs[i]? = some kv->b9 H' x kv)->Q (.ref l) H') :
 wpAny (model X.prog X.w) X.A (call (.builtin "sorted") [.ref r]) (EP X xB σ Q) X.xe s:=by
 have hh:X.A.in1.handled=none:=I.ok.hd hc;obtain⟨_,_,xs,kt,o,es,ep,ho,hd,xV,hes,nd⟩:=(show ObjOk X.prog X.w H s.heap a (.dT (kz ks)) from I.hok a _ e);have xl:xs.length=ks.length:=by rw[<- kt.length,jA]
 have el:es.size=ks.length:=by rw[size_of_entries hes,xl]
 have big:es.size<=sizeLine:=by rw[el,qR];omega
 obtain⟨bb,ebb⟩:∃bb:Nat->J0,bb=λi=>(xs.getD i ([],0,.none)).2.1:=⟨_,rfl⟩;obtain⟨uu,euu⟩:∃uu:Nat->xY,uu=λi=>(xs.getD i ([],0,.none)).2.2:=⟨_,rfl⟩;obtain⟨kk,ekk⟩:∃kk:Nat->xA×V,kk=λi=>ks.getD i ([],.non):=⟨_,rfl⟩
 have at_:∀i,i < ks.length->xs[i]? = some ((kk i).1.map Sum.inl,bb i,uu i)/\H (bb i)=some (.tup ((kk i).1.map V.int))/\RelV (kk i).2 (uu i):=λi hi=>by
  have e1:(kz ks)[i]? = some ((kk i).1.map Sum.inl,(kk i).2):=by
   rw[jF,jC hi,ekk];simp[List.getD,hi]
  obtain⟨⟨k1,b1,u1⟩,e2,e3,e4,e5⟩:=ZW kt e1;have hx:xs.getD i ([],0,.none)=(k1,b1,u1):=by rw[jE,e2];rfl
  dsimp only at e3 e4 e5;rw[ebb,euu];dsimp only;rw[hx,e2,<- e3];exact⟨rfl,by rw[<- X6];exact e4,e5⟩
 have ent:∀i,i < ks.length->∃hs:Int,es[i]? = some ⟨hs,.ref (bb i),uu i⟩:=λi hi=>by
  rw[entry_at hes,(at_ i hi).1];exact⟨_,rfl⟩
 have dist:∀i j,i < ks.length->j < ks.length->i≠j->(kk i).1≠(kk j).1:=λi j hi hj xK z=>by
  have e1:(xs.map (·.1))[i]? = some ((kk i).1.map Sum.inl):=by rw[jF,(at_ i hi).1];rfl
  have e2:(xs.map (·.1))[j]? = some ((kk i).1.map Sum.inl):=by rw[jF,(at_ j hj).1,z];rfl
  obtain⟨a1,c1⟩:=jJ.mp e1;obtain⟨a2,c2⟩:=jJ.mp e2;exact xK ((List.getElem_inj nd).mp (c1.trans c2.symm))
 have ord:SOrd ks.length λi j=>HT.lexLt (kk i).1 (kk j).1:=⟨λi j k _ _ _ h1 h2=>b7 h1 h2,λi j hi hj xK h=>mZ (dist i j hi hj xK) h⟩
 have tp:∀i,i < ks.length->∃its:xx,IntsAre its.toArray.toList (kk i).1/\IsTup s.heap (bb i) its.toArray:=λi hi=>by
  obtain⟨its,rv,pl,_⟩:=I.tuple (.of (at_ i hi).2.1);exact⟨its,ve rv,pl⟩
 have keyAt:∀i,i < ks.length->∀g:Heap,(∀b o,s.heap.get? b=some o->g.get? b=some o)->(tupleKind (JA X.prog X.w)).is g ((kk i).1.map Sum.inl) (bb i):=λi hi g kp=>by
  obtain⟨o1,its,n1,h1,h2,h3,h4⟩:=ZI (a:=bb i) (ks:=(kk i).1.map Sum.inl) I.hok (by rw[X6];exact(at_ i hi).2.1);exact⟨o1,its,n1,kp _ _ h1,h2,h3,h4⟩
 let C:xx->xZ->Prop:=λvs s1=>∃(g:Heap) (tk:Nat) (as:List J0),s1={ s with heap:=g,toks:=tk }/\(∀b o,s.heap.get? b=some o->g.get? b=some o)/\s.heap.objs.size < g.objs.size/\vs=as.map Value.ref/\as.length=es.size/\VPs es s.heap.objs.size g as
 have pair:∀{g:Heap}{as:List J0},as.length=es.size->VPs es s.heap.objs.size g as->∀i,i < ks.length->as[i]? = some (as.getD i 0)/\g.get? (as.getD i 0)=some { cls := .type "tuple",data := .seq #[.ref (bb i),uu i] }:=fun {g as} hl ps i hi=>by
  have e1:as[i]? = some (as.getD i 0):=by rw[jE,jC 'd'];rfl
  obtain⟨en,e2,e3⟩:=ps.pairs i _ e1;obtain⟨hs,e4⟩:=ent i hi;rw[e4]at e2
  cases e2
  exact⟨e1,e3⟩
 refine mQ (C:=C) (λE' R hR=>wV (A:=X.A.in1) hh view ⟨o,ho,xV⟩ big λg tk as k1 k0 k2 k3=>hR _ _ ⟨g,tk,as,rfl,k1,k0,rfl,k2,k3⟩) (λvs s1 hC=>?_) (tuples' false) (λ_ _ i j=>HT.lexLt (kk i).1 (kk j).1) (λvs s1 hC=>?_) (λvs s1 hC i hi=>YG _) (λvs s1 hC two g2 kp2 R hR=>?_) (λvs s1 hC g2 kp2 i j Z hi hj xK hZ=>?_) (λvs s1 hC p g2 c pm sr kp2 hg=>?_)
 . obtain⟨g,tk,as,rfl,kp,up,rfl,hl,ps⟩:=hC;rw[jA];omega
 . obtain⟨g,tk,as,rfl,kp,up,rfl,hl,ps⟩:=hC;rw[jA,hl,el];exact ord
 . obtain⟨g,tk,as,rfl,kp,up,rfl,hl,ps⟩:=hC;rw[jA]at two
   have t:=nc (h:=g2) as (xs.map λq=>Value.ref q.2.1) (by rw[jA];omega) λi b f e1 e2=>by
    have hi:i < ks.length:=by have:=(jJ.mp e1).1;omega
    obtain⟨f1,f2⟩:=pair hl ps i hi;rw[f1]at e1;rw[jF,(at_ i hi).1]at e2
    cases e1;cases e2
    exact⟨_,_,_,kp2 _ _ f2,rfl,rfl,rfl⟩
   refine kat_kind (T := .type "tuple") t (by rw[jA];omega) (λv hv=>?_) rfl (by rw[show(Value.type "tuple" != Value.type "tuple")=false by decide];exact hR);obtain⟨x,hx,rfl⟩:=jW.mp hv;obtain⟨i,hi,rfl⟩:=List.mem_iff_getElem.mp hx;have e1:=(at_ i 'd').1;rw[jC hi]at e1;obtain⟨o1,its,n1,h1,h2,h3,h4⟩:=keyAt i 'd' g2 λb o q=>kp2 b o (kp b o q);rw[Option.some.inj e1];have L:Looks (model X.prog X.w) g2 (typeOf (.ref (bb i))) o1.cls:=(Looks.ld h1).andThen .now;rw[h2]at L;exact L
 . obtain⟨g,tk,as,rfl,kp,up,rfl,hl,ps⟩:=hC;rw[jA,hl,el]at hi hj;obtain⟨f1,f2⟩:=pair hl ps i hi;obtain⟨f3,f4⟩:=pair hl ps j hj;have v1:(as.map Value.ref).getD i Value.none = .ref (as.getD i 0):=by rw[jE,jF,f1];rfl
   have v2:(as.map Value.ref).getD j Value.none = .ref (as.getD j 0):=by rw[jE,jF,f3];rfl
   rw[v1,v2];have kp3:∀b o,s.heap.get? b=some o->g2.get? b=some o:=λb o q=>kp2 b o (kp b o q);refine kat_lt (kp2 _ _ f2) rfl (kp2 _ _ f4) rfl (kat_cons ((tupleKind (JA X.prog X.w)).eqBool (E:=λ_ _=>False) hu (keyAt i hi g2 kp3) (keyAt j hj g2 kp3) ?_));have ne:(kk i).1.map (Sum.inl:Int->Key)≠(kk j).1.map Sum.inl:=λz=>dist i j hi hj xK ((List.map_inj_right (λ_ _ h=>Sum.inl.inj h)).mp z);rw[qk ne];refine kat_no (kat_one _ _ ?_);obtain⟨i1,n1,o1,h1,h2,m1,h3⟩:=tp i hi;obtain⟨i2,n2,o2,h4,h5,m2,h6⟩:=tp j hj;exact HT.lt_tupInts ⟨o1,kp3 _ _ h1,h2,m1,h3⟩ ⟨o2,kp3 _ _ h4,h5,m2,h6⟩ n1 n2 hu hZ
 . obtain⟨g,tk,as,rfl,kp,up,rfl,hl,ps⟩:=hC;rw[jA,hl,el]at pm sr;dsimp only at kp2 hg ⊢;have kp3:∀b o,s.heap.get? b=some o->g2.get? b=some o:=λb o q=>kp2 b o (kp b o q);have pz:p.toList.length=ks.length:=by rw[jU];exact pm.size
   have pin:∀i∈p.toList,i < ks.length:=λi hi=>by
    have:=pm.mem_iff.mp (Array.mem_toList_iff.mp hi);simpa using this
   have low:∀i,i < ks.length->s.heap.objs.size < as.getD i 0/\as.getD i 0 < g.objs.size:=λi hi=>by
    have m:=jq (pair hl ps i hi).1;exact⟨ps.above _ m,ps.there m⟩
   obtain⟨l,el2⟩:∃l,l=g.objs.size:=⟨_,rfl⟩;rw[<- el2]at hg ⊢
   let L:List (J0×HO):=(List.range ks.length).map (λi=>(as.getD i 0,HO.tup [.ref (bb i),(kk i).2])) ++ [(l,.lst (p.toList.map λi=>V.ref (as.getD i 0)))]
   have asl:(List.range ks.length).map (λi=>as.getD i 0)=as:=by
    refine k7 (by rw[jA,kR];omega) λi h1 h2=>?_;rw[kG,List.getElem_range,jE,jC h2];rfl
   have Lk:L.map (·.1)=as ++ [l]:=by
    show((List.range ks.length).map (λi=>(as.getD i 0,HO.tup [.ref (bb i),(kk i).2])) ++ [(l,HO.lst (p.toList.map λi=>V.ref (as.getD i 0)))]).map (·.1)=as ++ [l];rw[jo,kK];show(List.range ks.length).map (λi=>as.getD i 0) ++ [l]=as ++ [l];rw[asl]
   have Ln:(L.map (·.1)).Nodup:=by
    rw[Lk,kQ];refine⟨ps.nd,by simp,λb hb c hc e=>?_⟩;have:=ps.there hb;rw[jM.mp hc,el2]at e;exact jQ this e
   have Lf:∀x∈L,s.heap.objs.size<=x.1:=λx hx=>by
    have:x.1∈as ++ [l]:=by rw[<- Lk];exact jW.mpr ⟨x,hx,rfl⟩
    rcases jO.mp this with h | h
    . exact kE (ps.above _ h)
    . rw[jM.mp h,el2];exact kE up
   have fr:∀x∈L,H x.1=none:=λx hx=>I.hok.fresh (Lf x hx);have inP:∀i,i < ks.length->(as.getD i 0,HO.tup [.ref (bb i),(kk i).2])∈L:=λi hi=>jZ _ (jW.mpr ⟨i,kh.mpr hi,rfl⟩);have inL:(l,HO.lst (p.toList.map λi=>V.ref (as.getD i 0)))∈L:=jN _ (jM.mpr rfl)
   have out:Qm (as.map Value.ref) p=p.toList.map λi=>Value.ref (as.getD i 0):=by
    unfold Qm;refine j9 λi hi=>?_;rw[jE,jF,(pair hl ps i (pin i hi)).1];rfl
   refine⟨.ref l,more H L,I.many (t':=tk) kp3 (λb u q=>ZV fr q) (λb u q=>?_),rfl,q (more H L) l (p.toList.map kk) (p.toList.map λi=>V.ref (as.getD i 0)) ?_ ?_ (λb u q=>ZV fr q) (fr _ inL) (b8 Ln inL) (by rw[jA,jA]) λj x kv e1 e2=>?_⟩
   . rcases n9 q with q | q
     . exact .inl q
     . refine .inr ⟨Lf _ q,?_⟩;rcases jO.mp q with q | q
       . obtain⟨i,hi,ei⟩:=jW.mp q;have hi:=kh.mp hi
         cases ei
         exact⟨by show 2<=sizeLine;decide,[.ref (bb i),uu i],.cons rfl (.cons (at_ i hi).2.2 .nil),_,kp2 _ _ (pair hl ps i hi).2,rfl,_,rfl⟩
       . cases jM.mp q
         refine⟨by rw[jA,pz,qR];omega,p.toList.map λi=>Value.ref (as.getD i 0),c,?_,by rw[<- out];exact hg⟩;generalize p.toList=pl
         induction pl with
         | nil=>exact .nil
         | cons i pl ih=>exact .cons rfl ih
   . have e1:(List.range ks.length).map kk=ks:=by
      refine k7 (by rw[jA,kR]) λi h1 h2=>?_;rw[kG,List.getElem_range,ekk];simp[List.getD,h2]
     have:=(show p.toList.Perm (List.range ks.length) from kP.mp pm).map kk
     rwa [e1]at this
   . rw[kT];refine List.pairwise_iff_getElem.mpr λi j hi hj xK=>?_;have:=sr i j xK 'd';have g1:p.getD i 0=p.toList[i]:=by simp[Array.getD,show i < p.size by simpa using hi]
     have g3:p.getD j 0=p.toList[j]:=by simp[Array.getD,show j < p.size by simpa using hj]
     rw[g1,g3]at this;exact this
   . rw[jF]at e1 e2
     cases ej:p.toList[j]? with
     | none=>rw[ej]at e1;cases e1
     | some i =>
      rw[ej]at e1 e2
      cases e1;cases e2
      have hi:=pin i (jq ej);exact⟨_,bb i,rfl,b8 Ln (inP i hi),ZV fr (at_ i hi).2.1⟩
def wX(td:TE):TE:=λσ H Q=>td σ H λx H1=>∃a ks,x = .ref a/\H1 a=some (.dT (kz ks))/\ks.length < 100000 /\
 ∀(H':Hp) (l:J0) (qs:List (xA×V)) (xs:List V),qs.Perm ks->qs.Pairwise (λp q=>HT.lexLt p.1 q.1=true)->Same H1 H'->H1 l=none->H' l=some (.lst xs)->xs.length=qs.length->(∀(i:Nat) (x:V) (kv:xA×V),xs[i]? = some x->qs[i]? = some kv->b9 H' x kv)->Q (.ref l) H'
def nj{td:TE}{p ap cp pos:Pos}(hc:X.calm=true)(hu:X.A.in1.in1.units < cLine)(hg:Gl X "sorted")(hm:X.mg "sorted" = none)(hv:bootBuiltins "sorted" = some (.builtin "sorted"))(ho:PE X o td)
 (xN:attributeBase o "items" X.env (eval o X.env)=eval o X.env:=by rfl) (xO:(ap.endLine == cp.line)=true:=by rfl):PE X (.Call (.Name "sorted" p) [.Call (.Attribute o "items" ap) [] [] cp] [] pos) (wX td):=by
 intro xB s σ H Q I h;refine qN (QB I hg hm hv ?_ 'f' 'f');refine PyProof.Rows.callWith_builtin1 ?_ rfl rfl;show wpAny _ _ (spliced [(false,eval (.Call (.Attribute o "items" ap) [] [] cp) X.env)]) _ _ s;refine Calls.spliced_cons (wpAny_Call_method0_late xN xO (thn (ho xB s σ H _ I h) λv s1 fv=>?_));obtain⟨x,H1,I1,r1,a,ks,ex,e1,few,q1⟩:=fv;subst ex;obtain rfl:v=Value.ref a:=r1;obtain⟨t1,t2,t3⟩:=aG I1 (.inr ⟨_,.inl e1⟩);obtain⟨_,_,xs,kt,o1,es,ep,ho1,hd1,_⟩:=(show ObjOk X.prog X.w H1 s1.heap a (.dT (kz ks)) from I1.hok a _ e1);refine⟨"dict", "dict.items",PySem.F.plainAttrs_dict,PySem.F.slot_dict_items,PySem.F.type_dict_items,t1,t2,Calls.callWith_builtin rfl (PySem.evalArgs_none (eS ho1 hd1 t3 ?_))⟩;refine Calls.spliced_nil ?_;have I2:=I1.kept (h':=s1.heap.push { cls := .type "dict_items",data := .fields #[.ref a] }) (t':=s1.toks) λb u q=>jB _ q;exact wW hc hu I2 e1 few ⟨_,jK _ rfl,rfl,rfl⟩ q1
end
end L2
namespace PySem.SeqAt
open AutoSeq1 (wpAny_loadPart')
open MeetsSeq MeetsSeq2 MeetsSeq3 SeqRoads2
def tuple_indexAt(l:J0)(items:xw)(n:Nat)(dd:Option J0)(sl:Array (xu))(x:xY)(e:xY->Bool)(j:Nat)(hj:j < items.size)
 (hit:e items[j]=true) (hno:∀m (hm:m < items.size),m < j->e items[m]=false) :
 Meets (Builtin.«tuple.index» ⟨[.ref l,x],[]⟩)
  (λA R s=>s.heap.get? l=some { cls := .type "tuple",dict:=dd,data := .seq items n,slots:=sl }/\(∀y,y∈items->EqAt A.in1 s y x (e y))/\R (.ok (.ret (.int j s.toks))) { s with toks:=s.toks + 1 }) :=
 .of_wp λprog w A R s h=>by
  obtain⟨hp,g,d,tk,os⟩:=s;obtain⟨hl,he,h⟩:=h;wp_walk using wpAny_loadPart' hl;show wpAny _ _ (forIn [0:min items.size items.size] (none,()) _) _ _ _;rw[Std.Legacy.Range.forIn_eq_forIn_range'];simp only[Std.Legacy.Range.size,qG,Nat.add_sub_cancel,Nat.div_one,Nat.min_self]
  refine wpAny_forIn_list _
   (λxG b s'=>b.1=none/\s'=⟨hp,g,d,tk,os⟩/\∃i,xG=List.range' i (items.size - i)/\i<=j)
   _ ?_ ?_ _ _ ⟨rfl,rfl,0,by simp,jX _⟩
  . rintro a xG b s' ⟨hb,rfl,i,hr,hi⟩;have hlt:i < items.size:=by omega
    obtain⟨rfl,hrest⟩:a=i/\xG=List.range' (i + 1) (items.size - (i + 1)):=by
     have e:items.size - i=(items.size - (i + 1)) + 1:=by omega
     rw[e,List.range'_succ]at hr;injection hr with h1 h2
     exact⟨h1,h2⟩
    rw[jd hlt];refine q8 (he _ (Array.getElem_mem hlt) prog w _ _ ?_)
    by_cases xK:a=j
    . subst xK;rw[hit];wp_walk;exact⟨_,rfl,h⟩
    . rw[hno a hlt 'd'];wp_walk;exact⟨rfl,rfl,a + 1,hrest,by omega⟩
  . rintro⟨b1,b2⟩ s' ⟨hb,rfl,i,hr,hi⟩;have e:items.size - i=(items.size - (i + 1)) + 1:=by omega
    rw[e,List.range'_succ]at hr
    cases hr
end PySem.SeqAt
namespace L2
open PySem PySem.Spec PyProof.Rows
section
variable {X:Cx}
def nk(K:xt)(hK:X.K=K):MtR X "tuple.index" (λv vs H Q=>∃(p:J0) (xs:List V) (y:V) (j:Nat) (hj:j < xs.length),v = .ref p/\vs=[y]/\SqT K H p xs/\Ql y=true/\xs.all Ql=true/\eqV xs[j] y=true/\(∀m (hm:m < xs.length),m < j->eqV xs[m] y=false)/\Q (.int j) H):=by
 subst hK;intro xB s σ H v vs u us Q I rx rs h;obtain⟨p,xs,y,j,hj,rfl,rfl,hH,fy,fx,hit,hno,q⟩:=h
 cases rx
 obtain⟨u,rfl,ru⟩:=Qj rs;obtain⟨its,r,pl,z⟩:=I.tuple hH;have hl:=r.length
 have same:∀m (hm:m < xs.length),∃hm':m < its.length,eqU y its[m]=eqV xs[m] y:=λm hm=>by
  obtain⟨w,hw,rw'⟩:=r.get (jC hm);obtain⟨hm',e'⟩:=jJ.mp hw;refine⟨hm',?_⟩;rw[e'];exact aC rw' (List.all_eq_true.mp fx _ (jl hm))
 have ty:=pl.typeIs;obtain⟨⟨cls,dd,dat,sl⟩,e,hc,n,hd⟩:=pl
 cases hc
 cases hd
 refine call_meets (Q:=EP X xB σ Q) PySem.F.slot_tuple_index ty PySem.F.entry_tuple_index (PySem.F.args_tuple_index_2 _ _)
  (SeqAt.tuple_indexAt p its.toArray n dd sl u (eqU y) j (by rw[jH];omega) ?_ ?_) ⟨e,λw hw=>Ze ru fy r fx w (by simpa using hw),⟨.int _,H,I.tok _,⟨_,rfl⟩,q⟩⟩
 . obtain⟨hm',e'⟩:=same j hj;simpa [e'] using hit
 . intro m hm hmj;have hm2:m < xs.length:=by rw[jH]at hm;omega
   obtain⟨hm',e'⟩:=same m hm2;simpa [e'] using hno m hm2 hmj
def TupZ(H:Hp)(p:J0)(xs:List V):Prop:=∃o,H p=some (.frz o (.tup xs))/\o.dict=none
def TupZ.sq{K:xt}{H:Hp}{p:J0}{xs:List V}(h:TupZ H p xs):SqT K H p xs:=by obtain⟨o,h,_⟩:=h;exact .inl (.inr ⟨o,h⟩)
def TupZ.same(h:TupZ H p xs)(s:Same H H'):TupZ H' p xs:=by obtain⟨o,h,d⟩:=h;exact⟨o,s _ _ h,d⟩
def nq(K:xt)(hK:X.K=K):Q7 X (.type "tuple") (λxs H Q=>∃p ys,xs=[.ref p]/\SqL K H p ys/\∀l o,H l=none->o.dict=none->Q (.ref l) (upd H l (.frz o (.tup ys)))):=by
 subst hK;intro xB s σ H xs us Q I r h;obtain⟨p,ys,rfl,hq,q⟩:=h;obtain⟨u,rfl,rx⟩:=Qj r
 cases rx
 obtain⟨its,r',pl,hz⟩:=I.list hq;have xH:=r'.length;refine call_tuple_list pl.isList (λh' kp=>?_) (by simp only[jH]<;>omega);have I1:Inv X xB σ H { s with heap:=h' }:=I.kept (t':=s.toks) kp
 have I2:Inv X xB σ (upd H h'.objs.size (.frz { cls := .type "tuple",data := .seq its.toArray } (.tup ys))) { s with heap:=h'.push { cls := .type "tuple",data := .seq its.toArray } } :=
  I1.laid (t':=s.toks) (λb o e=>jB _ e) (jD _) (show ObjOk X.prog X.w _ _ _ (.frz _ (.tup ys)) from⟨jK _ rfl,hz,its,r',IsTup.new _ _⟩)
 exact⟨.ref h'.objs.size,_,I2,rfl,q _ _ (I1.hok.fresh (jD _)) rfl⟩
def wY(r:V->List V->Hp->VK->Prop)(to:TE)(t:TA):TE:=λσ H Q=>to σ H λx H1=>∃p xs,x = .ref p/\TupZ H1 p xs/\t σ H1 λxs H2=>r x xs H2 Q
variable {o e:Expr}{es:List Expr}{to:TE}{t:TA}{name:Str}{apos cpos:Pos}{id:String}{r:V->List V->Hp->VK->Prop}
theorem nw(slot:Slot "tuple" name id)(hty:typeOf (.builtin id)=pure (.type "method_descriptor"))(hm:MtR X id r)(ho:PE X o to)(ha:PA X (e :: es) t)
 (xN:attributeBase o name X.env (eval o X.env)=eval o X.env:=by rfl)
 (hfew:((backTo cpos (starEach (e :: es) X.env)).all (λx => !x.1) && (backToKw cpos (keywordEach [] X.env)).all (λx=>x.1.isSome)
  && decide ((e :: es).length + ([]:List Keyword).length + (if ([]:List Keyword).isEmpty then 0 else 1) < 30))=true:=by rfl)
 (xO:(apos.endLine == cpos.line)=true:=by rfl) (hs:starEach (e :: es) X.env=(false,eval e X.env) :: starEach es X.env:=by rfl) (hplain:(backTo cpos (starEach es X.env)).any (·.1)=false:=by rfl) :
 PE X (.Call (.Attribute o name apos) (e :: es) [] cpos) (wY r to t):=by
 intro xB s σ H Q I h;refine wpAny_Call_method_late xN hfew xO rfl (thn (ho xB s σ H _ I h) λv s1 fv=>?_);obtain⟨x,H1,I1,r1,p,xs,ex,tz,q1⟩:=fv;subst ex;have r1':=r1
 cases r1'
 obtain⟨_,_,pl,_⟩:=I1.tuple (X:=X) tz.sq
 have h2:∃ob,s1.heap.get? p=some ob/\ob.dict=none:=by
  obtain⟨ob,e1,e2⟩:=tz;exact⟨ob,(I1.hok p _ e1).1,e2⟩
 refine⟨"tuple",id,PySem.F.plainAttrs_tuple,slot,hty,pl.typeIs,λa e=>(by cases e;exact h2),?_⟩;have hA:=ha cpos xB s1 σ H1 _ I1 q1;rw[hs]at hA ⊢;refine Calls.callWith_builtin (by show(false || (backTo cpos (starEach es X.env)).any (·.1))=false;rw[hplain]<;>rfl) (Calls.evalArgs_plain ?_);exact thn hA λus s2 ⟨vs,H2,I2,r2,q2⟩=>hm xB s2 σ H2 _ vs _ us Q I2 r1 r2 q2
def ny(K:xt):R2:=λx y H Q=>∃a b xs ys,x = .ref a/\y = .ref b/\SqT K H a xs/\SqT K H b ys/\xs.length + ys.length<=sizeLine /\
 (xs=[]->Q (.ref b) H)/\(xs≠[]->ys=[]->Q (.ref a) H)/\(ys≠[]->∀p,H p=none->Q (.ref p) (upd H p (.tup (xs ++ ys))))
theorem eU(K:xt)(hK:X.K=K):OpR X (binaryOp .Add) (ny K):=by
 subst hK;intro xB s σ H x y v u Q I rx ry h;obtain⟨a,b,xs,ys,rfl,rfl,ha,hb,hz,q0,q1,q2⟩:=h
 by_cases hx:xs=[]
 . cases rx
   cases ry
   obtain⟨its,r1,p1,_⟩:=I.tuple ha;obtain⟨its2,r2,p2,_⟩:=I.tuple hb;have e:=r1.nil_iff.mpr hx;obtain⟨⟨cls,dd,data,sl⟩,ho,hc,n,hd⟩:=id p1;obtain⟨⟨cls2,dd2,data2,sl2⟩,xR,hc2,n2,hd2⟩:=id p2;simp only at hc hd hc2 hd2;subst hc hd hc2 hd2
   exact concat_meets ⟨_,ho,rfl⟩ ⟨_,xR,rfl⟩ noFill_tuple_add seq_tuple_add PySem.F.slot_tuple_add PySem.F.entry_tuple_add (PySem.F.args_tuple_add_2 _ _)
    (tuple_addW0 a b its.toArray its2.toArray n n2 dd dd2 sl sl2 (by simp[e])) ⟨ho,xR,⟨.ref b,H,I,rfl,q0 hx⟩⟩
 . exact lC xB s σ H _ _ v u Q I rx ry ⟨a,b,xs,ys,rfl,rfl,ha,hb,hx,hz,q1 hx,q2⟩
end
section
variable {X:Cx}
def wZ:R2:=λx y H Q=>∃a b xs ys,x = .ref a/\y = .ref b/\TupZ H a xs/\TupZ H b ys/\xs.length + ys.length<=sizeLine/\∀p H',Same H H'->TupZ H' p (xs ++ ys)->Q (.ref p) H'
theorem eV:OpR X (binaryOp .Add) wZ:=by
 intro xB s σ H x y v u Q I rx ry h;obtain⟨a,b,xs,ys,rfl,rfl,ha,hb,hz,q⟩:=h
 cases rx
 cases ry
 obtain⟨its,r1,p1,_⟩:=I.tuple (ha.sq (K:=X.K));obtain⟨its2,r2,p2,_⟩:=I.tuple (hb.sq (K:=X.K))
 by_cases hx:xs=[]
 . have e:=r1.nil_iff.mpr hx;obtain⟨⟨cls,dd,data,sl⟩,ho,hc,n,hd⟩:=id p1;obtain⟨⟨cls2,dd2,data2,sl2⟩,xR,hc2,n2,hd2⟩:=id p2;simp only at hc hd hc2 hd2;subst hc hd hc2 hd2
   exact concat_meets ⟨_,ho,rfl⟩ ⟨_,xR,rfl⟩ noFill_tuple_add seq_tuple_add PySem.F.slot_tuple_add PySem.F.entry_tuple_add (PySem.F.args_tuple_add_2 _ _)
    (tuple_addW0 a b its.toArray its2.toArray n n2 dd dd2 sl sl2 (by simp[e])) ⟨ho,xR,⟨.ref b,H,I,rfl,q b H (Same.refl _) (by rw[hx];exact hb)⟩⟩
 . refine HT.cat_tup p1 p2 (λz=>hx (r1.nil_iff.mp z)) (λz=>⟨.ref a,H,I,rfl,q a H (Same.refl _) (by rw[r2.nil_iff.mp z,ju];exact ha)⟩) (λz=>?_) (by rw[<- r1.length,<- r2.length];exact hz);have fr:=I.hok.fresh (jD s.heap.objs.size);refine⟨.ref s.heap.objs.size,_,I.laid (t':=s.toks) (o := .frz { cls := .type "tuple",data := .seq (its ++ its2).toArray } (.tup (xs ++ ys))) (λb ob q=>jB _ q) (jD _) ?_,rfl,q _ _ (Ja fr _) ⟨_,J8,rfl⟩⟩;exact⟨jK _ rfl,by rw[jI];exact hz,_,r1.append r2,IsTup.new _ _⟩
def y6(K:xt)(tl:TE):TI:=λσ H R=>tl σ H λx H1=>∃a,x = .ref a/\(((∃xs,SqL K H1 a xs)/\R (Itl K a) H1)\/((∃xs,SqT K H1 a xs)/\R (Itt K a) H1))
def y8(hl:PE X l tl):PI X tg l (y6 X.K tl):=by
 intro xB s σ H R I h;refine thn (hl xB s σ H _ I h) λv s1 fv=>?_;obtain⟨x,H1,I1,r1,q1⟩:=fv;obtain⟨a,e,q⟩:=q1;subst e
 cases r1
 rcases q with ⟨⟨xs,hq⟩,q⟩ | ⟨⟨xs,hq⟩,q⟩
 . obtain⟨its,rv,p,hz⟩:=I1.list hq;refine wpAny_pyIter_list p.isList ?_;refine⟨s1.heap.objs.size,[s1.heap.objs.size],_,_,H1,rfl,I1.kept (t':=s1.toks) λb o e=>jB _ e,iE a _,⟨_,jK _ rfl,rfl,rfl⟩,λb hb=>?_,q⟩;have e:b=s1.heap.objs.size:=by simpa using hb
   subst e;exact I1.fpOk (jD _) (I1.hok.fresh (jD _))
 . obtain⟨its,rv,p,hz⟩:=I1.tuple hq;refine wpAny_pyIter_tuple (show s1.heap.IsTuple a its.toArray from p) ?_;refine⟨s1.heap.objs.size,[s1.heap.objs.size],_,_,H1,rfl,I1.kept (t':=s1.toks) λb o e=>jB _ e,iF a _,⟨_,jK _ rfl,rfl,rfl⟩,λb hb=>?_,q⟩;have e:b=s1.heap.objs.size:=by simpa using hb
   subst e;exact I1.fpOk (jD _) (I1.hok.fresh (jD _))
end
def nA{X:Cx}{i:Nat}{x:Str}{es:List Expr}{t:TA}{b:Expr}{tb:TE}{r:R2}{p p2 pos pos':Pos}(hN:X.N.Nodup)(hi:X.N[i]? = some x)(hx:X.env.scope.names.lookup x=some .local)(hr:IxR X r)(ha:PA X es t)(hb:PE X b tb)(hs:lD b) :
 PS X (.Assign [.Name x pos'] (.Subscript (.List es p) b p2) pos) (X0 (tOp r (dL t) tb) (Jm i)) :=
 Jg hN hi (.inl hx) (Jf hr (Qw ha) hb hs) (hs:=rfl) (hf := .inr hx)
section
variable {X:Cx}
def y9:SlR X (λx lo hi H Q=>∃z,x = .str z/\z.length<=sizeLine/\Q (.str (Txt.slice z lo hi)) H):=by
 intro xB s σ H x v vl vu lo hi sl Q I rx hs pl pu h;obtain⟨z,rfl,hz,q⟩:=h;obtain⟨t,rfl⟩:=rx
 obtain⟨l,rfl,el⟩:∃l:Option (Int×Tok),vl=partValue l/\l.map (·.1)=lo:=by
  cases pl
  . exact⟨none,rfl,rfl⟩
  . exact⟨some (_,_),rfl,rfl⟩
 obtain⟨u,rfl,eu⟩:∃u:Option (Int×Tok),vu=partValue u/\u.map (·.1)=hi:=by
  cases pu
  . exact⟨none,rfl,rfl⟩
  . exact⟨some (_,_),rfl,rfl⟩
 refine⟨"str",_,F.slot_str_getitem.lookup,typeIs_str s z t,wpAny_getItem_str_slice (l:=l) (u:=u) (st:=none) hs rfl ?_⟩;subst el eu;exact post_val_or_str ⟨jh (Txt.slice_le z _ _) hz,λt' k=>⟨.str _,H,I.tok k,⟨_,rfl⟩,q⟩⟩
end
section
variable {X:Cx}
inductive PJ (X:Cx):List Expr->List TE->Prop
 | nil:PJ X [] []
 | cons {e:Expr}{es:List Expr}{t:TE}{ts:List TE} (h:PE X e t) (r:PJ X es ts):PJ X (e :: es) (t :: ts)
def ya:MtM X "list.index" (λv vs H Q=>∃(p:J0) (xs:List V) (y:V) (j:Nat) (hj:j < xs.length),v = .ref p/\vs=[y]/\H p=some (.lst xs)/\Ql y=true/\xs.all Ql=true/\eqV xs[j] y=true/\(∀m (hm:m < xs.length),m < j->eqV xs[m] y=false)/\Q (.int j) H):=by
 intro xB s σ H v vs u us Q I rx rs h;obtain⟨p,xs,y,j,hj,rfl,rfl,hH,fy,fx,hit,hno,q⟩:=h
 cases rx
 obtain⟨u,rfl,ru⟩:=Qj rs;obtain⟨z,its,n,r,hl,e⟩:=I.lstM hH
 have same:∀m (hm:m < xs.length),∃hm':m < its.length,eqU y its[m]=eqV xs[m] y:=λm hm=>by
  obtain⟨w,hw,rw'⟩:=r.get (jC hm);obtain⟨hm',e'⟩:=jJ.mp hw;refine⟨hm',?_⟩;rw[e'];exact aC rw' (List.all_eq_true.mp fx _ (jl hm))
 have hn:=Yr;have hs:sizeLine=16777216:=qR
 refine call_meets (Q:=EP X xB σ Q) PySem.F.slot_list_index ⟨_,e,rfl⟩ PySem.F.entry_list_index (PySem.F.args_list_index_2 _ _)
  (SeqAt.list_indexAt p its.toArray n none #[] u (eqU y) j (by rw[jH];omega) 'd' ?_ ?_) ⟨e,λw hw=>Ze ru fy r fx w (by simpa using hw),⟨.int _,H,I.tok _,⟨_,rfl⟩,q⟩⟩
 . obtain⟨hm',e'⟩:=same j hj;simpa [e'] using hit
 . intro m hm hmj;have hm2:m < xs.length:=by rw[jH]at hm;omega
   obtain⟨hm',e'⟩:=same m hm2;simpa [e'] using hno m hm2 hmj
end
def eX:V->List V->Hp->VK->Prop:=λv vs H Q=>∃(p:J0) (xs:List V) (y:V) (j:Nat) (hj:j < xs.length),v = .ref p/\vs=[y]/\H p=some (.lst xs)/\Ql y=true/\xs.all Ql=true/\eqV xs[j] y=true/\(∀m (hm:m < xs.length),m < j->eqV xs[m] y=false)/\Q (.int j) H
def yb{to te:TE}{apos cpos:Pos}(ho:PE X o to)(he:PE X e te)
 (xN:attributeBase o "index" X.env (eval o X.env)=eval o X.env:=by rfl)
 (hfew:((backTo cpos (starEach [e] X.env)).all (λx => !x.1) && (backToKw cpos (keywordEach [] X.env)).all (λx=>x.1.isSome)
  && decide ([e].length + ([]:List Keyword).length + (if ([]:List Keyword).isEmpty then 0 else 1) < 30))=true:=by rfl)
 (xO:(apos.endLine == cpos.line)=true:=by rfl) (hs:starEach [e] X.env=[(false,eval e X.env)]:=by rfl) :
 PE X (.Call (.Attribute o "index" apos) [e] [] cpos) (tBM X.K "list" eX to (Jy te JR)) :=
 XM (r:=eX) PySem.F.plainAttrs_list PySem.F.slot_list_index PySem.F.type_list_index ya ho (J4 he J6 hs) xN hfew xO hs rfl
def yc{ta to te:TE}{r:R2}{apos cpos pos:Pos}(K:xt)(hK:X.K=K)(hr:IxR X r)(ha:PE X a ta)(ho:PE X o to)(he:PE X e te)
 (xN:attributeBase o "index" X.env (eval o X.env)=eval o X.env:=by rfl)
 (hfew:((backTo cpos (starEach [e] X.env)).all (λx => !x.1) && (backToKw cpos (keywordEach [] X.env)).all (λx=>x.1.isSome)
  && decide ([e].length + ([]:List Keyword).length + (if ([]:List Keyword).isEmpty then 0 else 1) < 30))=true:=by rfl)
 (xO:(apos.endLine == cpos.line)=true:=by rfl) (hs:starEach [e] X.env=[(false,eval e X.env)]:=by rfl) :
 PE X (.Subscript a (.Call (.Attribute o "index" apos) [e] [] cpos) pos) (tOp r ta (tBM K "list" eX to (Jy te JR))) :=
 hK ▸ Jf hr ha (yb ho he xN hfew xO hs) (λ_ _=>rfl)
end L2
namespace L2
open PySem PySem.W PySem.Spec PyProof.Rows
def yd:typeLookup (.type "list_reverseiterator") "__len__" = pure none:=by rw[xo,xb];kernel_rfl
def yf:typeLookup (.type "list_reverseiterator") "__length_hint__" = pure (some (.builtin "list_reverseiterator.__length_hint__")):=by rw[xo,xb];kernel_rfl
structure RvSrc (prog:J1) (w:J2) (T:String) (I d:J0) (n:Nat) (P:Nat->xY->Prop) (St:Nat->Heap->Prop):Prop where
 walk:∀A:J3,A.handled=none->Walks prog w A I [I,d] [I] n P St
 type:∀(s:xZ),St 0 s.heap->s.TypeIs (.ref I) T
 there:∀h:Heap,St 0 h->I < h.objs.size/\d < h.objs.size
 notList:(Value.type T == Value.type "list")=false
 notTuple:(Value.type T == Value.type "tuple")=false
 hint:∀(A:J3) (E:xp) (s:xZ) (Q:Bool->xZ->Prop),A.handled=none->St 0 s.heap->(∀b tk,Q b { s with toks:=tk })->wpAny (model prog w) A (Builtin.List.listLengthHint (.ref I)) Q E s
section
variable {prog:J1}{w:J2}{A:J3}{E:xp}{s:xZ}{T:String}{I d:J0}{n:Nat}{P:Nat->xY->Prop}{St:Nat->Heap->Prop}
def yg(K:RvSrc prog w T I d n P St)(hh:A.handled=none)(xX:St 0 s.heap)(S:J0)(hSI:S≠I)(hSd:S≠d)(res:xY)(c₀:Nat)(hS:s.heap.get? S=some { cls := .type "list",data := .seq #[] c₀ })(hn:n<=sizeLine)
 (hR:∀h' tk acc' c',(∀b o,b≠S->b≠I->s.heap.get? b=some o->h'.get? b=some o)->h'.get? S=some { cls := .type "list",dict:=none,data := .seq acc' c',slots:=#[] }->ItemsOf P acc' n->R (.ok (.ret res)) { s with heap:=h',toks:=tk }) :
 wpAny (model prog w) A.in1 (Builtin.List.listExtendWith (.ref S) (.ref I) res)
  (λfin s'=>match fin with | .done f=>R (.ok f) s' | .again c'=>c'.quiet=true/\codeAny (model prog w) A c' R s') (λe s'=>R (.error e) s') s:=by
 have W:=K.walk A.in1 hh;have hSf:S∉[I,d]:=by simp only[jL,jz,xk,not_or];exact⟨hSI,hSd⟩
 have key:∀(h:Heap) (c₁ tk:Nat),St 0 h->(∀b o,b≠S->s.heap.get? b=some o->h.get? b=some o) ->
  h.get? S=some { cls := .type "list",data := .seq #[] c₁ }->codeAny (model prog w) A (.builtin "list.extend.loop" ⟨[.ref S,.ref I,res],[]⟩) R { s with heap:=h,toks:=tk }:=by
  intro h c₁ tk xX hk hS₁;refine codeAny_extend_loopS W.toS hn S hSf res n 0 _ #[] c₁ rfl (jX _) xX hS₁ (ItemsOf.nil _) λs' acc' c' hm hS' hacc=>?_;rw[Moved.eq_with hm];refine hR s'.heap s'.toks acc' c' (λb o hb hbI e=>hm.heap b o (λhmem=>?_) (hk b o hb e)) hS' hacc;rcases jL.mp hmem with e' | hmem
  . exact hb e'
  . exact hbI (jM.mp hmem)
 unfold Builtin.List.listExtendWith;refine q8 (xa (T:=T) (K.type s xX) ?_);have h1:Builtin.List.listSameRef (.ref S) (.ref I)=false:=by simp[Builtin.List.listSameRef,hSI]
 simp only[h1,K.notList,K.notTuple,Bool.or_false,kL,xm];refine q8 (W.self 0 _ _ _ xX ?_);refine q8 (qK (K.hint _ _ _ _ hh xX λb tk=>?_));refine qu (λ_=>?_) (λ_=>qf ⟨qU PySem.F.plain_extend_loop _,key _ c₀ _ xX (λb o _ e=>e) hS⟩);refine q8 (x9 ?_);refine q8 ?_;show wpAny _ _ (updateSeq S (·.push .none) >>= λ_=>updateSeq S (·.pop)) _ _ _;refine q8 (x6 hS rfl ?_);have hS₂:=ja (Obj.mapSeq (·.push Value.none)) hS rfl;refine x6 (hz:=by seq_fits) hS₂ rfl ?_;have hS₃:=ja (Obj.mapSeq (·.pop)) hS₂ rfl;refine qf ⟨qU PySem.F.plain_extend_loop _,key _ _ _ ?_ (λb o hb e=>?_) hS₃⟩
 . refine W.frame 0 _ _ xX λb hb o e=>?_;have hbS:b≠S:=λh=>hSf (h ▸ hb);exact(jY _ _ (Ne.symm hbS)).trans ((jY _ _ (Ne.symm hbS)).trans e)
 . exact(jY _ _ (Ne.symm hb)).trans ((jY _ _ (Ne.symm hb)).trans e)
def yh(K:RvSrc prog w T I d n P St)(hh:A.handled=none)(xX:St 0 s.heap)(S:J0)(hSI:S≠I)(hSd:S≠d)(hS:s.heap.get? S=some { cls := .type "list",data := .seq #[] })(hn:n<=sizeLine)
 (hR:∀h' tk acc' c',(∀b o,b≠S->b≠I->s.heap.get? b=some o->h'.get? b=some o)->h'.get? S=some { cls := .type "list",dict:=none,data := .seq acc' c',slots:=#[] }->ItemsOf P acc' n->R (.ok (.ret .none)) { s with heap:=h',toks:=tk }) :
 wpAny (model prog w) A.in1 (Builtin.«list.__init__» ⟨[.ref S,.ref I],[]⟩)
  (λfin s'=>match fin with | .done f=>R (.ok f) s' | .again c'=>c'.quiet=true/\codeAny (model prog w) A c' R s') (λe s'=>R (.error e) s') s:=by
 show wpAny _ _ (do let old <- Builtin.List.listItems (.ref S);Builtin.List.listUpdate (.ref S) (λ_=>#[]);letGo old.toList.reverse;Builtin.List.listExtendWith (.ref S) (.ref I) .none) _ _ s;refine q8 ?_;unfold Builtin.List.listItems;refine q8 (qS hS rfl (qf ?_));show wpAny _ _ (updateSeq S (λ_=>#[]) >>= λ_=>letGo (#[]:xw).toList.reverse >>= λ_=>Builtin.List.listExtendWith (.ref S) (.ref I) .none) _ _ s;refine q8 (x6 hS rfl ?_);have hS₂:=ja (Obj.mapSeq (λ_=>(#[]:xw))) hS rfl
 have oth:∀b o,b≠S->s.heap.get? b=some o->(s.heap.update S (Obj.mapSeq (λ_=>(#[]:xw)))).get? b=some o :=
  λb o hb e=>(jY _ _ (Ne.symm hb)).trans e
 refine q8 (wpAny_letGo ?_);refine yg K hh ((K.walk A hh).frame 0 _ _ xX λb hb o e=>oth b o (λz=>?_) e) S hSI hSd .none _ hS₂ hn (λh' tk acc' c' hk hS' hacc=>?_)
 . subst z;rcases jL.mp hb with z | z
   . exact hSI z
   . exact hSd (jM.mp z)
 . exact hR h' tk acc' c' (λb o hb hbI e=>hk b o hb hbI (oth b o hb e)) hS' hacc
def yi(K:RvSrc prog w T I d n P St)(hh:A.handled=none)(xX:St 0 s.heap)(hn:n<=sizeLine)
 (hQ:∀h' tk acc' c',(∀b o,b≠I->s.heap.get? b=some o->h'.get? b=some o)->h'.get? s.heap.objs.size=some { cls := .type "list",dict:=none,data := .seq acc' c',slots:=#[] }->ItemsOf P acc' n->Q (.ref s.heap.objs.size) { s with heap:=h',toks:=tk }) :
 wpAny (model prog w) A (call (.type "list") [.ref I]) Q E s:=by
 refine callType_codes (Q₁:=λobj s₁=>obj = .ref s.heap.objs.size/\s₁={ s with heap:=s.heap.push { cls := .type "list",data := .seq #[] } }) PySem.F.called_list (PySem.F.typeCall_list_1 _) PySem.F.entry_list_init
  (code_list_new _ ⟨rfl,rfl⟩) λobj s₁ h₁=>?_
 obtain⟨rfl,rfl⟩:=h₁;have hS:(s.heap.push { cls := .type "list",data := .seq #[] }).get? s.heap.objs.size=some { cls := .type "list",data := .seq #[] }:=jK _ rfl;have hlt:=K.there _ xX;refine⟨⟨_,hS,rfl⟩,PySem.F.args_list_init_2 _ _,yh (A:=A.in1) K hh ((K.walk A hh).frame 0 _ _ xX λb _ o e=>jB _ e) _ (jn hlt.1) (jn hlt.2) hS hn (λh' tk acc' c' hk hS' hacc=>?_)⟩;exact⟨rfl,hQ h' tk acc' c' (λb o hI e=>hk b o (jQ (jG e)) hI (jB _ e)) hS' hacc⟩
def yj(hT:s.TypeIs (.ref r) "list_reverseiterator")(h:Q false s):wpAny (model prog w) A (Builtin.List.listLengthHint (.ref r)) Q E s:=by
 unfold Builtin.List.listLengthHint;refine q8 (wpAny_specialOf hT yd ?_);show wpAny _ A (specialOf (Value.ref r) (Str.ofString "__length_hint__") >>= _) _ _ _;refine q8 (wpAny_specialOf hT yf ?_);generalize hid:("list_reverseiterator.__length_hint__" : String)=id0;wp_delta;rw[show splitId id0=some ("list_reverseiterator", "__length_hint__") from by subst hid;decide +kernel];subst hid;refine q8 (x8 (b:=true) hT (by rw[isSubtype_type];kernel_rfl) ?_);exact qf h
theorem yk(I l:J0)(hne:l≠I)(items:xw):RvSrc prog w "list_reverseiterator" I l items.size (λi v=>items[items.size - 1 - i]? = some v) (λi h=>i<=items.size/\h.IsRevIter I l ((items.size:Int) - 1 - (i:Int))/\h.IsList l items) where
 walk:=λA hh=>Walks.listRev hh I l hne items
 type:=λs x=>x.2.1.typeIs
 there:=λh x=>by
  obtain⟨_,⟨o,ho,_⟩,⟨o2,xR,_⟩⟩:=x;exact⟨jG ho,jG xR⟩
 notList:=by decide
 notTuple:=by decide
 hint:=λA E s Q _ x hq=>yj x.2.1.typeIs (hq false s.toks)
end
section
variable {X:Cx}{e:Expr}{te:TE}{p p2 cp pos:Pos}
def ym(K:xt)(te:TE):TE:=λσ H Q=>te σ H λx H1=>∃a xs,x = .ref a/\SqL K H1 a xs/\∀l,H1 l=none->Q (.ref l) (upd H1 l (.lst xs.reverse))
theorem nB:∀{xs:List V}{us:xx},Vals xs us->Vals xs.reverse us.reverse
 | _,_,.nil => .nil
 | _,_,.cons h t=>by
  rw[List.reverse_cons,List.reverse_cons];exact(nB t).append (.cons h .nil)
def yn{items acc:xw}(h:ItemsOf (λi v=>items[items.size - 1 - i]? = some v) acc items.size):acc.toList=items.toList.reverse:=by
 refine List.ext_getElem? λi=>?_
 by_cases hi:i < items.size
 . have hz:i < acc.size:=by rw[h.1];exact hi
   have h1:=h.2 i acc[i] (jd hz);rw[kB,jd hz,List.getElem?_reverse (by simpa using hi),kB,jU];exact h1.symm
 . rw[qD (by rw[jU,h.1];omega),qD (by simp;omega)]
def yo(K:xt)(hK:X.K=K)(hc:X.calm=true)(hg:Gl X "list")(hm:X.mg "list" = none)(hv:bootBuiltins "list" = some (.type "list"))(hg2:Gl X "reversed")(hm2:X.mg "reversed" = none)(hv2:bootBuiltins "reversed" = some (.type "reversed"))(ho:PE X e te)
 (he:starEach [e] X.env=[(false,eval e X.env)]:=by rfl):PE X (.Call (.Name "list" p) [.Call (.Name "reversed" p2) [e] [] cp] [] pos) (ym K te):=by
 subst hK;intro xB s σ H Q I h;refine qN (QB I hg hm hv ?_ 'f' 'f');refine PyProof.Rows.callWith_type1 ?_ rfl rfl;show wpAny _ _ (spliced [(false,eval (.Call (.Name "reversed" p2) [e] [] cp) X.env)]) _ _ s;refine Calls.spliced_cons (qN (QB I hg2 hm2 hv2 ?_ 'f' 'f'));refine PyProof.Rows.callWith_type1 ?_ he rfl;rw[he];show wpAny _ _ (spliced [(false,eval e X.env)]) _ _ s;refine Calls.spliced_cons (thn (ho xB s σ H _ I h) λv s1 fv=>?_);obtain⟨x,H1,I1,r1,a,xs,ex,q1,k⟩:=fv;subst ex;obtain rfl:v=Value.ref a:=r1;refine Calls.spliced_nil ?_;obtain⟨its,rv,pl,lz⟩:=I1.list q1;have la:=pl.isList;have hh:X.A.handled=none:=I1.ok.hd hc;refine call_reversed_list la ?_;refine Calls.spliced_nil ?_;have ia:a≠s1.heap.objs.size:=by obtain⟨o,ho,_⟩:=la;exact jQ (jG ho)
 have vl:=rv.length;refine yi (s:={ s1 with heap:=s1.heap.push (revObj a ((its.toArray.size:Int) - 1)) }) (yk s1.heap.objs.size a ia its.toArray) hh ⟨jX _,⟨_,jK _ rfl,rfl,by simp[revObj]⟩,la.at λo e=>jB _ e⟩ (by rw[jH];omega) λh' tk acc c k1 k2 k3=>?_;have kp:∀b o,s1.heap.get? b=some o->h'.get? b=some o:=λb o e=>k1 b o (jQ (jG e)) (jB _ e);have up:s1.heap.objs.size<=(s1.heap.push (revObj a ((its.toArray.size:Int) - 1))).objs.size:=by simp[Heap.push]
 have fr:H1 (s1.heap.push (revObj a ((its.toArray.size:Int) - 1))).objs.size=none:=I1.hok.fresh up
 have ea:acc=its.reverse.toArray:=by
  have:=yn k3;rw[<- Array.toArray_toList (xs:=acc),this]
 refine⟨.ref _,upd H1 _ (.lst xs.reverse),I1.laid (t':=tk) kp up (show ObjOk X.prog X.w _ h' _ (.lst xs.reverse) from⟨by rw[List.length_reverse];exact lz,its.reverse,c,nB rv,by rw[<- ea];exact k2⟩),rfl,k _ fr⟩
end
def sv:xY->Str
 | .str k _=>k
 | _=>Str.empty
theorem eY:∀{vs:xx}{ss:xy},StrsAre vs ss->∀(i:Nat),i < vs.length->∃tk,vs.getD i Value.none = .str (ss.getD i Str.empty) tk
 | _,_,.nil,i,h=>absurd h (qE _)
 | _,_,.cons _ t _,0,_=>⟨t,rfl⟩
 | _,_,.cons _ _ r,i + 1,h=>by
  obtain⟨tk,e⟩:=eY r i (by simpa using h);exact⟨tk,by simpa using e⟩
def yp{a b:Str}(h:a.cps.toList=b.cps.toList):a=b:=by
 obtain⟨⟨x⟩⟩:=a;obtain⟨⟨y⟩⟩:=b;have:x=y:=h;rw[this]
def ltS(a b:Str):Prop:=a.cps.toList < b.cps.toList
instance (a b:Str):Decidable (ltS a b):=inferInstanceAs (Decidable (a.cps.toList < b.cps.toList))
def ba(h:ltS a b)(h':ltS b c):ltS a c:=List.lt_trans h h'
def eZ(n:a≠b)(h:¬ltS a b):ltS b a:=by
 by_cases z:ltS b a
 . exact z
 . exact absurd (yp (List.le_antisymm (List.not_lt.mp z) (List.not_lt.mp h))) n
section
variable {X:Cx}{xB:xr}{σ:St}{H:Hp}{s:xZ}
theorem Inv.drawn(I:Inv X xB σ H s)(d:Drawn):Inv X xB σ H { s with drawn:=d } :=
 I.step (h':=s.heap) (g':=s.gens) (t':=s.toks) (d':=d) (ch:=[]) (λ_ z=>nomatch z) (λb o _ _ _ e _=>e) (λb o _ _ _ e _=>⟨o.slots,e⟩) (λb o _ _ n=>n) (λb o _ e=>⟨o,e⟩) (λ_ _ e=>e) (λ_ _ _ e=>e) (λ_ ps e=>⟨#[],by rw[Array.append_empty];exact e⟩) (λm hm=>hm) I.hok I.bare
def nC(I:Inv X xB σ H s)(nd:ks.Nodup)(few:ks.length < 64)
 (col:∀(E':xp) (R:xx->xZ->Prop),(∀(g:Heap) (tk:Nat) (d:Drawn) vs ss,(∀b o,s.heap.get? b=some o->g.get? b=some o)->s.heap.objs.size<=g.objs.size->ss.Perm ks->StrsAre vs ss->R vs { s with heap:=g,toks:=tk,drawn:=d })->wpAny (model X.prog X.w) X.A.in1 (collect x) R E' s)
 (q:∀(l:J0) (ss:xy),H l=none->ss.Perm ks->ss.Pairwise ltS->Q (.ref l) (upd H l (.lst (ss.map V.str)))) :
 wpAny (model X.prog X.w) X.A (call (.builtin "sorted") [x]) (EP X xB σ Q) X.xe s:=by
 let C:xx->xZ->Prop:=λvs s1=>∃(g:Heap) (tk:Nat) (d:Drawn) (ss:xy),s1={ s with heap:=g,toks:=tk,drawn:=d }/\(∀b o,s.heap.get? b=some o->g.get? b=some o)/\s.heap.objs.size<=g.objs.size/\ss.Perm ks/\StrsAre vs ss
 have at_:∀vs s1,C vs s1->∃ss:xy,ss.Nodup/\ss.Perm ks/\vs.length=ss.length/\(∀i,i < vs.length->sv (vs.getD i Value.none)=ss.getD i Str.empty/\∃tk,vs.getD i Value.none = .str (ss.getD i Str.empty) tk):=λvs s1 hC=>by
  obtain⟨g,tk,d,ss,_,_,_,pp,sa⟩:=hC;refine⟨ss,pp.nodup_iff.mpr nd,pp,StrsAre.length sa,λi hi=>?_⟩;obtain⟨tk,e⟩:=eY sa i hi;exact⟨by rw[e];rfl,tk,e⟩
 refine mQ (C:=C) (λE' R hR=>col E' R λg tk d vs ss k1 k2 k3 k4=>hR _ _ ⟨g,tk,d,ss,rfl,k1,k2,k3,k4⟩) (λvs s1 hC=>?_) oneType' (λvs _ i j=>decide (ltS (sv (vs.getD i Value.none)) (sv (vs.getD j Value.none)))) (λvs s1 hC=>?_) (λvs s1 _ i _=>qk (List.lt_irrefl _)) (λvs s1 hC two g2 kp2 R hR=>?_) (λvs s1 hC g2 kp2 i j Z hi hj xK hZ=>?_) (λvs s1 hC p g2 c pm sr kp2 hg=>?_)
 . obtain⟨ss,_,pp,l,_⟩:=at_ vs s1 hC;rw[l,pp.length_eq];omega
 . obtain⟨ss,ns,pp,l,at2⟩:=at_ vs s1 hC;refine⟨λi j k _ _ _ h1 h2=>qm (ba (x5 h1) (x5 h2)),λi j hi hj xK h=>qm (eZ (λz=>?_) (of_decide_eq_false h))⟩;rw[(at2 i hi).1,(at2 j hj).1]at z;have hi':i < ss.length:=by omega
   have hj':j < ss.length:=by omega
   simp only[List.getD,jC hi',jC hj',Option.getD_some]at z;exact xK ((List.getElem_inj ns).mp z)
 . obtain⟨ss,ns,pp,l,at2⟩:=at_ vs s1 hC;refine kas_kind (T := .type "str") two (λv hv=>?_) 'f' 'f' hR;obtain⟨i,hi,rfl⟩:=List.mem_iff_getElem.mp hv;obtain⟨_,tk,e⟩:=at2 i hi;simp only[List.getD,jC hi,Option.getD_some]at e;rw[e];exact .now
 . obtain⟨ss,ns,pp,l,at2⟩:=at_ vs s1 hC;obtain⟨e1,t1,f1⟩:=at2 i hi;obtain⟨e2,t2,f2⟩:=at2 j hj;rw[f1,f2];rw[e1,e2]at hZ;exact kas_lt_str hZ
 . obtain⟨ss,ns,pp,l,at2⟩:=at_ vs s1 hC;obtain⟨g,tk,d,_,rfl,kp,up,_,_⟩:=hC;dsimp only at kp2 hg ⊢;have pz:p.toList.length=ss.length:=by rw[jU,pm.size];exact l
   have pin:∀i∈p.toList,i < ss.length:=λi hi=>by
    have:=pm.mem_iff.mp (Array.mem_toList_iff.mp hi);rw[<- l];simpa using this
   have perm:(p.toList.map λi=>ss.getD i Str.empty).Perm ss:=by
    have e1:(List.range ss.length).map (λi=>ss.getD i Str.empty)=ss:=by
     refine k7 'j' λi h1 h2=>?_;simp[List.getD,h2]
    have:=(show p.toList.Perm (List.range vs.length) from kP.mp pm).map λi=>ss.getD i Str.empty;rw[l]at this
    rwa [e1]at this
   have fr:H g.objs.size=none:=I.hok.fresh up;have kp3:∀b o,s.heap.get? b=some o->g2.get? b=some o:=λb o z=>kp2 b o (kp b o z);refine⟨.ref g.objs.size,upd H g.objs.size (.lst ((p.toList.map λi=>ss.getD i Str.empty).map V.str)),(I.drawn d).laid (t':=tk) kp3 up (show ObjOk X.prog X.w _ g2 _ (.lst ((p.toList.map λi=>ss.getD i Str.empty).map V.str)) from⟨by rw[jA,jA,pz,pp.length_eq,qR];omega,Qm vs p,c,?_,hg⟩),rfl,q _ _ fr (perm.trans pp) ?_⟩
   . unfold Qm
     have:∀pl:xz,(∀i∈pl,i < ss.length)->Vals ((pl.map λi=>ss.getD i Str.empty).map V.str) (pl.map λi=>vs.getD i Value.none):=λpl=>by
      induction pl with
      | nil=>intro _;exact .nil
      | cons i pl ih =>
       intro hp;obtain⟨_,t1,f1⟩:=at2 i (by rw[l];exact hp i 'j');rw[jf,jf,jf,f1];exact .cons ⟨_,rfl⟩ (ih λk hk=>hp k (by simp[hk]))
     exact this p.toList pin
   . rw[kT];refine List.pairwise_iff_getElem.mpr λi j hi hj xK=>?_;have h0:=x5 (sr i j xK 'd');have g1:p.getD i 0=p.toList[i]:=by simp[Array.getD,show i < p.size by simpa using hi]
     have g3:p.getD j 0=p.toList[j]:=by simp[Array.getD,show j < p.size by simpa using hj]
     rw[g1,g3,(at2 _ (by rw[l];exact pin _ (jl hi))).1,(at2 _ (by rw[l];exact pin _ (jl hj))).1]at h0;exact h0
end
section
def yq(t:SetTable)(es:Array (Int×xY))(h:Int)(x:xY):(layNew t es h x).2.1.led=t.led/\(t.plain=false->(layNew t es h x).2.1.plain=false):=by
 unfold layNew;split
 . rename_i slot wd _;show((t.put slot).1.orStandIn _).led=t.led/\(t.plain=false->((t.put slot).1.orStandIn _).plain=false);unfold SetTable.orStandIn;split
   . exact⟨rfl,λz=>z⟩
   . exact⟨rfl,λ_=>rfl⟩
 . exact⟨rfl,λ_=>rfl⟩
def yr(t:SetTable)(es:Array (Int×xY))(n:Nat):(relayAll t es n).2.1.led=t.led/\(t.plain=false->(relayAll t es n).2.1.plain=false):=by
 unfold relayAll;split
 . rename_i t' order e
   have:t'.led=t.led/\t'.plain=t.plain:=by
    unfold SetTable.relaid SetTable.laid at e;simp only[bind,Option.bind,pure]at e;split at e
    . cases e
    . cases e;exact⟨rfl,rfl⟩
   dsimp only;split
   . exact⟨this.1,λz=>this.2.trans z⟩
   . exact⟨rfl,λ_=>rfl⟩
 . exact⟨rfl,λ_=>rfl⟩
end
section
variable {prog:J1}{w:J2}{A:J3}{E:xp}{s:xZ}
def QG(w:J2)(k:Str)(e:Int×xY):Prop:=e.1=hashStr w k/\∃tk,e.2 = .str k tk
def SetS(w:J2)(byT:Bool)(h:Heap)(a:J0)(ks:xy):Prop:=∃o es ep t,h.get? a=some o/\o.ExactSet/\o.data = .set es ep t/\Paired (QG w) ks es.toList/\ks.Nodup/\es.size < scanBound/\t.fits es.size=true/\t.led = !byT/\(ks=[]\/t.plain=false)
def f9(h:Paired (QG w) ks es):ElemsOf (strKind prog w) es:=by
 intro e he
 induction h with
 | nil=>cases he
 | cons h1 _ ih =>
  rcases jL.mp he with z | z
  . subst z;obtain⟨e1,tk,e2⟩:=h1;exact⟨⟨_,by rw[e2];exact strKind_is _ _ _ _,e1⟩,by rw[e2];rfl⟩
  . exact ih z
def nE(h:Paired (QG w) ks es)(x:Str):(es.findIdx? (λe=>(strKind prog w).is x e.2)=none/\x∉ks)\/((∃j,es.findIdx? (λe=>(strKind prog w).is x e.2)=some j)/\x∈ks):=by
 induction h with
 | nil=>exact .inl ⟨rfl,λz=>nomatch z⟩
 | cons h1 _ ih =>
  rename_i k e ks es _;obtain⟨e1,tk,e2⟩:=h1
  by_cases z:x=k
  . subst z;refine .inr ⟨⟨0,?_⟩,by simp⟩;rw[List.findIdx?_cons,e2,strKind_is];rfl
  . have nz:(strKind prog w).is x e.2=false:=by
     cases hb:(strKind prog w).is x e.2 with
     | false=>rfl
     | true=>exact absurd ((strKind prog w).inj e.2 x k hb (by rw[e2];exact strKind_is _ _ _ _)) z
    rcases ih with ⟨a,b⟩ | ⟨⟨j,a⟩,b⟩
    . refine .inl ⟨?_,λy=>?_⟩
      . rw[List.findIdx?_cons,nz,a];rfl
      . rcases jL.mp y with y | y
        . exact z y
        . exact b y
    . refine .inr ⟨⟨j + 1,?_⟩,by simp[b]⟩;rw[List.findIdx?_cons,nz,a];rfl
def prm{α β:Type}{F:α->β->Prop}{m m':List β}(h:m'.Perm m):∀{l:List α},Paired F l m->∃l',l'.Perm l/\Paired F l' m':=by
 induction h with
 | nil=>intro l t;exact⟨l,.refl _,t⟩
 | cons x _ ih =>
  intro l t
  cases t with
  | cons g t =>
   obtain⟨l',h1,h2⟩:=ih t;exact⟨_ :: l',h1.cons _,.cons g h2⟩
 | swap x y _ =>
  intro l t
  cases t with
  | cons g t =>
   cases t with
   | cons g2 t=>exact⟨_,.swap _ _ _,.cons g2 (.cons g t)⟩
 | trans _ _ ih1 ih2 =>
  intro l t;obtain⟨l1,h1,t1⟩:=ih2 t;obtain⟨l2,h2,t2⟩:=ih1 t1;exact⟨l2,h2.trans h1,t2⟩
theorem prs{α β:Type}{F:α->β->Prop}{x:α}{y:β}(h:F x y):∀{l:List α}{m:List β},Paired F l m->Paired F (l ++ [x]) (m ++ [y])
 | _,_,.nil => .cons h .nil
 | _,_,.cons g t => .cons g (prs h t)
def fh{h:Heap}{a:J0}{o:Obj}{es:Array (Int×xY)}{ep:Nat}{t:SetTable}(ho:h.get? a=some o)(hd:o.data = .set es ep t)(es':Array (Int×xY))(t':SetTable) :
 (h.update a (Obj.putSet es' t')).get? a=some { o with data := .set es' (ep + 1) t' }:=by
 have:=ja (Obj.putSet es' t') ho (by rw[putSet_of es' t' hd];rfl)
 rwa [putSet_of es' t' hd]at this
def nF{g:Bool->Sem Unit}(hg:∀(b:Bool) (s₁:xZ) (Q':Unit->xZ->Prop),Q' () s₁->wpAny (model prog w) A (g b) Q' E s₁)(ho:s.heap.get? a=some o)(hex:o.ExactSet)(hd:o.data = .set es ep t)(pr1:Paired (QG w) ks1 es1.toList)(nd1:ks1.Nodup)(b1:es1.size < scanBound)(f2:t2.fits es1.size=true)(led2:t2.led = !byT)(pl2:t2.plain=false){R:Option Bool->xZ->Prop}
 (h:∀h' ks',Heap.SameBut a s.heap h'->SetS w byT h' a ks'->ks'.Perm ks1->R (some true) { s with heap:=h' }) :
 wpAny (model prog w) A (do
  storeSet a es1 t2
  if (!wasDummy && t2.tooFull)=true then do
      g (relayAll t2 es1 (SetTable.grown es1.size)).2.2
      storeSet a (relayAll t2 es1 (SetTable.grown es1.size)).1 (relayAll t2 es1 (SetTable.grown es1.size)).2.1
      pure (some true)
   else pure (some true)) R E s:=by
 refine q8 (wpAny_storeSet_of ho hd ?_ (fits_of_scanBound b1));have ho1:=fh ho hd es1 t2;have sb1:=Heap.SameBut.update s.heap a (Obj.putSet es1 t2);split
 . have hp:=relayAll_perm t2 es1 (SetTable.grown es1.size);have hfr:=relayAll_fits t2 es1 (SetTable.grown es1.size);have hlr:=yr t2 es1 (SetTable.grown es1.size);generalize relayAll t2 es1 (SetTable.grown es1.size)=Rl at hp hfr hlr ⊢;obtain⟨es2,t3,gave2⟩:=Rl;dsimp only at hp hfr hlr ⊢;obtain⟨ks2,kp,pr2⟩:=prm hp pr1;have b2:es2.size < scanBound:=by rw[<- jU,hp.length_eq,jU];exact b1
   refine q8 (hg _ _ _ ?_);refine q8 (wpAny_storeSet_of ho1 rfl ?_ (fits_of_scanBound b2));exact qf (h _ ks2 (sb1.trans (Heap.SameBut.update _ a _)) ⟨_,es2,_,t3,fh ho1 rfl es2 t3,hex,rfl,pr2,kp.nodup_iff.mpr nd1,b2,hfr,hlr.1.trans led2,.inr (hlr.2 pl2)⟩ kp)
 . exact qf (h _ ks1 sb1 ⟨_,es1,_,t2,ho1,hex,rfl,pr1,nd1,b1,f2,led2,.inr pl2⟩ (.refl _))
theorem nG(hS:SetS w byT s.heap a ks)(room:ks.length + 1 < scanBound)
 (h:∀(h':Heap) (ks':xy) (b:Bool),Heap.SameBut a s.heap h'->SetS w byT h' a ks'->(∀k,k∈ks'↔k∈ks\/k=x)->ks'.length<=ks.length + 1->Q b { s with heap:=h' }) :
 wpAny (model prog w) A (setAddHashed a (.str x tk) (hashStr w x)) Q E s:=by
 obtain⟨o,es,ep,t,ho,hex,hd,pr,nd,hb,hf,led,pl⟩:=hS;have hel:ElemsOf (strKind prog w) es.toList:=f9 pr;have hl:=pr.length;have hl:es.size=ks.length:=by rw[<- jU];exact hl.symm
 unfold setAddHashed setAddHashedIn;refine qK (q8 (qX ho hd hf ?_));dsimp only;rw[byScan_of (knd:=strKind prog w) (x := .str x tk) rfl hb hel];simp only[↓reduceIte];unfold setAddByScan;refine q8 ?_;refine q8 (x9 ?_);refine q8 (wpAny_setScan_of (knd:=strKind prog w) (k:=x) (strKind_is _ _ _ _) ho hd hf hel ?_);rcases nE (prog:=prog) pr x with ⟨e1,nin⟩ | ⟨⟨j,e1⟩,inn⟩
 . rw[e1];dsimp only;have hperm:=layNew_perm t es (hashStr w x) (.str x tk);have hfits:=layNew_fits t es (hashStr w x) (.str x tk);have hled:=yq t es (hashStr w x) (.str x tk);generalize hL:layNew t es (hashStr w x) (.str x tk)=L at hperm hfits hled;have hL':layNew t es ((strKind prog w).hash x) (.str x tk)=L:=hL;obtain⟨es1,t1,wasDummy,gave⟩:=L;dsimp only at hperm hfits hled;rw[Array.toList_push]at hperm;obtain⟨ks1,kp,pr1⟩:=prm hperm (prs (show QG w x (hashStr w x,.str x tk) from⟨rfl,tk,rfl⟩) pr)
   have nd1:ks1.Nodup:=by
    rw[kp.nodup_iff,kQ];refine⟨nd,by simp,λa ha b hb e=>?_⟩;have:b=x:=by simpa using hb
    exact nin (this ▸ e ▸ ha)
   have sz1:es1.size=es.size + 1:=by rw[<- jU,hperm.length_eq,jI,jU];rfl
   have mem1:∀k,k∈ks1↔k∈ks\/k=x:=λk=>by rw[kp.mem_iff,jO,jM]
   have len1:ks1.length<=ks.length + 1:=by rw[kp.length_eq,jI];exact jD _
   have b1:es1.size < scanBound:=by omega
   have fin:∀h' ks',Heap.SameBut a s.heap h'->SetS w byT h' a ks'->ks'.Perm ks1->Q true { s with heap:=h' }:=λh' ks' sb hS' kp'=>h h' ks' true sb hS' (λk=>kp'.mem_iff.trans (mem1 k)) (by rw[kp'.length_eq];exact len1);have hgw:∀(b:Bool) (s₁:xZ) (Q':Unit->xZ->Prop),Q' () s₁->wpAny (model prog w) A (match b with | true=>rule "set.scan.the-table-gave-way" | false=>pure ()) Q' E s₁:=λb s₁ Q' hq=>by cases b<;>first | exact qf hq | exact x9 hq
   refine q8 (hgw _ _ _ ?_);dsimp only;split
   . refine q8 ?_;rw[hashByValue_scannable 8 (x := .str x tk) rfl];refine qf ?_;refine nF (byT:=byT) hgw ho hex hd pr1 nd1 b1 (t2:={ t1 with plain:=false }) ?_ ?_ rfl ?_
     . exact SetTable.fits_plain_off hfits
     . exact hled.1.trans led
     . intro h' ks' sb hS' kp';exact qf (fin h' ks' sb hS' kp')
   . rename_i hp1;refine q8 (qf ?_);simp only[↓reduceIte];refine nF (byT:=byT) hgw ho hex hd pr1 nd1 b1 hfits (hled.1.trans led) (by simpa using hp1) ?_;intro h' ks' sb hS' kp';exact qf (fin h' ks' sb hS' kp')
 . rw[e1];dsimp only;refine qf (qf ?_);have e:s={ s with heap:=s.heap }:=by cases s;rfl
   have:=h s.heap ks false (Heap.SameBut.refl a s.heap) ⟨o,es,ep,t,ho,hex,hd,pr,nd,hb,hf,led,pl⟩ (λk=>⟨.inl,λz=>z.elim id λz=>z ▸ inn⟩) (Nat.le_succ _);rw[e];exact this
def SetS.at(x:SetS w byT h a ks)(e:∀o,h.get? a=some o->h'.get? a=some o):SetS w byT h' a ks:=by
 obtain⟨o,es,ep,t,ho,r⟩:=x;exact⟨o,es,ep,t,e _ ho,r⟩
end
section
variable {prog:J1}{w:J2}{A:J3}{R:Result->xZ->Prop}{I:J0}{fp wr:List J0}{G:Array GenState->Array GenState->Prop}{n:Nat}{P:Nat->xY->Prop}{St:Nat->xZ->Prop}
def yt(W:WalksS prog w A.in1 I fp wr G n P St)(S:J0)(hSf:S∉fp)(val:Nat->Str)(hval:∀i v,P i v->∃t,v = .str (val i) t)(hb:n + 1 < scanBound)(byT:Bool) :
 ∀(k i:Nat) (s:xZ) (ks:xy),n - i=k->i<=n->St i s->SetS w byT s.heap S ks->(∀x,x∈ks↔∃j,j < i/\val j=x)->ks.length<=i ->
  (∀s' ks',Moved (S :: wr) G s s'->SetS w byT s'.heap S ks'->(∀x,x∈ks'↔∃j,j < n/\val j=x)->R (.ok (.ret .none)) s') ->
  codeAny (model prog w) A (.builtin "set.update.loop" ⟨[.ref S,.ref I],[]⟩) R s:=by
 have hSw:S∉wr:=λh=>hSf (W.sub _ h);have more:∀b∈wr,b∈S :: wr:=λb hb=>jS _ hb;intro k
 induction k with
 | zero =>
  intro i s ks hk hi xX hS hm hl hR;have hin:i=n:=by omega
  subst hin;refine qM PyProof.Rows.F.entry_set_update_loop ?_;rw[Around.under_plainId PyProof.Rows.F.plain_set_update_loop _];show wpAny _ A.in1 (pyNext (.ref I) >>= _) _ _ s;refine q8 (W.done s _ _ xX λs' mv=>?_);show wpAny _ A.in1 (ret Value.none) _ _ s';exact qf (hR s' ks (mv.mono more) (hS.at λo e=>mv.heap S o hSw e) hm)
 | succ k ih =>
  intro i s ks hk hi xX hS hm hl hR;have hlt:i < n:=by omega
  refine qM PyProof.Rows.F.entry_set_update_loop ?_;rw[Around.under_plainId PyProof.Rows.F.plain_set_update_loop _];show wpAny _ A.in1 (pyNext (.ref I) >>= _) _ _ s;refine q8 (W.item i s _ _ hlt xX λv s' hP hst' mv=>?_);obtain⟨t,rfl⟩:=hval i v hP;have hS':SetS w byT s'.heap S ks:=hS.at λo e=>mv.heap S o hSw e;show wpAny _ A.in1 (holding [Value.str (val i) t] (setAdd S (.str (val i) t)) >>= _) _ _ s';refine q8 (qK ?_);unfold setAdd;refine qK ?_;refine q8 ((PySem.strKind prog w).pyHash (k:=val i) (strKind_is _ _ _ _) ?_);refine nG (s:={ s' with toks:=s'.toks + 1 }) hS' 'd' λh' ks' b hsb hS2 hm2 hl2=>?_;refine qf ⟨qU PyProof.Rows.F.plain_set_update_loop _,ih (i + 1) _ ks' 'd' hlt (W.frame _ s' _ _ hst' (Nat.le_succ _) λb hb o e=>?_) hS2 (λx=>?_) 'd' λs'' ks'' mv'' hS'' hm''=>?_⟩
  . rw[hsb.2 b (λh:b=S=>hSf (by rw[<- h];exact hb))];exact e
  . rw[hm2 x,hm x];constructor
    . rintro (⟨j,h1,h2⟩ | h)
      . exact⟨j,by omega,h2⟩
      . exact⟨i,by omega,h.symm⟩
    . rintro⟨j,h1,h2⟩
      by_cases z:j=i
      . exact .inr (by rw[<- h2,z])
      . exact .inl ⟨j,by omega,h2⟩
  . refine hR s'' ks'' (Moved.trans W.gtrans ((mv.mono more).then_heap (Nat.le_succ _) λb o hb e=>?_) mv'') hS'' hm'';rw[hsb.2 b (λh:b=S=>hb (by rw[h];exact jb))];exact e
end
section
variable {prog:J1}{w:J2}{A:J3}{E:xp}{s:xZ}
abbrev Jp(w:J2):Bool:=w.params.followText "set-order"
def Q9(w:J2):Obj:={ cls := .type "set",dict:=none,data := .set #[] 0 (.fresh 0 0 (!Jp w)) }
def yu(a:xY)(h:Q₁ (.ref s.heap.objs.size) { s with heap:=s.heap.push (Q9 w) }) :
 codeAny (model prog w) A (.call (.builtin "set.__new__") ⟨[.type "set",a],[]⟩) (wants Q₁ E) s:=by
 refine codeAny_of_tree ?_;show wpAny _ A.in1 (do checkBuiltinCall "set.__new__" ⟨[.type "set",a],[]⟩;again (.builtin "set.__new__" ⟨[.type "set",a],[]⟩)) _ _ s;refine q8 (xf (PySem.F.newCall_set_1 a) (qf ⟨qU PySem.F.plain_set_new _,qM PySem.F.entry_set_new ?_⟩));rw[Around.under_plainId PySem.F.plain_set_new _];unfold Builtin.«set.__new__» Builtin.Frozenset.newClass;have hsub:=sub_set_self;obtain⟨hp,g,d,tk,os⟩:=s;dsimp only;wp_walk;refine qZ (qf ?_);dsimp only;simp only[newObj];refine q8 (wpAny_alloc (qf ?_));exact qf h
structure SqS (prog:J1) (w:J2) (T:String) (l:J0) (n:Nat) (P:Nat->xY->Prop) (OK:Heap->Prop):Prop where
 type:∀s:xZ,OK s.heap->s.TypeIs (.ref l) T
 there:∀h:Heap,OK h->l < h.objs.size
 keep:∀h h':Heap,OK h->(∀o,h.get? l=some o->h'.get? l=some o)->OK h'
 noSet:isSubtype (.type T) (.type "set")=pure false
 noFrz:isSubtype (.type T) (.type "frozenset")=pure false
 noDict:(Value.type T == Value.type "dict")=false
 iter:∀(s:xZ),OK s.heap->∃(oI:Obj) (St:Nat->Heap->Prop),(∀(A:J3) (E:xp) (Q:xp),Q (.ref s.heap.objs.size) { s with heap:=s.heap.push oI }->wpAny (model prog w) A (pyIter (.ref l)) Q E s) /\
  (∀A:J3,A.handled=none->Walks prog w A s.heap.objs.size [s.heap.objs.size,l] [s.heap.objs.size] n P St)/\St 0 (s.heap.push oI)
def yw(K:SqS prog w T l n P OK)(hh:A.handled=none)(ok:OK s.heap)(val:Nat->Str)(hval:∀i v,P i v->∃t,v = .str (val i) t)(hb:n + 1 < scanBound)(hSl:S≠l)(hS:s.heap.get? S=some (Q9 w))
 (hR:∀(h':Heap) (tk:Nat) (ks:xy),(∀b o,b≠S->s.heap.get? b=some o->h'.get? b=some o)->SetS w (Jp w) h' S ks->(∀x,x∈ks↔∃j,j < n/\val j=x)->R (.ok (.ret .none)) { s with heap:=h',toks:=tk }) :
 wpAny (model prog w) A.in1 (Builtin.«set.__init__» ⟨[.ref S,.ref l],[]⟩)
  (λfin s'=>match fin with | .done f=>R (.ok f) s' | .again c'=>c'.quiet=true/\codeAny (model prog w) A c' R s') (λe s'=>R (.error e) s') s:=by
 have hT:s.TypeIs (.ref S) "set" := ⟨_,hS,rfl⟩;have hTl:=K.type s ok;have hsls:=K.noSet;have hslf:=K.noFrz;have hne:=K.noDict;unfold Builtin.«set.__init__» noKeywords Builtin.Frozenset.updateFrom;have hS1:s.heap.get? S=some { cls := .type "set",dict:=none,data := .set #[] 0 (.fresh 0 0 (!Jp w)) }:=hS;generalize hPI:pyIter=PI;wp_walk using xa hTl,x8 hTl hsls,x8 hTl hslf;subst hPI;obtain⟨oI,St,hit,W,st0⟩:=K.iter s ok;refine hit _ _ _ ?_;refine q8 (wpAny_runValue ?_);have lt:=K.there _ ok;have ltS:=jG hS;have S0:SetS w (Jp w) (s.heap.push oI) S []:=⟨_,#[],0,_,jB oI hS1,⟨rfl,rfl,rfl⟩,rfl,.nil,jx,by decide,rfl,rfl,.inl rfl⟩;refine yt (A:=A.in1) (W A.in1.in1 hh).toS S (λz=>?_) val hval hb (Jp w) (n - 0) 0 _ [] 'd' (jX _) st0 S0 (λx=>⟨λz=>(nomatch z),λ⟨j,z,_⟩=>absurd z (qE _)⟩) (jD _) λs' ks mv hS' hm=>?_
 . rcases jL.mp z with z | z
   . exact absurd z (jQ ltS)
   . exact hSl (jM.mp z)
 . rw[Moved.eq_with mv];refine qf (qf (hR s'.heap s'.toks ks (λb o hb e=>mv.heap b o (λhmem=>?_) (jB _ e)) hS' hm));rcases jL.mp hmem with z | z
   . exact hb z
   . exact absurd (jG e) (by rw[jM.mp z];exact j7 _)
def nH(K:SqS prog w T l n P OK)(hh:A.handled=none)(ok:OK s.heap)(val:Nat->Str)(hval:∀i v,P i v->∃t,v = .str (val i) t)(hb:n + 1 < scanBound)
 (h:∀(h':Heap) (tk:Nat) (ks:xy),(∀b o,s.heap.get? b=some o->h'.get? b=some o)->SetS w (Jp w) h' s.heap.objs.size ks->(∀x,x∈ks↔∃j,j < n/\val j=x)->Q (.ref s.heap.objs.size) { s with heap:=h',toks:=tk }) :
 wpAny (model prog w) A (call (.type "set") [.ref l]) Q E s:=by
 obtain⟨c,tl,hmro⟩:=PySem.F.called_set.mro;have hmade:=PySem.F.called_set.made;have hsub:=PySem.F.called_set.sub;refine wpAny_call (codeAny_of_tree ?_);show wpAny _ _ (callAny (.type "set") _) _ _ _;refine qf ⟨Code.quiet_builtin _ (by decide +kernel),qM PySem.F.entry_type_call ?_⟩;rw[Around.under_plain (weight_type_call_type "set" [.ref l] []) rfl];have h1:=PySem.F.called_set.notType;have h2:=PySem.F.called_set.canCreate;have hct:=PySem.F.typeCall_set_1 (.ref l)
 repeat (any_goals (first | assumption | wp_step))
 refine xh (yu (.ref l) (E:=E) (Q₁:=λobj s₁=>obj = .ref s.heap.objs.size/\s₁={ s with heap:=s.heap.push (Q9 w) }) ⟨rfl,rfl⟩) λr s₁ hr=>?_
 cases r with
 | error e=>exact hr
 | ok fl =>
  cases fl with
  | ret obj =>
   obtain⟨rfl,rfl⟩:=hr;have hS:(s.heap.push (Q9 w)).get? s.heap.objs.size=some (Q9 w):=jK _ rfl;have hT:Shared.TypeIs { s with heap:=s.heap.push (Q9 w) } (.ref s.heap.objs.size) "set" := ⟨_,hS,rfl⟩;have hli:=PySem.F.called_set.init.lookup;have hbi:=PySem.F.called_set.init.bind (.ref s.heap.objs.size)
   repeat (any_goals (first | assumption | wp_step))
   refine xh (codeAny_call_builtin (R:=wants (λr s₂=>r = .none/\Q (.ref s.heap.objs.size) s₂) E) PySem.F.called_set.init.plain PySem.F.entry_set_init (check_set_init_1 hT ?_)) λr₂ s₂ hr₂=>?_
   . have lt:=K.there _ ok;refine yw (A:=A.in1) (s:={ s with heap:=s.heap.push (Q9 w) }) K hh (K.keep _ _ ok λo e=>jB _ e) val hval hb (jn lt) hS λh' tk ks k1 k2 k3=>?_;exact⟨rfl,h h' tk ks (λb o e=>k1 b o (jQ (jG e)) (jB _ e)) k2 k3⟩
   . cases r₂ with
     | error e=>exact hr₂
     | ok fl₂ =>
      cases fl₂ with
      | ret r =>
       obtain⟨rfl,hq⟩:=hr₂
       repeat (any_goals (first | assumption | wp_step))
      | _=>exact hr₂.elim
  | _=>exact hr.elim
theorem yx(l:J0)(items:xw):SqS prog w "list" l items.size (λi v=>items[i]? = some v) (λh=>h.IsList l items) where
 type:=λs x=>x.typeIs
 there:=λh ⟨o,ho,_⟩=>jG ho
 keep:=λh h' x k=>x.at k
 noSet:=PySem.F.sub_list_set
 noFrz:=PySem.F.sub_list_frozenset
 noDict:=by decide
 iter:=λs x=>⟨_,_,(λ_ _ _ hq=>wpAny_pyIter_list x hq),λA hh=>Walks.list hh _ l (by obtain⟨o,ho,_⟩:=x;exact jQ (jG ho)) items,⟨⟨_,jK _ rfl,rfl,rfl⟩,x.at λo e=>jB _ e⟩⟩
def yy:isSubtype (.type "tuple") (.type "set")=pure false:=by rw[isSubtype_type];kernel_rfl
def yz:isSubtype (.type "tuple") (.type "frozenset")=pure false:=by rw[isSubtype_type];kernel_rfl
theorem yA(l:J0)(items:xw):SqS prog w "tuple" l items.size (λi v=>items[i]? = some v) (λh=>h.IsTuple l items) where
 type:=λs x=>x.typeIs
 there:=λh ⟨o,ho,_⟩=>jG ho
 keep:=λh h' x k=>x.at k
 noSet:=yy
 noFrz:=yz
 noDict:=by decide
 iter:=λs x=>⟨_,_,(λ_ _ _ hq=>wpAny_pyIter_tuple x hq),λA hh=>Walks.tuple hh _ l (by obtain⟨o,ho,_⟩:=x;exact jQ (jG ho)) items,⟨⟨_,jK _ rfl,rfl,rfl⟩,x.at λo e=>jB _ e⟩⟩
end
def nI:Manifest.owners.lookup (String.ofList ['r','o','t','a','r','e','t','i','_','t','e','s'].reverse)=some Manifest.sig_set_iterator:=by kernel_rfl
def X7:Slot "set_iterator" "__next__" "set_iterator.__next__" :=
 .of (owner := "set_iterator") (n := "__next__") (by rw[xo,xb];kernel_rfl) (by decide +kernel) (by decide +kernel) (by decide +kernel)
  (by first | exact .inl (by decide +kernel) | exact .inr (by decide +kernel)) (by rw[isSubtype_type];kernel_rfl)
def bg:entryFor table "set_iterator.__next__" = some Builtin.«set_iterator.__next__»:=entryFor_of_tree (by kernel_rfl)
theorem bh(a:xY):argsOk "set_iterator.__next__" ⟨[a],[]⟩:=by
 unfold argsOk;rw[signature?_of (id := "set_iterator.__next__") (n:=['_','_','t','x','e','n','_','_']) (o:=['r','o','t','a','r','e','t','i','_','t','e','s']) (by kernel_rfl) nI];kernel_rfl
def nJ:Slot "set_iterator" "__iter__" "set_iterator.__iter__" :=
 .of (owner := "set_iterator") (n := "__iter__") (by rw[xo,xb];kernel_rfl) (by decide +kernel) (by decide +kernel) (by decide +kernel)
  (by first | exact .inl (by decide +kernel) | exact .inr (by decide +kernel)) (by rw[isSubtype_type];kernel_rfl)
theorem yB(a:xY):argsOk "set_iterator.__iter__" ⟨[a],[]⟩:=by
 unfold argsOk;rw[signature?_of (id := "set_iterator.__iter__") (n:=['_','_','r','e','t','i','_','_']) (o:=['r','o','t','a','r','e','t','i','_','t','e','s']) (by kernel_rfl) nI];kernel_rfl
theorem yC:entryFor table "set_iterator.__iter__" = some Builtin.«dict_keyiterator.__iter__» :=
 entryFor_alias (id' := "dict_keyiterator.__iter__") (by kernel_rfl) (by first | rfl | decide +kernel | (unfold String.splitOn;simp +decide [String.splitOnAux])) (by decide +kernel) (by kernel_rfl)
theorem yD:entryFor table "set.__iter__" = some Builtin.«frozenset.__iter__» :=
 entryFor_alias (id' := "frozenset.__iter__") (by kernel_rfl) (by first | rfl | decide +kernel | (unfold String.splitOn;simp +decide [String.splitOnAux])) (by decide +kernel) (by kernel_rfl)
section
variable {prog:J1}{w:J2}{A:J3}{E:xp}{s:xZ}
theorem fj{α:Type}:∀(l:List α) (i:Nat) (h:i < l.length),(l[i] :: l.eraseIdx i).Perm l
 | x :: l,0,_ => .refl _
 | x :: l,i + 1,h=>by
  have h':i < l.length:=by simpa using h
  show(l[i]'h' :: x :: l.eraseIdx i).Perm (x :: l);exact(List.Perm.swap _ _ _).trans ((fj l i h').cons x)
def yE(hn:n≠0)(h:∀i,i < n->Q i { s with drawn:=s.drawn.bump src }):wpAny (model prog w) A (choose src n) Q E s:=λΓ p hΓ=>by
 unfold choose;rw[Sem.wp_choose];exact⟨hn,h _ (Nat.mod_lt _ (Nat.pos_of_ne_zero hn))⟩
theorem fk{α:Type}:∀(n:Nat) (xs:List α) (s:xZ) (Q:List α->xZ->Prop),xs.length=n->(∀ys d,ys.Perm xs->Q ys { s with drawn:=d })->wpAny (model prog w) A (drawOrder n xs) Q E s
 | 0,xs,s,Q,hl,h=>by
  have:xs=[]:=List.length_eq_zero_iff.mp hl;subst this;exact qf (h [] s.drawn (.refl _))
 | n + 1,[],s,Q,hl,h=>by simp at hl
 | n + 1,x :: xs,s,Q,hl,h=>by
  show wpAny _ _ (choose .order (x :: xs).length >>= _) _ _ _;refine q8 (yE 'j' λi hi=>?_);rw[jC hi];dsimp only;refine q8 (fk n ((x :: xs).eraseIdx i) _ _ (by rw[List.length_eraseIdx_of_lt hi,hl];rfl) λys d p=>qf (h _ d ?_));exact(p.cons _).trans (fj _ _ hi)
theorem nK{α:Type}(next:Nat->Nat):∀(f k:Nat) (left:List α) (out:Array α),left.length=f->(pickOrder.go next f k left out).toList.Perm (out.toList ++ left)
 | 0,k,left,out,hl=>by
  have:left=[]:=List.length_eq_zero_iff.mp hl;subst this;simp[pickOrder.go]
 | f + 1,k,left,out,hl=>by
  have hi:next k % left.length < left.length:=Nat.mod_lt _ 'd';unfold pickOrder.go;rw[jC hi];dsimp only;refine(nK next f (k + 1) _ _ (by rw[List.length_eraseIdx_of_lt hi];omega)).trans ?_;rw[Array.toList_push,jV];exact List.Perm.append_left _ (fj _ _ hi)
def fm{α:Type}(next:Nat->Nat)(xs:Array α):(pickOrder next xs).toList.Perm xs.toList:=by
 have:=nK next xs.size 0 xs.toList #[] 'j';simpa [pickOrder] using this
def IsSi(h:Heap)(I:J0)(f:xY)(i:Nat)(S:J0)(n ep:Nat):Prop:=∃o,h.get? I=some o/\o.cls = .type "set_iterator" /\ o.data = .fields #[f,rawInt i,.ref S,rawInt n,rawInt ep]
def IsSi.typeIs(x:IsSi s.heap I f i S n ep):s.TypeIs (.ref I) "set_iterator" := let ⟨o,ho,hc,_⟩:=x;⟨o,ho,hc⟩
def IsSi.at(x:IsSi h I f i S n ep)(e:∀o,h.get? I=some o->h'.get? I=some o):IsSi h' I f i S n ep:=let ⟨o,ho,r⟩:=x;⟨o,e _ ho,r⟩
def SeAt(h:Heap)(S:J0)(es:Array (Int×xY))(ep:Nat)(t:SetTable):Prop:=∃o,h.get? S=some o/\o.data = .set es ep t
def SeAt.at(x:SeAt h S es ep t)(e:∀o,h.get? S=some o->h'.get? S=some o):SeAt h' S es ep t:=let ⟨o,ho,r⟩:=x;⟨o,e _ ho,r⟩
theorem yF{ep:Nat}{i:Nat}{p:Nat}{Q:xu->xZ->Prop}(hit:IsSi s.heap I (.ref P) i S es.size ep)(hS:SeAt s.heap S es ep t)(hf:t.fits es.size=true)(hP:s.heap.IsTuple P places)(hp:places[i]? = some (.int p tk))(hx:es[p]? = some x)
 (hQ:∀h',IsSi h' I (.ref P) (i + 1) S es.size ep->Heap.SameBut I s.heap h'->Q (some x.2) { s with heap:=h' }):wpAny (model prog w) A (pyNext (.ref I)) Q E s:=by
 obtain⟨o,ho,hc,hd⟩:=id hit;obtain⟨oS,hoS,hdS⟩:=hS;obtain⟨oP,hoP,hcP,nP,hdP⟩:=id hP;unfold pyNext;refine q8 (xi (qJ (name:=Str.ofString "__next__") hit.typeIs X7 (qL X7 hit.typeIs bg ?_ (bh _))));unfold Builtin.«set_iterator.__next__»;refine q8 (xf (a:=(Value.ref I,[])) rfl ?_)
 try dsimp only
 refine q8 (wpAny_fieldsOf ho hd ?_)
 try dsimp only
 show wpAny _ _ (setEntries S >>= _) _ _ s;refine q8 (x4 hoS hdS hf ?_);refine qu (λz=>absurd z 'j') (λ_=>?_);show wpAny _ _ (seqItems? (.ref P) >>= _) _ _ s;refine q8 (qS hoP hdP ?_);simp only[jp,hp];refine q8 ?_;unfold setNextDrawn;refine q8 (qX hoS hdS hf ?_);dsimp only;rw[qg 'j'];rw[hx];refine qf ?_;refine q8 (qW ho hd 'j' ?_);refine qf ⟨x.2,rfl,qf (hQ _ ?_ (Heap.SameBut.update ..))⟩;exact⟨_,ja _ ho (Obj.isFreed_of_fields (Obj.data_mapFields hd _)),(Obj.cls_mapFields ..).trans hc,by rw[Obj.data_mapFields hd];simp[rawInt]⟩
def nL{α:Type}{R:α->xZ->Prop}{Q:xu->xZ->Prop}(hh:A.handled=none)(hQ:∀h',(∀b o,s.heap.get? b=some o->h'.get? b=some o)->Q none { s with heap:=h' }) :
 wpAny (model prog w) A.in1 (newExc (.type "StopIteration") [] >>= λe=>(raiseNew e:Sem α)) R (λe s'=>wpAny (model prog w) A (do if <- isInstance e (.type "StopIteration") then pure none else throw e) Q E s') s:=by
 refine q8 ?_;unfold newExc newTuple;refine q8 (qw (q8 (m:=firstArgMember _ _) (xf (a:=Value.none) (by first | rfl | (unfold firstArgMember;rfl)) (qw ?_ (by size_fits)))) (by size_fits));unfold raiseNew;refine q8 (wpAny_handled ?_);rw[show A.in1.handled=none from hh];refine q8 (qf (wpAny_throw ?_));refine q8 (x8 (b:=true) (T := "StopIteration") ⟨_,jK _ rfl,rfl⟩ isSubtype_stop (qf ?_));exact hQ _ λb o e=>jB _ (jB _ e)
theorem yG(hh:A.handled=none)(hit:IsSi s.heap I (.ref P) i S es.size ep)(hS:SeAt s.heap S es ep t)(hf:t.fits es.size=true)(hP:s.heap.IsTuple P places)(hp:places[i]? = none)
 (hQ:∀h',(∀b o,b≠I->s.heap.get? b=some o->h'.get? b=some o)->Q none { s with heap:=h' }):wpAny (model prog w) A (pyNext (.ref I)) Q E s:=by
 obtain⟨o,ho,hc,hd⟩:=id hit;obtain⟨oS,hoS,hdS⟩:=hS;obtain⟨oP,hoP,hcP,nP,hdP⟩:=id hP;unfold pyNext;refine q8 (xi (qJ (name:=Str.ofString "__next__") hit.typeIs X7 (qL X7 hit.typeIs bg ?_ (bh _))));unfold Builtin.«set_iterator.__next__»;refine q8 (xf (a:=(Value.ref I,[])) rfl ?_)
 try dsimp only
 refine q8 (wpAny_fieldsOf ho hd ?_);show wpAny _ _ (setEntries S >>= _) _ _ s;refine q8 (x4 hoS hdS hf ?_);refine qu (λz=>absurd z 'j') (λ_=>?_);show wpAny _ _ (seqItems? (.ref P) >>= _) _ _ s;refine q8 (qS hoP hdP ?_);simp only[jp,hp];refine q8 (qW ho hd 'j' ?_);have xR:=ja (Obj.mapFields (·.setIfInBounds 0 (rawInt 0))) ho (Obj.isFreed_of_fields (Obj.data_mapFields hd _));have hd2:=Obj.data_mapFields (o:=o) hd (·.setIfInBounds 0 (rawInt 0));have hx2:∀b o',b≠I->s.heap.get? b=some o'->(s.heap.update I (Obj.mapFields (·.setIfInBounds 0 (rawInt 0)))).get? b=some o':=λb o' hb e=>(Heap.SameBut.update ..).extBut b o' hb e;generalize s.heap.update I (Obj.mapFields (·.setIfInBounds 0 (rawInt 0)))=g2 at xR hx2 ⊢;generalize Obj.mapFields (·.setIfInBounds 0 (rawInt 0)) o=o2 at xR hd2;refine q8 (qW (s:={ s with heap:=g2 }) xR hd2 'j' ?_);refine nL hh λh' k=>hQ h' λb o' hb e=>k b o' ((Heap.SameBut.update ..).extBut b o' hb (hx2 b o' hb e))
theorem nM{ep slot nx:Nat}{i:Nat}{Q:xu->xZ->Prop}(hit:IsSi s.heap I (rawInt slot) i S es.size ep)(hS:SeAt s.heap S es ep t)(hf:t.fits es.size=true)
 (hn:∀(A:J3) (E:xp) (Q':Option (xY×Nat)->xZ->Prop),Q' (some (x,nx)) s->wpAny (model prog w) A (setNext S slot i ep) Q' E s)
 (hQ:∀h',IsSi h' I (rawInt nx) (i + 1) S es.size ep->Heap.SameBut I s.heap h'->Q (some x) { s with heap:=h' }):wpAny (model prog w) A (pyNext (.ref I)) Q E s:=by
 obtain⟨o,ho,hc,hd⟩:=id hit;obtain⟨oS,hoS,hdS⟩:=hS;unfold pyNext;refine q8 (xi (qJ (name:=Str.ofString "__next__") hit.typeIs X7 (qL X7 hit.typeIs bg ?_ (bh _))));unfold Builtin.«set_iterator.__next__»;refine q8 (xf (a:=(Value.ref I,[])) rfl ?_)
 try dsimp only
 refine q8 (wpAny_fieldsOf ho hd ?_);show wpAny _ _ (setEntries S >>= _) _ _ s;refine q8 (x4 hoS hdS hf ?_);refine qu (λz=>absurd z 'j') (λ_=>?_);show wpAny _ _ (setNext S (slot:Int).toNat (i:Int).toNat (ep:Int).toNat >>= _) _ _ s;rw[jp,jp,jp];refine q8 (hn _ _ _ ?_);dsimp only;refine q8 (qW ho hd 'j' ?_);have xR:=ja (Obj.mapFields (·.setIfInBounds 0 (rawInt nx))) ho (Obj.isFreed_of_fields (Obj.data_mapFields hd _));have hd2:=Obj.data_mapFields (o:=o) hd (·.setIfInBounds 0 (rawInt nx));have hc2:(Obj.mapFields (·.setIfInBounds 0 (rawInt nx)) o).cls = .type "set_iterator" := (Obj.cls_mapFields ..).trans hc;have sb:=Heap.SameBut.update s.heap I (Obj.mapFields (·.setIfInBounds 0 (rawInt nx)));generalize s.heap.update I (Obj.mapFields (·.setIfInBounds 0 (rawInt nx)))=g2 at xR sb ⊢;generalize Obj.mapFields (·.setIfInBounds 0 (rawInt nx)) o=o2 at xR hd2 hc2;refine q8 (qW (s:={ s with heap:=g2 }) xR hd2 'j' ?_);refine qf ⟨x,rfl,qf (hQ _ ?_ (sb.trans (Heap.SameBut.update ..)))⟩;exact⟨_,ja _ xR (Obj.isFreed_of_fields (Obj.data_mapFields hd2 _)),(Obj.cls_mapFields ..).trans hc2,by rw[Obj.data_mapFields hd2];simp[rawInt]⟩
theorem fo{ep slot:Nat}{i:Nat}{Q:xu->xZ->Prop}(hh:A.handled=none)(hit:IsSi s.heap I (rawInt slot) i S es.size ep)(hS:SeAt s.heap S es ep t)(hf:t.fits es.size=true)
 (hn:∀(A:J3) (E:xp) (Q':Option (xY×Nat)->xZ->Prop),Q' none s->wpAny (model prog w) A (setNext S slot i ep) Q' E s)
 (hQ:∀h',(∀b o,b≠I->s.heap.get? b=some o->h'.get? b=some o)->Q none { s with heap:=h' }):wpAny (model prog w) A (pyNext (.ref I)) Q E s:=by
 obtain⟨o,ho,hc,hd⟩:=id hit;obtain⟨oS,hoS,hdS⟩:=hS;unfold pyNext;refine q8 (xi (qJ (name:=Str.ofString "__next__") hit.typeIs X7 (qL X7 hit.typeIs bg ?_ (bh _))));unfold Builtin.«set_iterator.__next__»;refine q8 (xf (a:=(Value.ref I,[])) rfl ?_)
 try dsimp only
 refine q8 (wpAny_fieldsOf ho hd ?_);show wpAny _ _ (setEntries S >>= _) _ _ s;refine q8 (x4 hoS hdS hf ?_);refine qu (λz=>absurd z 'j') (λ_=>?_);show wpAny _ _ (setNext S (slot:Int).toNat (i:Int).toNat (ep:Int).toNat >>= _) _ _ s;rw[jp,jp,jp];refine q8 (hn _ _ _ ?_);dsimp only;refine q8 (qW ho hd 'j' ?_);refine nL hh λh' k=>hQ h' λb o' hb e=>k b o' ((Heap.SameBut.update ..).extBut b o' hb e)
def nN(hS:SeAt s.heap S es ep t)(hf:t.fits es.size=true)(hb:Jp w=true)
 (h:Q (((pickOrder (w.params.setOrder S ep) es)[i]?).map λe=>(e.2,slot)) s):wpAny (model prog w) A (setNext S slot i ep) Q E s:=by
 obtain⟨oS,hoS,hdS⟩:=hS;unfold setNext;refine q8 (qX hoS hdS hf ?_);dsimp only;unfold setsByText;refine q8 (q8 (qZ (qf ?_)));show wpAny _ _ (if Jp w=true then _ else _) _ _ _;rw[qh hb,qg 'j'];unfold setWalk;refine q8 (q8 (qX hoS hdS hf ?_));dsimp only;unfold setsByText;refine q8 (q8 (qZ (qf ?_)));show wpAny _ _ (if Jp w=true then _ else _) _ _ _;rw[qh hb];refine q8 (qZ (qf ?_));exact qf h
def fq(hS:SeAt s.heap S es ep t)(hf:t.fits es.size=true)(hb:Jp w=false)(few:es.size<=1)(led:t.led=true)
 (h:Q (match es[SetTable.below t.place slot]?,t.place[SetTable.below t.place slot]? with | some (_,x),some j=>some (x,j + 1) | _,_=>none) s):wpAny (model prog w) A (setNext S slot i ep) Q E s:=by
 obtain⟨oS,hoS,hdS⟩:=hS;unfold setNext;refine q8 (qX hoS hdS hf ?_);dsimp only;unfold setsByText;refine q8 (q8 (qZ (qf ?_)));show wpAny _ _ (if Jp w=true then _ else _) _ _ _;rw[qg (by rw[hb];decide)];refine qu (λz=>absurd z ?_) (λ_=>?_)
 . show ¬((!t.plain && decide (es.size > 1))=true);rw[qk 'd',Bool.and_false];decide
 refine q8 ?_;wp_delta;refine qu (λz=>absurd z (by rw[led];simp)) (λ_=>?_);exact qf (qf h)
def yH(j:Nat):SetTable.below #[j] 0=0:=by
 unfold SetTable.below;show SetTable.below.go #[j] 0 1 0 1=0;unfold SetTable.below.go;rw[qh 'f'];show(if (#[j]:Array Nat).getD 0 0 < 0 then _ else _)=0;rw[qg (qE _)];rfl
def yI(j:Nat):SetTable.below #[j] (j + 1)=1:=by
 unfold SetTable.below;show SetTable.below.go #[j] (j + 1) 1 0 1=1;unfold SetTable.below.go;rw[qh 'f'];show(if (#[j]:Array Nat).getD 0 (j + 1) < j + 1 then _ else _)=1;rw[qh (show(#[j]:Array Nat).getD 0 (j + 1) < j + 1 from Nat.lt_succ_self j)];rfl
def nO{a:Array Nat}(h:a.size=1):∃j,a=#[j]:=by
 obtain⟨l⟩:=a
 match l,h with
 | [j],_=>exact⟨j,rfl⟩
def YH(prog:J1)(w:J2)(S I lo:J0)(vs:xx)(h1:Heap):Prop:=∃(P:J0) (St:Nat->Heap->Prop),(P=S\/lo<=P)/\(∀A:J3,A.handled=none->Walks prog w A I [I,S,P] [I] vs.length (λi v=>vs[i]? = some v) St)/\St 0 h1
def fu(hit:IsSi s.heap I f i S n ep)(hQ:Q (.ref I) s):wpAny (model prog w) A (pyIter (.ref I)) Q E s:=by
 refine wpAny_pyIter_slot hit.typeIs nJ (qL nJ hit.typeIs yC ?_ (yB _));show wpAny _ _ (ret (.ref I)) _ _ s;exact qf ⟨_,rfl, "set_iterator",_,hit.typeIs,X7.lookup,hQ⟩
def yJ{I S lo:J0}(hne:S≠I){es:Array (Int×xY)}{ep:Nat}{t:SetTable}(hf:t.fits es.size=true)(hb:Jp w=true){h1:Heap}(st:IsSi h1 I (rawInt 0) 0 S es.size ep)(hS:SeAt h1 S es ep t) :
 YH prog w S I lo ((pickOrder (w.params.setOrder S ep) es).toList.map (·.2)) h1:=by
 have pz:(pickOrder (w.params.setOrder S ep) es).size=es.size:=by
  have:=(fm (w.params.setOrder S ep) es).length_eq;simpa using this
 refine⟨S,λi h=>i<=es.size/\IsSi h I (rawInt 0) i S es.size ep/\SeAt h S es ep t,.inl rfl,λA hh=>?_,jX _,st,hS⟩;refine { sub:=λb hb=>by simp at hb;simp[hb],frame:=λ_ _ _ x hk=>⟨x.1,x.2.1.at λo e=>hk I 'j' o e,x.2.2.at λo e=>hk S 'j' o e⟩,item:=λi s Q E hi x hQ=>?_,done:=λs Q E x hQ=>?_,self:=λi s Q E x hQ=>fu x.2.1 hQ }
 . rw[jA,jU,pz]at hi;have hi':i < (pickOrder (w.params.setOrder S ep) es).size:=by omega
   refine nM (x:=(pickOrder (w.params.setOrder S ep) es)[i].2) (nx:=0) x.2.1 x.2.2 hf (λA' E' Q' hq=>nN x.2.2 hf hb (by rw[jd hi'];exact hq)) λh' it' sb=>?_;refine hQ _ h' s.toks ?_ ⟨hi,it',x.2.2.at λo e=>(sb.2 S hne).trans e⟩ λb o hb e=>sb.extBut b o (λz=>hb (by simp[z])) e;rw[jF,kB,jd hi'];rfl
 . rw[jA,jU,pz]at x;exact fo hh x.2.1 x.2.2 hf (λA' E' Q' hq=>nN x.2.2 hf hb (by rw[kS 'd'];exact hq)) λh' k=>hQ h' s.toks λb o hb e=>k b o (λz=>hb (by simp[z])) e
def yK{I S lo:J0}(hne:S≠I){es:Array (Int×xY)}{ep:Nat}{t:SetTable}(hf:t.fits es.size=true)(hb:Jp w=false)(few:es.size<=1)(led:t.led=true){h1:Heap}(st:IsSi h1 I (rawInt 0) 0 S es.size ep)(hS:SeAt h1 S es ep t) :
 YH prog w S I lo (es.toList.map (·.2)) h1:=by
 have pz:t.place.size=es.size:=by
  unfold SetTable.fits at hf;rw[kX]at hf;simpa using hf.1
 refine⟨S,λi h=>i<=es.size/\IsSi h I (rawInt ((if i=0 then 0 else t.place.getD 0 0 + 1:Nat):Int)) i S es.size ep/\SeAt h S es ep t,.inl rfl,λA hh=>?_,jX _,st,hS⟩;refine { sub:=λb hb=>by simp at hb;simp[hb],frame:=λ_ _ _ x hk=>⟨x.1,x.2.1.at λo e=>hk I 'j' o e,x.2.2.at λo e=>hk S 'j' o e⟩,item:=λi s Q E hi x hQ=>?_,done:=λs Q E x hQ=>?_,self:=λi s Q E x hQ=>fu x.2.1 hQ }
 . rw[jA,jU]at hi;have i0:i=0:=by omega
   subst i0
   obtain⟨j,ej⟩:∃j,t.place=#[j]:=by
    have:t.place.size=1:=by omega
    exact nO this
   obtain⟨x0,ex⟩:∃x0,es[0]? = some x0:=⟨es[0],jd 'd'⟩;refine nM (slot:=0) (x:=x0.2) (nx:=j + 1) x.2.1 x.2.2 hf (λA' E' Q' hq=>fq x.2.2 hf hb few led (by rw[ej,yH,ex];exact hq)) λh' it' sb=>?_;refine hQ _ h' s.toks ?_ ⟨hi,by rw[ej];exact it',x.2.2.at λo e=>(sb.2 S hne).trans e⟩ λb o hb e=>sb.extBut b o (λz=>hb (by simp[z])) e;rw[jF,kB,ex];rfl
 . rw[jA,jU]at x
   by_cases z:es.size=0
   . have e0:es[SetTable.below t.place 0]? = none:=kS 'd';have x2:=x.2.1;rw[qh z]at x2;exact fo (slot:=0) hh x2 x.2.2 hf (λA' E' Q' hq=>fq x.2.2 hf hb few led (by rw[e0];exact hq)) λh' k=>hQ h' s.toks λb o hb e=>k b o (λz=>hb (by simp[z])) e
   . obtain⟨j,ej⟩:∃j,t.place=#[j]:=by
      have:t.place.size=1:=by omega
      exact nO this
     have x2:=x.2.1;rw[qg z,ej]at x2;have e0:es[(1:Nat)]? = none:=kS 'd';exact fo (slot:=j + 1) hh x2 x.2.2 hf (λA' E' Q' hq=>fq x.2.2 hf hb few led (by rw[ej,yI,e0];exact hq)) λh' k=>hQ h' s.toks λb o hb e=>k b o (λz=>hb (by simp[z])) e
def yL{I S P lo:J0}(hne:S≠I)(hPI:P≠I)(hlo:lo<=P){es:Array (Int×xY)}{ep:Nat}{t:SetTable}(hf:t.fits es.size=true){h1:Heap}{ps:xz}(pp:ps.Perm (List.range es.size))(hP:h1.IsTuple P (ps.map λ(i:Nat)=>rawInt (i:Int)).toArray)(st:IsSi h1 I (.ref P) 0 S es.size ep)(hS:SeAt h1 S es ep t) :
 YH prog w S I lo (ps.map λi=>(es.getD i (0,.none)).2) h1:=by
 have pl:ps.length=es.size:=by rw[pp.length_eq,kR]
 refine⟨P,λi h=>i<=es.size/\IsSi h I (.ref P) i S es.size ep/\SeAt h S es ep t/\h.IsTuple P (ps.map λ(i:Nat)=>rawInt (i:Int)).toArray,.inr hlo,λA hh=>?_,jX _,st,hS,hP⟩;refine { sub:=λb hb=>by simp at hb;simp[hb],frame:=λ_ _ _ x hk=>⟨x.1,x.2.1.at λo e=>hk I 'j' o e,x.2.2.1.at λo e=>hk S 'j' o e,x.2.2.2.at λo e=>hk P 'j' o e⟩,item:=λi s Q E hi x hQ=>?_,done:=λs Q E x hQ=>?_,self:=λi s Q E x hQ=>fu x.2.1 hQ }
 . rw[jA,pl]at hi;have hi':i < ps.length:=by omega
   have pin:ps[i] < es.size:=kh.mp (pp.mem_iff.mp (jl hi'));refine yF (p:=ps[i]) (tk:=0) (x:=es[ps[i]]) x.2.1 x.2.2.1 hf x.2.2.2 ?_ (jd pin) λh' it' sb=>?_
   . rw[j8,jF,jC hi'];rfl
   . refine hQ _ h' s.toks ?_ ⟨hi,it',x.2.2.1.at λo e=>(sb.2 S hne).trans e,x.2.2.2.at λo e=>(sb.2 P hPI).trans e⟩ λb o hb e=>sb.extBut b o (λz=>hb (by simp[z])) e;rw[jF,jC hi'];simp[Array.getD,pin]
 . rw[jA,pl]at x;exact yG hh x.2.1 x.2.2.1 hf x.2.2.2 (by rw[j8];exact qD (by rw[jA];omega)) λh' k=>hQ h' s.toks λb o hb e=>k b o (λz=>hb (by simp[z])) e
theorem nQ:∀{ks:xy}{es:List (Int×xY)},Paired (QG w) ks es->StrsAre (es.map (·.2)) ks
 | _,_,.nil => .nil
 | _,_,.cons (b:=e) h t=>by
  obtain⟨_,tk,e2⟩:=h;rw[jf,e2];exact .cons _ _ (nQ t)
def fz{ks:xy}{es:List (Int×xY)}(h:Paired (QG w) ks es){es':List (Int×xY)}(p:es'.Perm es):∃ss,ss.Perm ks/\StrsAre (es'.map (·.2)) ss:=by
 obtain⟨ss,h1,h2⟩:=prm p h;exact⟨ss,h1,nQ h2⟩
def yM(hS:SetS w (Jp w) s.heap S ks)
 (h:∀(I:J0) (h1:Heap) (d:Drawn) (vs:xx) (ss:xy),(∀b o,s.heap.get? b=some o->h1.get? b=some o)->s.heap.objs.size<=I->YH prog w S I s.heap.objs.size vs h1->ss.Perm ks->StrsAre vs ss->Q (.ref I) { s with heap:=h1,drawn:=d }) :
 wpAny (model prog w) A (pyIter (.ref S)) Q E s:=by
 obtain⟨o,es,ep,t,ho,hex,hd,pr,nd,hb,hf,led,pl⟩:=hS;have hT:s.TypeIs (.ref S) "set" := ⟨o,ho,hex.1⟩;have hl:es.size=ks.length:=by rw[<- jU];exact pr.length.symm
 have ltS:=jG ho;refine wpAny_pyIter_slot hT PySem.F.slot_set_iter (qL PySem.F.slot_set_iter hT yD ?_ (PySem.F.args_set_iter_1 _));unfold Builtin.«frozenset.__iter__»;refine q8 (xf (a:=S) rfl ?_);refine q8 ?_;unfold Builtin.Frozenset.sizeOf;refine q8 (x4 ho hd hf (qf ?_));refine q8 ?_;unfold setDrawn;refine q8 (qX ho hd hf ?_);dsimp only;unfold setsByText;refine q8 (q8 (qZ (qf (qf ?_))))
 have last:∀(f:xY) (h0:Heap) (d:Drawn),(∀b o,s.heap.get? b=some o->h0.get? b=some o)->s.heap.objs.size<=h0.objs.size->(∃vs ss,YH prog w S h0.objs.size s.heap.objs.size vs (h0.push { cls := .type "set_iterator",data := .fields #[f,rawInt 0,.ref S,rawInt es.size,rawInt ep] })/\ss.Perm ks/\StrsAre vs ss) ->
  wpAny (model prog w) A.in1 (setEpoch S >>= λe=>newFields "set_iterator" [f,rawInt 0,.ref S,rawInt es.size,rawInt e] >>= λv=>ret v) (λfin s'=>∃v,fin=Fin.done (Flow.ret v)/\∃T' r,s'.TypeIs v T'/\typeLookup (Value.type T') (Str.ofString "__next__")=pure (some r)/\Q v s') E { s with heap:=h0,drawn:=d }:=λf h0 d kp sz hw=>by
  obtain⟨vs,ss,h1,h2,h3⟩:=hw;refine q8 (wpAny_setEpoch_of (s:={ s with heap:=h0,drawn:=d }) (kp _ _ ho) hd hf ?_);refine q8 ?_;unfold newFields;refine qw (qf ⟨_,rfl, "set_iterator",_,⟨_,jK _ rfl,rfl⟩,X7.lookup,?_⟩);exact h _ _ d vs ss (λb o e=>jB _ (kp b o e)) sz h1 h2 h3
 refine qu (λhc=>?_) (λhc=>?_)
 . refine q8 (fk es.size (List.range es.size) s _ 'j' λps d pp=>?_);have pl:ps.length=es.size:=by rw[pp.length_eq,kR]
   refine q8 (xj ?_ (by rw[jA,pl];exact fits_of_scanBound hb));refine last _ _ d (λb o e=>jB _ e) (by simp[Heap.push]) ?_;have hI:((s.heap.push (seqObj "tuple" (ps.map λ(i:Nat)=>rawInt (i:Int)).toArray 0)).push { cls := .type "set_iterator",data := .fields #[.ref s.heap.objs.size,rawInt 0,.ref S,rawInt es.size,rawInt ep] }).IsTuple s.heap.objs.size (ps.map λ(i:Nat)=>rawInt (i:Int)).toArray:=⟨_,jB _ (jK _ rfl),rfl,0,rfl⟩
   have eq:(List.range es.size).map (λi=>es.getD i (0,.none))=es.toList:=by
    refine k7 'j' λi h1 h2=>?_;simp at h2;simp[Array.getD,h2]
   have p2:(ps.map λi=>es.getD i (0,.none)).Perm es.toList:=by
    have:=pp.map λi=>es.getD i (0,.none)
    rwa [eq]at this
   obtain⟨ss,h1,h2⟩:=fz pr p2;rw[kK]at h2;refine⟨_,ss,yL (t:=t) ?_ ?_ (jD _) hf pp hI ⟨_,jK _ rfl,rfl,rfl⟩ ⟨o,jB _ (jB _ ho),hd⟩,h1,h2⟩
   . exact jQ (jc ltS (by simp[Heap.push]))
   . simp[Heap.push]
 . refine q8 (qf ?_);refine last _ s.heap s.drawn (λb o e=>e) (jD _) ?_;have si0:IsSi (s.heap.push { cls := .type "set_iterator",data := .fields #[rawInt 0,rawInt 0,.ref S,rawInt es.size,rawInt ep] }) s.heap.objs.size (rawInt 0) 0 S es.size ep:=⟨_,jK _ rfl,rfl,rfl⟩;have se0:SeAt (s.heap.push { cls := .type "set_iterator",data := .fields #[rawInt 0,rawInt 0,.ref S,rawInt es.size,rawInt ep] }) S es ep t:=⟨o,jB _ ho,hd⟩
   cases hbt:Jp w with
   | true =>
    obtain⟨ss,h1,h2⟩:=fz pr (fm (w.params.setOrder S ep) es);exact⟨_,ss,yJ (jQ ltS) hf hbt si0 se0,h1,h2⟩
   | false =>
    obtain⟨ss,h1,h2⟩:=fz pr (.refl es.toList)
    have few:es.size<=1:=by
     by_cases z:es.size<=1
     . exact z
     . exfalso;apply hc;show(!Jp w && (!t.plain && decide (es.size > 1)))=true
       have:t.plain=false:=by
        rcases pl with z' | z'
        . rw[z',kU]at hl;omega
        . exact z'
       rw[hbt,this,qm 'd'];rfl
    exact⟨_,ss,yK (jQ ltS) hf hbt few (by rw[led,hbt];rfl) si0 se0,h1,h2⟩
end
section
variable {prog:J1}{w:J2}{A:J3}{E:xp}{s:xZ}
def yN(hT:s.TypeIs (.ref r) "set")(h:Q false s):wpAny (model prog w) A (Builtin.List.listLengthHint (.ref r)) Q E s:=by
 unfold Builtin.List.listLengthHint;refine q8 (wpAny_specialOf hT PySem.F.slot_set_len.lookup ?_);generalize hid:("set.__len__" : String)=id0;wp_delta;rw[show splitId id0=some ("set", "__len__") from by subst hid;decide +kernel];subst hid;refine q8 (x8 (T := "set") (b:=true) hT (by rw[isSubtype_type];kernel_rfl) ?_);refine qu (λhab=>absurd hab 'f') (λ_=>?_);refine qu (λ_=>?_) (λhab=>absurd (by decide +kernel) hab);refine q8 (xa hT ?_);exact qf h
def yO(hh:A.handled=none)(hS:SetS w (Jp w) s.heap S ks)(hL:s.heap.get? L=some { cls := .type "list",data := .seq #[] c0 })(hSL:L≠S)(few:ks.length<=sizeLine)
 (hR:∀(h':Heap) (tk:Nat) (d:Drawn) (acc:xw) (c:Nat) (ss:xy),(∀b o,b≠L->s.heap.get? b=some o->h'.get? b=some o)->h'.get? L=some { cls := .type "list",dict:=none,data := .seq acc c,slots:=#[] }->ss.Perm ks->StrsAre acc.toList ss->R (.ok (.ret res)) { s with heap:=h',toks:=tk,drawn:=d }) :
 wpAny (model prog w) A.in1 (Builtin.List.listExtendWith (.ref L) (.ref S) res)
  (λfin s'=>match fin with | .done f=>R (.ok f) s' | .again c'=>c'.quiet=true/\codeAny (model prog w) A c' R s') (λe s'=>R (.error e) s') s:=by
 have hT:s.TypeIs (.ref S) "set" := by
  obtain⟨o,es,ep,t,ho,hex,_⟩:=hS;exact⟨o,ho,hex.1⟩
 have ltL:=jG hL;unfold Builtin.List.listExtendWith;refine q8 (xa (T := "set") hT ?_);have h1:Builtin.List.listSameRef (.ref L) (.ref S)=false:=by simp[Builtin.List.listSameRef,hSL]
 have h2:(Value.type "set" == Value.type "list")=false:=by decide
 have h3:(Value.type "set" == Value.type "tuple")=false:=by decide
 simp only[h1,h2,h3,Bool.or_false,kL,xm];refine q8 (yM hS λI g1 d vs ss kp lo sw pp sa=>?_);obtain⟨P,St,hP,W,st0⟩:=sw;have W:=W A.in1 hh;have vl:vs.length=ks.length:=by rw[<- pp.length_eq];exact StrsAre.length sa
 have hLf:L∉[I,S,P]:=by
  intro z;simp only[jL,jz,xk]at z;rcases z with z | z | z
  . exact absurd ltL (by rw[z];exact Nat.not_lt.mpr lo)
  . exact hSL z
  . rcases hP with y | y
    . exact hSL (z.trans y)
    . exact absurd ltL (by rw[z];exact Nat.not_lt.mpr y)
 have hL1:=kp _ _ hL
 have hT1:Shared.TypeIs { s with heap:=g1,drawn:=d } (.ref S) "set" := by
  obtain⟨o,ho,hc⟩:=hT;exact⟨o,kp _ _ ho,hc⟩
 have key:∀(g:Heap) (c1 tk:Nat),St 0 g->(∀b o,b≠L->g1.get? b=some o->g.get? b=some o)->g.get? L=some { cls := .type "list",data := .seq #[] c1 } ->
  codeAny (model prog w) A (.builtin "list.extend.loop" ⟨[.ref L,.ref I,res],[]⟩) R { s with heap:=g,toks:=tk,drawn:=d }:=by
  intro g c1 tk xX hk hLg;refine codeAny_extend_loopS W.toS 'd' L hLf res vs.length 0 _ #[] c1 rfl (jX _) xX hLg (ItemsOf.nil _) λs' acc c mv hL' hacc=>?_;rw[Moved.eq_with mv]
  have ea:acc.toList=vs:=by
   refine List.ext_getElem? λi=>?_;rw[kB]
   by_cases hi:i < vs.length
   . have hz:i < acc.size:=by rw[hacc.1];exact hi
     rw[jd hz];exact(hacc.2 i _ (jd hz)).symm
   . rw[kS (by rw[hacc.1];omega),qD 'd']
  refine hR s'.heap s'.toks d acc c ss (λb o hb e=>mv.heap b o (λhm=>?_) (hk b o hb (kp b o e))) hL' pp (by rw[ea];exact sa);rcases jL.mp hm with z | z
  . exact hb z
  . rw[jM]at z;exact absurd (jG e) (by rw[z];exact Nat.not_lt.mpr lo)
 refine q8 (qK (yN hT1 ?_));refine qu (λ_=>?_) (λ_=>qf ⟨qU PySem.F.plain_extend_loop _,key _ c0 s.toks st0 (λb o _ e=>e) hL1⟩);refine q8 (x9 ?_);refine q8 ?_;show wpAny _ _ (updateSeq L (·.push .none) >>= λ_=>updateSeq L (·.pop)) _ _ _;refine q8 (x6 hL1 rfl ?_);have hL2:=ja (Obj.mapSeq (·.push Value.none)) hL1 rfl;refine x6 (hz:=by seq_fits) hL2 rfl ?_;have hL3:=ja (Obj.mapSeq (·.pop)) hL2 rfl;refine qf ⟨qU PySem.F.plain_extend_loop _,key _ _ s.toks ?_ (λb o hb e=>?_) hL3⟩
 . refine W.frame 0 _ _ st0 λb hb o e=>?_;have hbL:b≠L:=λz=>hLf (z ▸ hb);exact(jY _ _ (Ne.symm hbL)).trans ((jY _ _ (Ne.symm hbL)).trans e)
 . exact(jY _ _ (Ne.symm hb)).trans ((jY _ _ (Ne.symm hb)).trans e)
def yP(hh:A.handled=none)(hS:SetS w (Jp w) s.heap S ks)(few:ks.length<=sizeLine)
 (k:∀(g:Heap) (tk:Nat) (d:Drawn) (vs:xx) (ss:xy),(∀b o,s.heap.get? b=some o->g.get? b=some o)->s.heap.objs.size < g.objs.size->ss.Perm ks->StrsAre vs ss->R vs { s with heap:=g,toks:=tk,drawn:=d }):wpAny (model prog w) A (collect (.ref S)) R E s:=by
 have ltS:S < s.heap.objs.size:=by
  obtain⟨o,es,ep,t,ho,_⟩:=hS;exact jG ho
 unfold collect;refine q8 (wpAny_runValue (qM entry_proto_collect' ?_));rw[Around.under_plainId PySem.F.plain_proto_collect _];show wpAny _ A.in1 (newList [] >>= λl=>again (.builtin "list.__iadd__" ⟨[l,.ref S],[]⟩)) _ _ s;refine q8 (qw (qf ⟨qU PySem.F.plain_list_iadd _,qM entry_list_iadd' ?_⟩));rw[Around.under_plainId PySem.F.plain_list_iadd _];obtain⟨g0,eg0⟩:∃g0,g0=s.heap.push { cls := .type "list",data := .seq ([]:xx).toArray }:=⟨_,rfl⟩;have xM:g0.get? s.heap.objs.size=some { cls := .type "list",data := .seq #[] 0 }:=by rw[eg0];exact jK _ rfl
 have kp0:∀b o,s.heap.get? b=some o->g0.get? b=some o:=λb o e=>by rw[eg0];exact jB _ e
 show wpAny _ A.in1 (Builtin.List.listExtendWith (.ref s.heap.objs.size) (.ref S) (.ref s.heap.objs.size)) _ _ _;rw[<- eg0]
 have step:=yO (prog:=prog) (w:=w) (A:=A) (s:={ s with heap:=g0 }) (res := .ref s.heap.objs.size) (R:=λ(q:Result) (s':xZ)=>∃(g:Heap) (tk:Nat) (d:Drawn) (acc:xw) (c:Nat) (ss:xy),q = .ok (.ret (.ref s.heap.objs.size))/\s'={ s with heap:=g,toks:=tk,drawn:=d }/\(∀b o,s.heap.get? b=some o->g.get? b=some o)/\g.get? s.heap.objs.size=some { cls := .type "list",dict:=none,data := .seq acc c,slots:=#[] }/\ss.Perm ks/\StrsAre acc.toList ss)
  hh (hS.at λo e=>kp0 _ o e) xM (jn ltS) few (λg tk d acc c ss k1 k2 k3 k4=>⟨g,tk,d,acc,c,ss,rfl,rfl,λb o e=>k1 b o (jQ (jG e)) (kp0 b o e),k2,k3,k4⟩)
 have last:∀(g:Heap) (tk:Nat) (d:Drawn) (acc:xw) (c:Nat) (ss:xy),(∀b o,s.heap.get? b=some o->g.get? b=some o)->g.get? s.heap.objs.size=some { cls := .type "list",dict:=none,data := .seq acc c,slots:=#[] }->ss.Perm ks->StrsAre acc.toList ss ->
  wpAny (model prog w) A (load s.heap.objs.size >>= λo=>match o.data with | .seq xs _=>pure xs.toList | _=>unsupported "internal:collect") R E { s with heap:=g,toks:=tk,drawn:=d }:=λg tk d acc c ss k1 k2 k3 k4=>q8 (wpAny_load k2 (qf (k g tk d acc.toList ss k1 (jG k2) k3 k4)))
 refine qQ step (λfin s2 x=>?_) λe s2 x=>?_
 . cases fin with
   | done f =>
    obtain⟨g,tk,d,acc,c,ss,e,rfl,y⟩:=x
    cases e
    exact last g tk d acc c ss y.1 y.2.1 y.2.2.1 y.2.2.2
   | again c1 =>
    refine⟨x.1,xh x.2 λq s3 z=>?_⟩;obtain⟨g,tk,d,acc,c,ss,rfl,rfl,y⟩:=z;exact last g tk d acc c ss y.1 y.2.1 y.2.2.1 y.2.2.2
 . obtain⟨_,_,_,_,_,_,z,_⟩:=x
   cases z
end
section
variable {X:Cx}{xB:xr}{σ:St}{H:Hp}{s:xZ}
def yQ(hc:X.calm=true)(I:Inv X xB σ H s)(hS:SetS X.w (Jp X.w) s.heap S ks)(few:ks.length < 64)
 (q:∀(l:J0) (ss:xy),H l=none->ss.Perm ks->ss.Pairwise ltS->Q (.ref l) (upd H l (.lst (ss.map V.str)))) :
 wpAny (model X.prog X.w) X.A (call (.builtin "sorted") [.ref S]) (EP X xB σ Q) X.xe s :=
 nC I (by obtain⟨_,_,_,_,_,_,_,_,n,_⟩:=hS;exact n) few (λE' R hR=>yP (A:=X.A.in1) (I.ok.hd hc) hS (by rw[qR];omega) λg tk d vs ss k1 k2 k3 k4=>hR g tk d vs ss k1 (kE k2) k3 k4) q
def nR{ns:xy}{its:xx}(r:Vals (ns.map V.str) its):∀(i:Nat) (v:xY),its.toArray[i]? = some v->∃t,v = .str (ns.getD i Str.empty) t:=λi v hv=>by
 rw[j8]at hv;have sa:=aQ r;have hi:i < its.length:=(jJ.mp hv).1;obtain⟨tk,e⟩:=eY sa i hi;simp only[List.getD,hv,Option.getD_some]at e;exact⟨tk,e⟩
end
section
variable {prog:J1}{w:J2}{A:J3}{E:xp}{s:xZ}
def yR(hS:SetS w byT s.heap a ks)(h:∀r:Option Nat,r.isSome=decide (x∈ks)->Q r s):wpAny (model prog w) A (setFind a (.str x tk) (hashStr w x)) Q E s:=by
 obtain⟨o,es,ep,t,ho,hex,hd,pr,nd,hb,hf,led,pl⟩:=hS;unfold setFind setFindIn;refine q8 (qX ho hd hf ?_);dsimp only;rw[byScan_of (knd:=strKind prog w) (x := .str x tk) rfl hb (f9 pr)];simp only[↓reduceIte];refine q8 (x9 ?_);refine q8 (wpAny_setScan_of (knd:=strKind prog w) (k:=x) (strKind_is _ _ _ _) ho hd hf (f9 pr) ?_);rcases nE (prog:=prog) pr x with ⟨e1,nin⟩ | ⟨⟨j,e1⟩,inn⟩
 . rw[e1];dsimp only;exact qf (h none (by rw[qk nin];rfl))
 . rw[e1];dsimp only;exact qf (h (some (0 + j)) (by rw[qm inn];rfl))
def yS(hS:SetS w (Jp w) s.heap S ks)
 (h:∀(d:Drawn) (es:Array (Int×xY)) (ks':xy),ks'.Perm ks->Paired (QG w) ks' es.toList->Q es { s with drawn:=d }):wpAny (model prog w) A (setWalk S) Q E s:=by
 obtain⟨o,es,ep,t,ho,hex,hd,pr,nd,hb,hf,led,pl⟩:=hS;have hl:es.size=ks.length:=by rw[<- jU];exact pr.length.symm
 have e0:s={ s with drawn:=s.drawn }:=by cases s;rfl
 unfold setWalk;refine q8 (qX ho hd hf ?_);dsimp only;unfold setsByText;refine q8 (q8 (qZ (qf ?_)));show wpAny _ _ (if Jp w=true then _ else _) _ _ _
 cases hbt:Jp w with
 | true =>
  rw[qh rfl];refine q8 (qZ (qf ?_));obtain⟨ks',h1,h2⟩:=prm (fm (w.params.setOrder S ep) es) pr;rw[e0];exact h s.drawn _ ks' h1 h2
 | false =>
  rw[qg jR];refine qu (λz=>?_) (λz=>?_)
  . refine q8 (fk es.size es.toList s _ (jU ..) λys d pp=>qf ?_);obtain⟨ks',h1,h2⟩:=prm pp pr;exact h d _ ks' h1 h2
  . refine q8 ?_;wp_delta;refine qu (λz=>absurd z (by rw[led,hbt];simp)) (λ_=>?_);refine qf (qf ?_);rw[e0];exact h s.drawn es ks (.refl _) pr
def yT(h:Paired (QG w) ks es):∀e∈es,∃k∈ks,∃tk,e=(hashStr w k,.str k tk):=by
 induction h with
 | nil=>intro e he;cases he
 | cons h1 _ ih =>
  intro e he;rcases jL.mp he with rfl | he
  . obtain⟨e1,tk,e2⟩:=h1;exact⟨_,jb ..,tk,Prod.ext e1 e2⟩
  . obtain⟨k,hk,tk,e⟩:=ih e he;exact⟨k,jS _ hk,tk,e⟩
def yU(h:∀a∈as,∃ks,SetS w byT s.heap a ks)(q:Q true s):wpAny (model prog w) A (setsQuiet as) Q E s:=by
 unfold setsQuiet;refine q8 (wpAny_forIn_list _ (λl b s'=>s'=s/\b=⟨none,()⟩/\∀a∈l,∃ks,SetS w byT s.heap a ks) _ (λa xG b s' hI=>?_) (λb s' hI=>?_) as _ ⟨rfl,rfl,h⟩)
 . obtain⟨rfl,rfl,h⟩:=hI;obtain⟨ks,o,es,ep,t,ho,hex,hd,pr,nd,hb,hf,led,pl⟩:=h a (jb ..);refine q8 (x4 ho hd hf ?_);refine q8 (wpAny_forIn_array' _ (λl b s''=>s''=s'/\b=(none,())/\∀e∈l,∃k∈ks,∃tk,e=(hashStr w k,.str k tk)) _ (λe rest2 b s'' hI=>?_) (λb s'' hI=>?_) es _ ⟨rfl,rfl,yT pr⟩)
   . obtain⟨rfl,rfl,h2⟩:=hI;obtain⟨k,_,tk,rfl⟩:=h2 e (jb ..);exact qf ⟨rfl,rfl,λe' he=>h2 e' (jS _ he)⟩
   . obtain⟨rfl,rfl,h2⟩:=hI;exact qf ⟨rfl,rfl,λa ha=>h a (jS _ ha)⟩
 . obtain⟨rfl,rfl,h⟩:=hI;exact qf q
theorem yV(hS:SetS w (Jp w) s.heap S ks)(hT:SetS w (Jp w) s.heap T kt)(hr:SetS w (Jp w) s.heap r [])(nSr:S≠r)
 (h:∀(h':Heap) (d:Drawn) (es:Array (Int×xY)) (ks':xy),Heap.SameBut r s.heap h'->SetS w (Jp w) h' r []->ks'.Perm ks->Paired (QG w) ks' es.toList->Q es { s with heap:=h',drawn:=d }) :
 wpAny (model prog w) A (setWalkUnseen S [T,r] (some r)) Q E s:=by
 obtain⟨o,es,ep,t,ho,hex,hd,pr,nd,hb,hf,led,pl⟩:=id hS;unfold setWalkUnseen;refine q8 (qX ho hd hf ?_);dsimp only;unfold setsByText;refine q8 (q8 (qZ (qf ?_)));refine qu (λz=>?_) (λz=>?_)
 . exact yS hS λd es ks' h1 h2=>h s.heap d es ks' (Heap.SameBut.refl r s.heap) hr h1 h2
 refine q8 (yU (byT:=Jp w) (λa ha=>?_) ?_)
 . rcases jL.mp ha with rfl | ha
   . exact⟨_,hS⟩
   . rcases jL.mp ha with rfl | ha
     . exact⟨_,hT⟩
     . rw[jM.mp ha];exact⟨_,hr⟩
 refine qu (λz=>absurd z 'f') (λ_=>?_);refine q8 (x9 ?_);obtain⟨o2,es2,ep2,t2,xR,hex2,hd2,pr2,nd2,hb2,hf2,led2,pl2⟩:=id hr;refine q8 (qX xR hd2 hf2 ?_);dsimp only;refine qu (λz=>?_) (λz=>?_)
 . refine q8 (wpAny_storeSet_of xR hd2 (qf ?_) (fits_of_scanBound hb2));refine h _ s.drawn es ks (Heap.SameBut.update ..) ⟨_,es2,_,_,fh xR hd2 es2 _,hex2,rfl,pr2,nd2,hb2,?_,?_,.inl rfl⟩ (.refl _) pr
   . exact hf2
   . show(t2.led && t.led) = !Jp w;rw[led2,led,Bool.and_self]
 . exact qf (h s.heap s.drawn es ks (Heap.SameBut.refl r s.heap) hr (.refl _) pr)
def fA(ho:s.heap.get? a=some o)(hc:o.cls = .type "set")(h:Q true s):wpAny (model prog w) A (Builtin.Frozenset.isAnySet (.ref a)) Q E s:=by
 have tS:s.TypeIs (.ref a) "set" := ⟨o,ho,hc⟩;unfold Builtin.Frozenset.isAnySet;refine q8 (x8 tS sub_set_self ?_);exact qf h
theorem nU{kw ka:xy}{id:String}{Q:Unit->xZ->Prop}(hW:SetS w (Jp w) s.heap Wk kw)(hA:SetS w (Jp w) s.heap As ka)(hr:SetS w (Jp w) s.heap r [])(n1:Wk≠r)(n2:As≠r)
 (h:∀(h':Heap) (d:Drawn) (kr:xy),Heap.SameBut r s.heap h'->SetS w (Jp w) h' r kr->(∀k,k∈kr↔k∈kw/\k∈ka)->Q () { s with heap:=h',drawn:=d }) :
 wpAny (model prog w) A (do
  let was <- setEpoch Wk
  let es <- setWalkUnseen Wk [As,r] (some r)
  forIn es PUnit.unit λx __s=>match x with
   | (h,x)=>do
    holding [x] (do
     let f <- setFind As x h
     if f.isSome=true then do
      let _ <- setAddHashed r x h
      pure ()
     else pure ())
    Builtin.Frozenset.unchanged id Wk was
    pure (ForInStep.yield PUnit.unit)
  pure ()) Q E s:=by
 obtain⟨o,es,ep,t,ho,hex,hd,pr,nd,hb,hf,led,pl⟩:=_root_.id hW;have hl:es.size=kw.length:=by rw[<- jU];exact pr.length.symm
 refine q8 (wpAny_setEpoch_of ho hd hf ?_);refine q8 (yV hW hA hr n1 λh1 d es' kw' sb1 hr1 pp pr'=>?_);have lw:=pp.length_eq;refine q8 (wpAny_forIn_array' _ (λl b s'=>∃(h2:Heap) (kr kl:xy),s'={ s with heap:=h2,drawn:=d }/\Heap.SameBut r s.heap h2/\SetS w (Jp w) h2 r kr/\Paired (QG w) kl l/\kr.length + kl.length<=kw'.length/\∀k,(k∈kr\/(k∈kl/\k∈ka))↔k∈kw'/\k∈ka) _ ?_ ?_ es' _ ⟨h1,[],kw',rfl,sb1,hr1,pr',(by rw[kU];omega),λk=>⟨λz=>z.resolve_left (λz=>nomatch z),λz => .inr z⟩⟩)
 . rintro x xG b s' ⟨h2,kr,kl,rfl,sb,hr2,prl,len,mem⟩
   cases prl with
   | cons h0 tl =>
    rename_i k kl;obtain⟨e1,tk,e2⟩:=h0;obtain⟨x1,x2⟩:=x;dsimp only at e1 e2;subst e1 e2;rw[jP]at len;have hA2:SetS w (Jp w) h2 As ka:=hA.at λo e=>by rw[sb.2 As n2];exact e
    have fin:∀(h3:Heap) (kr':xy) (Rr:ForInStep PUnit->xZ->Prop),(∀s'_1,(∃(h2:Heap) (kr kl:xy),s'_1={ s with heap:=h2,drawn:=d }/\Heap.SameBut r s.heap h2/\SetS w (Jp w) h2 r kr/\Paired (QG w) kl xG/\kr.length + kl.length<=kw'.length/\∀k,(k∈kr\/(k∈kl/\k∈ka))↔k∈kw'/\k∈ka)->Rr (ForInStep.yield PUnit.unit) s'_1)->Heap.SameBut r s.heap h3->SetS w (Jp w) h3 r kr'->kr'.length<=kr.length + 1->(∀y,y∈kr'↔y∈kr\/(y=k/\k∈ka))->wpAny (model prog w) A (do
     Builtin.Frozenset.unchanged id Wk ep
     pure (ForInStep.yield PUnit.unit)) Rr E { s with heap:=h3,drawn:=d }:=λh3 kr' Rr hRr sb3 hr3 l3 m3=>by
     refine q8 ?_;unfold Builtin.Frozenset.unchanged;refine q8 (wpAny_setEpoch_of (s:={ s with heap:=h3,drawn:=d }) (by rw[sb3.2 Wk n1];exact ho) hd hf ?_);refine qu (λz=>absurd z 'j') (λ_=>qf (qf ?_));refine hRr _ ⟨h3,kr',kl,rfl,sb3,hr3,tl,by omega,λy=>?_⟩;rw[<- mem y,m3 y,jL];constructor
     . rintro ((z | ⟨z1,z2⟩) | ⟨z1,z2⟩)
       . exact .inl z
       . exact .inr ⟨.inl z1,z1 ▸ z2⟩
       . exact .inr ⟨.inr z1,z2⟩
     . rintro (z | ⟨z1 | z1,z2⟩)
       . exact .inl (.inl z)
       . exact .inl (.inr ⟨z1,z1 ▸ z2⟩)
       . exact .inr ⟨z1,z2⟩
    refine q8 (qK ?_);refine q8 (yR (s:={ s with heap:=h2,drawn:=d }) hA2 λf hf'=>?_);refine qu (λz=>?_) (λz=>?_)
    . have hk:k∈ka:=by rw[hf']at z;exact x5 z
      refine q8 (nG (s:={ s with heap:=h2,drawn:=d }) hr2 'd' λh3 kr' b sb3 hr3 m3 l3=>qf ?_);exact fin h3 kr' _ (λ_ z=>z) (sb.trans sb3) hr3 l3 λy=>by rw[m3 y];exact⟨λz=>z.elim .inl λz => .inr ⟨z,hk⟩,λz=>z.elim .inl λz => .inr z.1⟩
    . have hk:k∉ka:=λhk=>z (by rw[hf'];exact qm hk);exact qf (fin h2 kr _ (λ_ z=>z) sb hr2 (Nat.le_succ _) λy=>⟨.inl,λz=>z.elim (λz=>z) λz=>absurd z.2 hk⟩)
 . rintro b s' ⟨h2,kr,kl,rfl,sb,hr2,prl,len,mem⟩
   cases prl
   refine qf (h h2 d kr sb hr2 λk=>?_);have:=mem k;rw[pp.mem_iff]at this;rw[<- this];exact⟨.inl,λz=>z.elim (λz=>z) λz=>nomatch z.1⟩
theorem yW(hS:SetS w (Jp w) s.heap S ks)(hT:SetS w (Jp w) s.heap T kt)(ne:S≠T)
 (h:∀(h':Heap) (d:Drawn) (kr:xy),(∀b o,s.heap.get? b=some o->h'.get? b=some o)->SetS w (Jp w) h' s.heap.objs.size kr->(∀k,k∈kr↔k∈ks/\k∈kt)->Q (.ref s.heap.objs.size) { s with heap:=h',drawn:=d }) :
 wpAny (model prog w) A (binaryOp .BitAnd (.ref S) (.ref T)) Q E s:=by
 obtain⟨o,es,ep,t,ho,hex,hd,pr,nd,hb,hf,led,pl⟩:=id hS;obtain⟨o2,es2,ep2,t2,xR,hex2,hd2,pr2,nd2,hb2,hf2,led2,pl2⟩:=id hT;have tS:s.TypeIs (.ref S) "set" := ⟨o,ho,hex.1⟩;have tT:s.TypeIs (.ref T) "set" := ⟨o2,xR,hex2.1⟩;have en:entryFor table "set.__and__" = some Builtin.«frozenset.__and__»:=entryFor_alias (id' := "frozenset.__and__") (by kernel_rfl) (by first | rfl | decide +kernel | (unfold String.splitOn;simp +decide [String.splitOnAux])) (by decide +kernel) (by kernel_rfl);refine wpAny_binaryOp_same tS tT PySem.F.fills_set_and PySem.F.slot_set_and (qL PySem.F.slot_set_and tS en ?_ (PySem.F.args_set_and_2 _ _));unfold Builtin.«frozenset.__and__»;wp_delta;refine q8 (xf (a:=(.ref S,.ref T)) rfl ?_);dsimp only;refine q8 ?_;refine q8 (fA ho hex.1 ?_);refine fA xR hex2.1 ?_;refine qu (λz=>absurd z 'f') (λ_=>?_);refine q8 (xf (a:=S) rfl ?_);refine q8 ?_;show wpAny _ _ (Builtin.Frozenset.intersection _ S (.ref T)) _ _ _;unfold Builtin.Frozenset.intersection;refine qu (λz=>absurd (by simpa using z) (Ne.symm ne)) (λ_=>?_);refine q8 ?_;unfold Builtin.Frozenset.baseOf;refine q8 (x8 tS sub_set_self (qf ?_));rw[qh rfl];unfold newSet setsByText;refine q8 (q8 (q8 (qZ (qf ?_))));dsimp only;simp only[newObj];refine q8 (wpAny_alloc (qf ?_));have hr:SetS w (Jp w) (s.heap.push (Q9 w)) s.heap.objs.size []:=⟨Q9 w,#[],0,_,jK _ rfl,⟨rfl,rfl,rfl⟩,rfl,.nil,jx,by decide,rfl,rfl,.inl rfl⟩;have kp:∀b o,s.heap.get? b=some o->(s.heap.push (Q9 w)).get? b=some o:=λb o e=>jB _ e;have hS':=hS.at (h':=s.heap.push (Q9 w)) λo e=>kp _ o e;have hT':=hT.at (h':=s.heap.push (Q9 w)) λo e=>kp _ o e;show wpAny _ _ _ _ _ { s with heap:=s.heap.push (Q9 w) };refine q8 (xf (a:=s.heap.objs.size) rfl ?_);refine q8 (qK ?_);refine q8 (fA (s:={ s with heap:=s.heap.push (Q9 w) }) (kp _ _ xR) hex2.1 ?_);refine qu (λ_=>?_) (λz=>absurd rfl z);refine q8 (xf (a:=T) rfl ?_);unfold Builtin.Frozenset.sizeOf;refine q8 (q8 (x4 (s:={ s with heap:=s.heap.push (Q9 w) }) (kp _ _ xR) hd2 hf2 (qf ?_)));refine q8 (q8 (x4 (s:={ s with heap:=s.heap.push (Q9 w) }) (kp _ _ ho) hd hf (qf ?_)));have nS:S≠s.heap.objs.size:=jQ (jG ho);have nT:T≠s.heap.objs.size:=jQ (jG xR);have last:∀(h':Heap) (d:Drawn) (kr:xy),Heap.SameBut s.heap.objs.size (s.heap.push (Q9 w)) h'->SetS w (Jp w) h' s.heap.objs.size kr->(∀k,k∈kr↔k∈ks/\k∈kt)->Q (.ref s.heap.objs.size) { s with heap:=h',drawn:=d }:=λh' d kr sb hk m=>h h' d kr (λb o e=>by rw[sb.2 b (jQ (jG e))];exact kp b o e) hk m
 by_cases c:es2.size > es.size
 . rw[qh c];refine nU (s:={ s with heap:=s.heap.push (Q9 w) }) hS' hT' hr nS nT λh' d kr sb hk m=>?_;exact qf (qf ⟨_,rfl,(λz=>nomatch z),last h' d kr sb hk m⟩)
 . rw[qg c];refine nU (s:={ s with heap:=s.heap.push (Q9 w) }) hT' hS' hr nT nS λh' d kr sb hk m=>?_;exact qf (qf ⟨_,rfl,(λz=>nomatch z),last h' d kr sb hk λk=>(m k).trans And.comm⟩)
end
section
variable {X:Cx}
def nV{e:Expr}{te:TE}{p2 cp:Pos}{xB:xr}{s:xZ}{σ:St}{H:Hp}(K:xt)(hK:X.K=K)(hc:X.calm=true)(hg2:Gl X "set")(hm2:X.mg "set" = none)(hv2:bootBuiltins "set" = some (.type "set"))(ho:PE X e te)
 (he:starEach [e] X.env=[(false,eval e X.env)]) (I:Inv X xB σ H s) {C:xy->Hp->Prop}{R:xp}
 (h:te σ H λx H1=>∃(a:J0) (ns:xy),x = .ref a/\(SqL K H1 a (ns.map V.str)\/SqT K H1 a (ns.map V.str))/\ns.length<=4000/\C ns H1)
 (k:∀(S:J0) (ks ns:xy) (s1:xZ) (H1:Hp),Inv X xB σ H1 s1->H1 S=none->S≠X.env.locals->S∉X.fs->(∀p∈X.pn ++ xB,p.1≠S)->SetS X.w (Jp X.w) s1.heap S ks->(∀y,y∈ks↔y∈ns)->C ns H1->R (.ref S) s1) :
 wpAny (model X.prog X.w) X.A (eval (.Call (.Name "set" p2) [e] [] cp) X.env) R X.xe s:=by
 subst hK;refine qN (QB I hg2 hm2 hv2 ?_ 'f' 'f');refine PyProof.Rows.callWith_type1 ?_ he rfl;rw[he];show wpAny _ _ (spliced [(false,eval e X.env)]) _ _ s;refine Calls.spliced_cons (thn (ho xB s σ H _ I h) λv s1 fv=>?_);obtain⟨x,H1,I1,r1,a,ns,ex,sq,n4,hC⟩:=fv;subst ex;obtain rfl:v=Value.ref a:=r1;refine Calls.spliced_nil ?_;have hh:X.A.handled=none:=I1.ok.hd hc
 have xG:∀(n:Nat) (h':Heap) (tk:Nat) (ks:xy),n=ns.length->(∀b o,s1.heap.get? b=some o->h'.get? b=some o)->SetS X.w (Jp X.w) h' s1.heap.objs.size ks->(∀x,x∈ks↔∃j,j < n/\ns.getD j Str.empty=x)->R (.ref s1.heap.objs.size) { s1 with heap:=h',toks:=tk }:=λn h' tk ks en kp hS hm=>by
  have I2:=I1.kept (h':=h') (t':=tk) kp;refine k _ ks ns _ H1 I2 (I1.hok.fresh (jD _)) (jn I1.lt) (I1.nofs (jD _)) (λp hp z=>?_) hS (λx=>?_) hC
  . have:=jG (I1.pin p hp).1;rw[z]at this;exact j7 _ this
  . rw[hm x,List.mem_iff_getElem];constructor
    . rintro⟨j,h1,h2⟩;have hj:j < ns.length:=by omega
      exact⟨j,hj,by rw[<- h2];simp[List.getD,hj]⟩
    . rintro⟨j,hj,h2⟩;exact⟨j,by omega,by rw[<- h2];simp[List.getD,hj]⟩
 rcases sq with sq | sq
 . obtain⟨its,rv,pl,lz⟩:=I1.list sq;have vl:=rv.length;rw[jA]at vl;refine nH (yx a its.toArray) hh pl.isList (λi=>ns.getD i Str.empty) (nR rv) (by rw[jH];unfold scanBound;omega) λh' tk ks kp hS hm=>?_;exact xG _ h' tk ks (by rw[jH];exact vl.symm) kp hS hm
 . obtain⟨its,rv,pl,lz⟩:=I1.tuple sq;have vl:=rv.length;rw[jA]at vl;refine nH (yA a its.toArray) hh pl (λi=>ns.getD i Str.empty) (nR rv) (by rw[jH];unfold scanBound;omega) λh' tk ks kp hS hm=>?_;exact xG _ h' tk ks (by rw[jH];exact vl.symm) kp hS hm
def yX(K:xt)(te tu:TE):TE:=λσ H Q=>te σ H λx H1=>∃(a:J0) (ns:xy),x = .ref a/\(SqL K H1 a (ns.map V.str)\/SqT K H1 a (ns.map V.str))/\ns.length<=4000 /\
 tu σ H1 λy H2=>∃(b:J0) (ms:xy),y = .ref b/\(SqL K H2 b (ms.map V.str)\/SqT K H2 b (ms.map V.str))/\ms.length<=4000/\(∀ks:xy,ks.Nodup->(∀k∈ks,k∈ns/\k∈ms)->ks.length < 64) /\
 ∀(l:J0) (ss:xy),H2 l=none->(∀k,k∈ss↔k∈ns/\k∈ms)->ss.Pairwise ltS->Q (.ref l) (upd H2 l (.lst (ss.map V.str)))
def yY{te tu:TE}{p p2 p3 cp cp2 bp pos:Pos}(K:xt)(hK:X.K=K)(hc:X.calm=true)(hg:Gl X "sorted")(hm:X.mg "sorted" = none)(hv:bootBuiltins "sorted" = some (.builtin "sorted"))(hg2:Gl X "set")(hm2:X.mg "set" = none)(hv2:bootBuiltins "set" = some (.type "set"))(ho:PE X e te)(xR:PE X e2 tu)
 (he:starEach [e] X.env=[(false,eval e X.env)]:=by rfl) (he2:starEach [e2] X.env=[(false,eval e2 X.env)]:=by rfl):PE X (.Call (.Name "sorted" p) [.BinOp (.Call (.Name "set" p2) [e] [] cp) .BitAnd (.Call (.Name "set" p3) [e2] [] cp2) bp] [] pos) (yX K te tu):=by
 intro xB s σ H Q I h;refine qN (QB I hg hm hv ?_ 'f' 'f');refine PyProof.Rows.callWith_builtin1 ?_ rfl rfl;show wpAny _ _ (spliced [(false,eval (.BinOp (.Call (.Name "set" p2) [e] [] cp) .BitAnd (.Call (.Name "set" p3) [e2] [] cp2) bp) X.env)]) _ _ s;refine Calls.spliced_cons (wpAny_BinOp ?_);refine nV K hK hc hg2 hm2 hv2 ho he I h λS ks ns s1 H1 I1 nS lS fS pS hS mS h1=>?_
 obtain⟨o,hSo⟩:∃o,s1.heap.get? S=some o/\∀v,o.data ≠ .cell v:=by
  obtain⟨o,es,ep,t,ho,hex,hd,_⟩:=hS;exact⟨o,ho,λv z=>by rw[hd]at z;cases z⟩
 have pin1:∀p∈X.pn ++ ((S,o) :: xB),s1.heap.get? p.1=some p.2/\H1 p.1=none/\p.1≠X.env.locals/\p.1∉X.fs/\∀v,p.2.data ≠ .cell v:=λp hp=>by
  rcases jO.mp hp with hp | hp
  . exact I1.pin p (jZ _ hp)
  . rcases jL.mp hp with rfl | hp
    . exact⟨hSo.1,nS,lS,fS,hSo.2⟩
    . exact I1.pin p (jN _ hp)
 have I1':Inv X ((S,o) :: xB) σ H1 s1:={ I1 with pin:=pin1 };refine nV K hK hc hg2 hm2 hv2 xR he2 I1' h1 λT kt ms s2 H2 I2' nT lT fT pT hT mT h2=>?_;obtain⟨few,q⟩:=h2;have hSin:(S,o)∈X.pn ++ ((S,o) :: xB):=jN _ (jb ..);have keep:=(I2'.pin _ hSin).1
 have pin2:∀p∈X.pn ++ xB,s2.heap.get? p.1=some p.2/\H2 p.1=none/\p.1≠X.env.locals/\p.1∉X.fs/\∀v,p.2.data ≠ .cell v:=λp hp=>I2'.pin p (by
  rcases jO.mp hp with hp | hp
  . exact jZ _ hp
  . exact jN _ (jS _ hp))
 have I2:Inv X xB σ H2 s2:={ I2' with pin:=pin2 };have hS2:SetS X.w (Jp X.w) s2.heap S ks:=hS.at λo' e'=>by rw[hSo.1]at e';cases e';exact keep
 refine yW hS2 hT (pT _ hSin) λh' d kr kp hR mR=>?_;refine Calls.spliced_nil ?_;have I3:Inv X xB σ H2 { s2 with heap:=h',drawn:=d }:=(I2.kept (h':=h') (t':=s2.toks) kp).drawn d;have nd:kr.Nodup:=by obtain⟨_,_,_,_,_,_,_,_,z,_⟩:=hR;exact z
 have mem:∀k,k∈kr↔k∈ns/\k∈ms:=λk=>by rw[mR k,mS k,mT k]
 exact yQ hc I3 hR (few kr nd λk hk=>(mem k).mp hk) λl ss hl pp pw=>q l ss hl (λx=>pp.mem_iff.trans (mem x)) pw
end
def yZ:typeLookup (.type "list") "keys" = pure none:=am_miss_of_fast (by kernel_rfl)
def z6
 (hx:s.heap.get? a=some o) (hc:o.cls = .type "list") (xV:o.data = .seq xs k) (hd:o.dict=none) (hA:A.handled=none)
 (h:∀h' tk,(∀b o,s.heap.get? b=some o->h'.get? b=some o)->Q none { s with heap:=h',toks:=tk }) :
 wpAny (model prog w) A (getAttr? (.ref a) "keys") Q E s:=by
 obtain⟨c,dct,dat,sl⟩:=o;simp only at hc xV hd;subst hc xV hd;obtain⟨hp,g,d,tk,os⟩:=s;have hT:∀xT,(⟨hp,g,d,xT,os⟩:xZ).TypeIs (.ref a) "list" := λ_=>⟨_,hx,rfl⟩;have f1:=sub_AttributeError;have f3:=F.slot_list_getattribute.lookup;have f4:=F.slot_list_getattribute.bind (.ref a);have f5:=am_list_getattr_none;unfold getAttr? getAttrBy? getAttrBy
 repeat (any_goals (first | assumption | exact hT _ | ((with_reducible show wpAny _ _ (call (Value.builtin "list.__getattribute__") _ _) _ _ _);refine call_meets F.slot_list_getattribute (hT _) am_entry_list_getattribute (F.args_list_getattribute_2 _ _) (meets_getattribute_miss_list a xs k sl "keys" _ yZ 'f' (by rw[qR];decide)) ⟨hx,hA,λh' xT e hx'=>?_⟩) | wp_step))
 obtain⟨t',u',he⟩:=hx'.there;show wpAny _ _ (getattributeRaised _ _ _ _ _ _ _) _ _ _;unfold getattributeRaised
 repeat (any_goals (first | assumption | wp_step))
 exact h _ _ hx'.keeps
def bj:entryFor table "dict.update.loop" = some Builtin.«dict.update.loop»:=entryFor_of_fast (by kernel_rfl)
def XX:plainId "dict.update.loop" = true:=by decide +kernel
def nW(knd:Key->xY->Bool)(h:Heap)(x:xY)(kv:Key×xY):Prop:=∃b o ky m,x = .ref b/\h.get? b=some o/\o.cls = .type "tuple" /\ o.data = .seq #[ky,kv.2] m/\knd kv.1 ky=true
def z7{prog:J1}{w:J2}{A:J3}{R:Result->xZ->Prop}{d l I:J0}{items:xw}(hh:A.handled=none)(hlI:l≠I)(hdI:d≠I)(hdl:d≠l)(more:List (Key×xY))(hn:items.size=more.length) :
 ∀(k i:Nat) (s:xZ) (kvs:List (Key×xY)),more.length - i=k->i<=more.length->(s.heap.IsListIter I l i/\s.heap.IsList l items)->s.heap.DictOf (JA prog w) d kvs->kvs.length + (more.length - i)<=sizeLine ->
  (∀(j:Nat) (x:xY) (kv:Key×xY),items[j]? = some x->more[j]? = some kv->nW (JA prog w).is s.heap x kv)->(∀(j:Nat) (b:J0),items[j]? = some (.ref b)->b≠d/\b≠I) ->
  (∀h' tk,h'.DictOf (JA prog w) d (merged kvs (more.drop i))->(∀b o,b≠d->b≠I->s.heap.get? b=some o->h'.get? b=some o)->R (.ok (.ret .none)) { s with heap:=h',toks:=tk }) ->
  codeAny (model prog w) A (.builtin "dict.update.loop" ⟨[.ref d,.ref I,rawInt i,.none],[]⟩) R s:=by
 have W:=Walks.list (prog:=prog) (w:=w) (A:=A.in1) hh I l hlI items;intro k
 induction k with
 | zero =>
  intro i s kvs hk hi xX hd hz hp hne hR;have hin:i=items.size:=by omega
  refine qM bj ?_;rw[Around.under_plainId XX _];show wpAny _ A.in1 (pyNext (.ref I) >>= _) _ _ s;refine q8 (W.done s _ _ (hin ▸ xX) λh' tk hk'=>?_);have kd:∀b o,b≠d->b≠I->s.heap.get? b=some o->h'.get? b=some o:=λb o _ hb e=>hk' b o (by simpa using hb) e;show wpAny _ A.in1 (Builtin.Dict.addKeywords d [] >>= _) _ _ _;refine q8 (qf (qf (hR _ _ ?_ kd)));obtain⟨o,es,ep,ho,r⟩:=hd;rw[kF 'd'];exact⟨o,es,ep,hk' d o (by simpa using hdI) ho,r⟩
 | succ k ih =>
  intro i s kvs hk hi xX hd hz hp hne hR;have hlt:i < more.length:=by omega
  refine qM bj ?_;rw[Around.under_plainId XX _];show wpAny _ A.in1 (pyNext (.ref I) >>= _) _ _ s;refine q8 (W.item i s _ _ 'd' xX λv h' tk hP hst' hk'=>?_);have hv:items[i]? = some v:=by simpa using hP
  have hm:more[i]? = some more[i]:=jC hlt;obtain⟨b,o,ky,m,rfl,hb,hc,xV,hky⟩:=hp i v _ hv hm;obtain⟨bd,bI⟩:=hne i b hv;have hb':=hk' b o (by simpa using bI) hb
  have hd':h'.DictOf (JA prog w) d kvs:=by
   obtain⟨o,es,ep,ho,r⟩:=hd;exact⟨o,es,ep,hk' d o (by simpa using hdI) ho,r⟩
  show wpAny _ A.in1 (holding [.ref b] (tryCatch (Builtin.Dict.pairItems (.ref b)) _ >>= _) >>= _) _ _ _;refine q8 (qK (q8 (wpAny_tryCatch ?_)));unfold Builtin.Dict.pairItems;refine q8 (xa ⟨o,hb',hc⟩ ?_);rw[qh 'f'];refine q8 (qS hb' xV (qf ?_));show wpAny _ A.in1 (holding [ky,more[i].2] (dictSet d ky more[i].2)) _ _ _;have hz':kvs.length<=sizeLine:=by omega
  refine qK (wpAny_dictSet_pairs (hsz:=hz') hky hd' λh2 hd2 hs2=>?_);have kp2:∀b o,b≠d->b≠I->s.heap.get? b=some o->h2.get? b=some o:=λb o h1 h3 e=>(hs2.2 b h1).trans (hk' b o (by simpa using h3) e);have hstl:(stored kvs more[i].1 more[i].2).length<=kvs.length + 1:=by unfold stored;split<;>simp
  refine qf ⟨qU XX _,?_⟩;have hint:rawInt ((i:Int) + 1)=rawInt ((i + 1:Nat):Int):=by push_cast;rfl
  rw[hint];refine ih (i + 1) _ (stored kvs more[i].1 more[i].2) 'd' hlt ⟨?_,?_⟩ hd2 'd' (λj x kv e1 e2=>?_) hne λh3 tk3 hd3 k3=>hR h3 tk3 ?_ λb o h1 h4 e=>k3 b o h1 h4 (kp2 b o h1 h4 e)
  . exact hst'.1.at λo e=>(hs2.2 I (Ne.symm hdI)).trans e
  . obtain⟨ol,e,r⟩:=hst'.2;exact⟨ol,(hs2.2 l (Ne.symm hdl)).trans e,r⟩
  . obtain⟨b,o,ky,m,rfl,hb,r⟩:=hp j x kv e1 e2;obtain⟨bd,bI⟩:=hne j b e1;exact⟨b,o,ky,m,rfl,kp2 b o bd bI hb,r⟩
  . rw[j4 hlt];exact hd3
section
variable {X:Cx}{xB:xr}{σ:St}{H:Hp}{s:xZ}
def bm(H:Hp)(y:V)(kv:Key×V):Prop:=∃c,y = .ref c/\H c=some (.tup [kV kv.1,kv.2])
theorem nX(I:Inv X xB σ H s):∀{ys:List V}{its:xx}{more:List (Key×V)},Vals ys its->Paired (bm H) ys more ->
 ∃more',KV more more'/\∀(j:Nat) (x:xY) (kv':Key×xY),its[j]? = some x->more'[j]? = some kv'->nW (JA X.prog X.w).is s.heap x kv'
 | _,_,_,.nil,.nil=>⟨[],.nil,λj x kv' e1 e2=>by simp at e1⟩
 | _ :: _,_ :: _,kv :: _,.cons r rs,.cons p ps=>by
  obtain⟨more',h1,h2⟩:=nX I rs ps;obtain⟨c,rfl,hc⟩:=p
  cases r
  obtain⟨its2,rv,⟨o,ho,hcl,m,hd⟩,_⟩:=I.tuple (X:=X) (.of hc);obtain⟨ky,v,rfl,r1,r2⟩:=dH rv;refine⟨(kv.1,v) :: more',.cons ⟨rfl,r2⟩ h1,λj x kv' e1 e2=>?_⟩
  cases j with
  | zero =>
   simp at e1 e2;subst e1 e2;exact⟨c,o,ky,m,rfl,ho,hcl,hd,Zg r1⟩
  | succ j=>exact h2 j x kv' (by simpa using e1) (by simpa using e2)
theorem nY:∀{ys:List V}{its:xx}{more:List (Key×V)},Vals ys its->Paired (bm H) ys more->∀(j:Nat) (b:J0),its[j]? = some (.ref b)->∃q,H b=some (.tup q)
 | _,_,_,.nil,.nil=>λj b e=>by simp at e
 | _,_,_,.cons r rs,.cons p ps=>λj b e=>by
  cases j with
  | zero =>
   obtain⟨c,rfl,hc⟩:=p
   cases r
   simp at e;exact⟨_,e ▸ hc⟩
  | succ j=>exact nY rs ps j b (by simpa using e)
end
theorem YI{α β:Type}{F:α->β->Prop}:∀{l:List α}{m:List β},Paired F l m->∀{i:Nat}{x:α}{y:β},l[i]? = some x->m[i]? = some y->F x y
 | _,_,.nil,i,_,_,e,_=>by simp at e
 | _,_,.cons h t,0,_,_,e1,e2=>by simp at e1 e2;subst e1 e2;exact h
 | _,_,.cons h t,i + 1,_,_,e1,e2=>YI t (i:=i) (by simpa using e1) (by simpa using e2)
section
variable {X:Cx}{xB:xr}{σ:St}{H:Hp}{s:xZ}
def z8{more:List (Key×V)}{ys:List V}{E:xp}{Q:xp}(hh:X.A.handled=none)(I:Inv X xB σ H s)(el:H l=some (.lst ys))(hp:Paired (bm H) ys more)(z:more.length<=sizeLine)
 (h:∀a s',H a=none->Inv X xB σ (upd H a (.dK (Xn [] more))) s'->Q (.ref a) s'):wpAny (model X.prog X.w) X.A (call (.type "dict") [.ref l]) Q E s:=by
 refine callType_codes (Q₁:=λobj s₁=>obj = .ref s.heap.objs.size/\s₁={ s with heap:=s.heap.push { cls := .type "dict",data := .dict #[] } }) F.kt_called_dict (F.kt_typeCall_dict_1 _) F.entry_dict_init (kt_code_dict_new _ ⟨rfl,rfl⟩) ?_;rintro obj s₁ ⟨rfl,rfl⟩;have dd0:(s.heap.push { cls := .type "dict",data := .dict #[] }).DictOf (JA X.prog X.w) s.heap.objs.size []:=Heap.DictOf.new s.heap;have fr:H s.heap.objs.size=none:=I.hok.fresh (jD _);have hd:(s.heap.objs.size == sysModules)=false:=beq_eq_false_iff_ne.mpr (Ne.symm (jQ I.big));obtain⟨_,its,n,r,hl,eo⟩:=I.lstM el;obtain⟨more',km,pin⟩:=nX I r hp;have ref:=nY r hp;have hlm:its.toArray.size=more'.length:=by rw[jH,<- hl,Paired.length hp,km.length]
 have kp0:∀b o,s.heap.get? b=some o->(s.heap.push { cls := .type "dict",data := .dict #[] }).get? b=some o:=λb o e=>jB _ e;refine⟨dd0.typeIs,F.args_dict_init_2 _ _,?_⟩;unfold Builtin.«dict.__init__»;refine q8 ?_;unfold Builtin.Dict.selfAndRest;refine q8 (wpAny_notOrdered_dict dd0.typeIs ?_);show wpAny _ _ (pure (s.heap.objs.size,[Value.ref l])) _ _ _;refine qf ?_;show wpAny _ _ (Builtin.Dict.updateFrom "dict.__init__" s.heap.objs.size (.ref l) [] .none) _ _ _;generalize s.heap.push { cls := .type "dict",data := .dict #[] }=g at dd0 kp0;have eo0:=kp0 _ _ eo;unfold Builtin.Dict.updateFrom;refine q8 (xa (T := "list") ⟨_,eo0,rfl⟩ ?_);rw[qh 'f'];refine q8 (z6 eo0 rfl rfl rfl (show X.A.in1.in1.handled=none from hh) λh1 tk1 k1=>?_);simp only[Option.isNone_none,if_true];refine q8 (x9 ?_);have eo1:=k1 _ _ eo0;have li:h1.IsList l its.toArray:=⟨_,eo1,rfl,_,rfl⟩;refine q8 (wpAny_pyIter_list (s:={ s with heap:=h1,toks:=tk1 }) li ?_);have hlI:l≠h1.objs.size:=jQ (jG eo1)
 have dd1:h1.DictOf (JA X.prog X.w) s.heap.objs.size []:=by
  obtain⟨o,es,ep,ho,r⟩:=dd0;exact⟨o,es,ep,k1 _ _ ho,r⟩
 have hdI:s.heap.objs.size≠h1.objs.size:=by
  obtain⟨o,es,ep,ho,r⟩:=dd1;exact jQ (jG ho)
 have hdl:s.heap.objs.size≠l:=λq=>by rw[q,el]at fr;cases fr
 refine qf ⟨qU XX _,z7 (prog:=X.prog) (w:=X.w) (A:=X.A.in1) (d:=s.heap.objs.size) (l:=l) (items:=its.toArray) (show X.A.in1.handled=none from hh) hlI hdI hdl more' hlm _ 0 _ [] rfl (jX _) ⟨⟨_,jK _ rfl,rfl,rfl⟩,⟨_,jB _ eo1,rfl,_,rfl⟩⟩ (dd1.push _) ?_ (λj x kv e1 e2=>?_) (λj b e1=>?_) λh' tk dd' kp=>?_⟩
 . rw[qG,<- km.length];simpa using z
 . obtain⟨b,o,ky,m,rfl,hb,r⟩:=pin j x kv (by simpa using e1) e2;exact⟨b,o,ky,m,rfl,jB _ (k1 _ _ (kp0 _ _ hb)),r⟩
 . obtain⟨q,hq⟩:=ref j b (by simpa using e1);refine⟨λz=>(by rw[z,fr]at hq;cases hq),jQ ?_⟩
   obtain⟨o,ho⟩:∃o,s.heap.get? b=some o:=by
    obtain⟨its2,rv,⟨o,ho,_⟩,_⟩:=I.tuple (X:=X) (.of hq);exact⟨o,ho⟩
   exact jG (k1 _ _ (kp0 _ _ ho))
 . rw[kO]at dd';refine⟨rfl,h s.heap.objs.size _ fr (I.laid (t':=tk) (λb u hu=>kp b u (jQ (jG hu)) (jQ (jG (k1 b u (kp0 _ _ hu)))) (jB _ (k1 b u (kp0 _ _ hu)))) (jD _) (dZ (jh (eE more []) (by simpa using z)) hd (km.merge .nil) dd'))⟩
def z9(hc:X.calm=true):Q7 X (.type "dict") (λvs H Q=>∃(l:J0) (ys:List V) (more:List (Key×V)),vs=[.ref l]/\H l=some (.lst ys)/\Paired (bm H) ys more/\more.length<=sizeLine/\∀p,H p=none->Q (.ref p) (upd H p (.dK (Xn [] more)))):=by
 intro xB s σ H xs us Q I r h;obtain⟨l,ys,more,rfl,el,hp,z,q⟩:=h;obtain⟨u,rfl,ru⟩:=Qj r
 cases ru
 exact z8 (I.ok.hd hc) I el hp z λp s' hp I'=>⟨.ref p,_,I',rfl,q p hp⟩
end
end L2
namespace L2
open PySem PySem.Spec PyProof.Rows
def Qn(Da:J0)(H:Hp):Hp:=λb=>if b=Da then none else H b
def nZ(h:b≠Da):Qn Da H b=H b:=qg h
def zc(Da:J0)(H:Hp):Same (Qn Da H) H:=λb o q=>by
 unfold Qn at q;split at q
 . cases q
 . exact q
def zf(Da:J0)(H:Hp)(o:HO):Qn Da (upd H Da o)=Qn Da H:=funext λb=>by
 unfold Qn;split
 . rfl
 . rename_i h;exact Jb h
def o5(s:Same H H'):Same (Qn Da H) (Qn Da H'):=λb o q=>by
 unfold Qn at q ⊢;split at q
 . cases q
 . rename_i h;rw[qg h];exact s b o q
theorem o6{α:Type}(P:Hp->α->V->Prop)(mono:∀{H H':Hp}{a:α}{v:V},Same H H'->P H a v->P H' a v)(n:Nat)(xs:Nat->V)(fs:List (Option α))(hn:fs.length=n)(hz:n<=sizeLine)
 (hstop:∀H',Same H H'->J.stop n H') (hgo:∀i H',i < n->Same H H'->J.go i H'/\∀x xF,J.yld i H' x xF->x=xs i/\xF=H')
 (test:∀(i:Nat) (o:Option α) (H':Hp) (R:Bool->Hp->Prop),i < n->fs[i]? = some o->Same H H'->(∀xF,Same H' xF->R o.isSome xF)->tt (some (xs i) :: cap ix σ) H' R)
 (step:∀(i:Nat) (a:α) (Da:J0) (H':Hp) (R:VK),i < n->fs[i]? = some (some a)->Same H H'->H Da=none->(∃o,H' Da=some o)->(∀y xF,Same H' xF->P (Qn Da xF) a y->R y xF)->te (some (xs i) :: cap ix σ) H' R)
 (fin:∀p H' ys,Same H H'->H p=none->H' p=some (.lst ys)->Paired (P H') (fs.filterMap id) ys->Q (.ref p) H'):ZL ix tt te σ Q J H:=by
 intro Da hD;refine⟨λi m H'=>m=n - i/\i<=n/\Same H H'/\∃ys,H' Da=some (.lst ys)/\Paired (P (Qn Da H')) ((fs.take i).filterMap id) ys,⟨n,by simp,jX _,Ja hD _,[],J8,.nil⟩,?_⟩;rintro i m H' ⟨rfl,hi,sm,ys,eD,pr⟩
 by_cases hlt:i < n
 . obtain⟨g,y⟩:=hgo i H' hlt sm;refine .inr ⟨g,λx xF hy=>?_⟩;obtain⟨rfl,rfl⟩:=y x xF hy;have hi':i < fs.length:=by omega
   have ei:fs[i]? = some fs[i]:=jC hi';have tk:(fs.take (i + 1)).filterMap id=(fs.take i).filterMap id ++ [fs[i]].filterMap id:=by rw[jt hi',List.filterMap_append]
   refine test i fs[i] xF _ hlt ei sm λH2 s2=>?_;have pr2:Paired (P (Qn Da H2)) ((fs.take i).filterMap id) ys:=Paired.mapP pr λ_ _ h=>mono (o5 s2) h;have eD2:=s2 _ _ eD
   cases ho:fs[i] with
   | none =>
    dsimp only[Option.isSome];rw[qg jR];refine⟨n - (i + 1),by omega,rfl,hlt,sm.trans s2,ys,eD2,?_⟩;rw[tk,ho];simpa using pr2
   | some a =>
    dsimp only[Option.isSome];rw[qh rfl];refine step i a Da H2 _ hlt (by rw[ei,ho]) (sm.trans s2) hD ⟨_,eD2⟩ λy H3 s3 hy=>?_;have e3:=s3 _ _ eD2;have pr3:Paired (P (Qn Da H3)) ((fs.take i).filterMap id) ys:=Paired.mapP pr2 λ_ _ h=>mono (o5 s3) h;have ly:=pr3.length;have lf:=List.length_filterMap_le id (fs.take i);rw[jT]at lf;refine⟨ys,e3,by omega,n - (i + 1),by omega,rfl,hlt,XR hD ((sm.trans s2).trans s3),ys ++ [y],J8,?_⟩;rw[tk,ho,zf];exact Paired.snoc pr3 hy
 . have e:i=n:=by omega
   subst e;rw[ji 'd']at pr;exact .inl ⟨hstop H' sm,fin Da H' ys sm hD eD (Paired.mapP pr λ_ _ h=>mono (zc _ _) h)⟩
theorem o7{α:Type}(P:Hp->α->V->Prop)(mono:∀{H H':Hp}{a:α}{v:V},Same H H'->P H a v->P H' a v)(n:Nat)(xs:Nat->V)(fs:List α)(hn:fs.length=n)(hz:n<=sizeLine)
 (hstop:∀H',Same H H'->J.stop n H') (hgo:∀i H',i < n->Same H H'->J.go i H'/\∀x xF,J.yld i H' x xF->x=xs i/\xF=H')
 (step:∀(i:Nat) (a:α) (Da:J0) (H':Hp) (R:VK),i < n->fs[i]? = some a->Same H H'->H Da=none->(∃o,H' Da=some o)->(∀y xF,Same H' xF->P (Qn Da xF) a y->R y xF)->te (some (xs i) :: cap ix σ) H' R)
 (fin:∀p H' ys,Same H H'->H p=none->H' p=some (.lst ys)->Paired (P H') fs ys->Q (.ref p) H'):Qg ix te σ Q J H:=by
 have em:(fs.map some).filterMap id=fs:=by rw[List.filterMap_map];exact List.filterMap_some
 refine o6 (tt:=X4) P mono n xs (fs.map some) (by rw[jA];exact hn) hz hstop hgo (λi o H' R hi ei sm h=>?_) (λi a Da H' R hi ei=>step i a Da H' R hi ?_) λp H' ys s1 s2 s3 s4=>fin p H' ys s1 s2 s3 (em ▸ s4)
 . rw[jF]at ei;obtain⟨a,_,rfl⟩:=jj.mp ei;exact h H' (Same.refl H')
 . rw[jF]at ei;obtain⟨b,h1,h2⟩:=jj.mp ei;rw[h1];exact h2
end L2
namespace L2
open PySem PySem.W PySem.Spec PyProof.Rows
section
variable {X:Cx}
theorem o8:∀{ns:xA}{its:xx},Vals (ns.map V.int) its->∃ps:List (Int×Tok),its=ps.map (λp=>Value.int p.1 p.2)/\ps.map (·.1)=ns
 | [],_,.nil=>⟨[],rfl,rfl⟩
 | n :: ns,_,.cons ⟨t,e⟩ r=>by
  obtain⟨ps,h1,h2⟩:=o8 (ns:=ns) r;exact⟨(n,t) :: ps,by rw[e,h1];rfl,by rw[jf,h2]⟩
theorem fB(ps:List (Int×Tok)):∀j,j<=ps.length->preSum (numAt ps.toArray) j=((ps.map (·.1)).take j).sum
 | 0,_=>rfl
 | j + 1,h=>by
  have hj:j < (ps.map (·.1)).length:=by rw[jA];omega
  show preSum (numAt ps.toArray) j + numAt ps.toArray j=_;rw[fB ps j 'd',jt hj,List.sum_append]
  have:numAt ps.toArray j=(ps.map (·.1))[j]:=by
   unfold numAt;rw[j8,jC 'd',kG];rfl
  rw[this];simp
theorem o9:∀{l:xA},(∀n∈l,0<=n/\n<=B)->0<=l.sum/\l.sum<=B * l.length
 | [],_=>⟨Int.le_refl _,by simp⟩
 | a :: l,h=>by
  obtain⟨h1,h2⟩:=o9 (l:=l) λn hn=>h n (jS _ hn);obtain⟨a1,a2⟩:=h a (jb ..);rw[List.sum_cons,jP];refine⟨by omega,?_⟩;have:B * ((l.length + 1:Nat):Int)=B * l.length + B:=by push_cast;rw[Int.mul_add,Int.mul_one]
  rw[this];omega
def zh(K:xt)(hK:X.K=K)(hc:X.calm=true):Q7 X (.builtin "sum") (λxs H Q=>∃(p:J0) (ns:xA),xs=[.ref p]/\SqL K H p (ns.map V.int)/\(∀n∈ns,0<=n/\n<=10 ^ 9)/\ns.length<=1000/\Q (.int ns.sum) H):=by
 subst hK;intro xB s σ H xs us Q I r h;obtain⟨p,ns,rfl,hS,hb,hl,q⟩:=h;obtain⟨u,rfl,rx⟩:=Qj r
 cases rx
 obtain⟨its,rv,pl,_⟩:=I.list hS;obtain⟨ps,rfl,rfl⟩:=o8 rv
 have hL:s.heap.IsList p (intItems ps.toArray):=by
  have:=pl.isList;unfold intItems;simpa using this
 rw[jA]at hl;refine sum_intList (show X.A.handled=none from I.ok.hd hc) hL (λj hj=>?_) λh' tk t' kp=>?_
 . have hj':j < ps.length:=by simpa using hj
   have b1:=o9 (B:=10 ^ 9) (l:=(ps.map (·.1)).take (j + 1)) λn hn=>hb n (jm hn);rw[<- fB ps (j + 1) hj',jT,jA]at b1
   have e:numAt ps.toArray j=(ps.map (·.1))[j]'(by rw[jA];exact hj'):=by
    unfold numAt;rw[j8,jC hj',kG];rfl
   have b2:=hb (numAt ps.toArray j) (e ▸ jl _);have b3:(10:Int) ^ 9 * ((min (j + 1) ps.length:Nat):Int)<=10 ^ 9 * 1000:=Int.mul_le_mul_of_nonneg_left 'd' 'f';unfold InLong;omega
 . have e:preSum (numAt ps.toArray) ps.toArray.size=(ps.map (·.1)).sum:=by
    rw[fB ps _ 'j',ji 'j']
   rw[e];exact⟨.int _,H,I.kept (h':=h') (t':=tk) kp,⟨t',rfl⟩,q⟩
end
end L2
namespace L2
open PySem PySem.Spec PyProof.Rows
section
variable {X:Cx}{xB:xr}{σ:St}{H:Hp}{s:xZ}
def Inv.turnNew{h':Heap}{t':Nat}{e it a:J0}{o:HO}(I:Inv X xB σ H s)(f:∀b∈[e,it],FpOk X xB H b)(k:∀b u,b≠e->b≠it->s.heap.get? b=some u->h'.get? b=some u)(hp:s.heap.objs.size<=a)
 (new:ObjOk X.prog X.w (upd H a o) h' a o):Inv X xB σ (upd H a o) { s with heap:=h',toks:=t' }:=by
 have hn:H a=none:=I.hok.fresh hp;have fe:=f e 'j';have fi:=f it 'j';have ne:∀b u,H b=some u->b≠e:=λb u q z=>by rw[z,fe.1]at q;cases q
 have ni:∀b u,H b=some u->b≠it:=λb u q z=>by rw[z,fi.1]at q;cases q
 have k':∀b u,b∉[e,it]->s.heap.get? b=some u->h'.get? b=some u:=λb u hb q=>k b u (λz=>hb (by simp[z])) (λz=>hb (by simp[z])) q
 refine I.step (g':=s.gens) (d':=s.drawn) (ch:=[e,it]) (λb hb=>?_) (λb u _ _ hc q _=>k' b u hc q) (λb u _ _ hc q _=>⟨u.slots,k' b u hc q⟩) (λb u _ q n=>?_)
  (λb u hc q=>⟨u,k' b u hc q⟩) (λb xs q=>by rw[Jb (Jv q hn)];exact q) (λb _ _ q=>by rw[Jb (Jv q hn)];exact q) (λb ps q=>⟨#[],by rw[Jb (Jv q hn),q];simp⟩) (λm hm=>?_) (λb u q=>?_) I.bare
 . obtain⟨_,g1,g2,g3,g4,g5⟩:=f b hb;exact⟨g3,g1,g4,g5⟩
 . rw[Jb (λz=>by rw[z]at q;exact absurd (jc (jG q) hp) (j7 _))];exact n
 . obtain⟨ob,es,ep,ho,r⟩:=hm;exact⟨ob,es,ep,k _ ob (Ne.symm fe.2.1) (Ne.symm fi.2.1) ho,r⟩
 . by_cases hb:b=a
   . subst hb;rw[J8]at q;cases q;exact new
   . rw[Jb hb]at q;refine(I.hok b u q).stay (λc v hc z=>k c v ?_ ?_ z) (λc z=>by rw[Jb (Jv z hn)];exact z) λc xs z=>by rw[Jb (Jv z hn)];exact z
     . rcases hc with z | z
       . rw[z];exact ne b u q
       . exact ne c _ z
     . rcases hc with z | z
       . rw[z];exact ni b u q
       . exact ni c _ z
end
section
variable {prog:J1}{w:J2}{A:J3}{E:xp}{s:xZ}
structure TWalk (h:Heap) (it t:J0) (xs:xw) (i:Nat):Prop where
 kd:(IsTupIter h it t i/\IsTup h t xs)\/(h.IsListIter it t i/\h.IsList t xs)
 ne:t≠it
def TWalk.all(W:TWalk h it t xs i)(k:∀b o,b=it\/b=t->h.get? b=some o->h'.get? b=some o):TWalk h' it t xs i:=by
 obtain⟨⟨⟨o,e,r⟩,o2,e2,r2⟩ | ⟨⟨o,e,r⟩,o2,e2,r2⟩,n⟩:=W
 . exact⟨.inl ⟨⟨o,k _ _ (.inl rfl) e,r⟩,⟨o2,k _ _ (.inr rfl) e2,r2⟩⟩,n⟩
 . exact⟨.inr ⟨⟨o,k _ _ (.inl rfl) e,r⟩,⟨o2,k _ _ (.inr rfl) e2,r2⟩⟩,n⟩
def TWalk.but(W:TWalk h it t xs i)(k:Heap.ExtBut b h h')(n1:it≠b)(n2:t≠b):TWalk h' it t xs i:=W.all λc o hc e=>k c o (by rcases hc with rfl | rfl;exact n1;exact n2) e
def TWalk.obj(W:TWalk h it t xs i):∃o,h.get? it=some o:=by
 obtain⟨⟨⟨o,e,_⟩,_⟩ | ⟨⟨o,e,_⟩,_⟩,_⟩:=W<;>exact⟨o,e⟩
def bn(W:TWalk s.heap it t xs i)(hx:xs[i]? = some x)
 (k:∀h',TWalk h' it t xs (i + 1)->Heap.SameBut it s.heap h'->Q x { s with heap:=h' }):wpAny (model prog w) A (Builtin.SmallTypes.nextOf (.ref it)) Q E s:=by
 obtain⟨⟨⟨o,ho,hc,hd⟩,⟨ot,et,ct,mt,dt⟩⟩ | ⟨hit,ol,el,rl⟩,n⟩:=W
 case inr=>exact wpAny_nextOf_list_item hit ⟨ol,el,rl⟩ hx λh' a' sb=>k h' ⟨.inr ⟨a',ol,sb.extBut _ _ n el,rl⟩,n⟩ sb
 have ti:s.TypeIs (.ref it) "tuple_iterator" := ⟨o,ho,hc⟩;unfold Builtin.SmallTypes.nextOf;apply q8;apply qJ (name:=Str.ofString "__next__") ti slot_tupleiter_next;apply qL slot_tupleiter_next ti entry_tupleiter_next _ (args_tupleiter_next _);apply q8 (qq ho hd (x := .ref t) rfl _);apply q8 (qq ho hd (x := .int i 0) rfl _);apply q8 (qS et dt _);dsimp only;rw[jp,hx];have b:=Heap.SameBut.update s.heap it (Obj.mapFields (·.setIfInBounds 1 (rawInt ((i:Int) + 1))));dsimp only;refine q8 (qW ho hd 'j' (qf ⟨x,rfl,qf (k _ ⟨.inl ⟨?_,IsTup.extBut ⟨ot,et,ct,mt,dt⟩ b.extBut n⟩,n⟩ b)⟩));refine⟨_,ja _ ho (Obj.isFreed_of_fields (Obj.data_mapFields hd _)),(Obj.cls_mapFields ..).trans hc,?_⟩;rw[Obj.data_mapFields hd];simp[rawInt]
def oh(hh:A.handled=none)(W:TWalk s.heap it t xs i)(hx:xs[i]? = none)
 (k:∀h' e,Heap.ExtBut it s.heap h'->(∃o,h'.get? e=some o/\o.cls = .type "StopIteration")->E (.ref e) { s with heap:=h' }):wpAny (model prog w) A (Builtin.SmallTypes.nextOf (.ref it)) Q E s:=by
 obtain⟨⟨⟨o,ho,hc,hd⟩,⟨ot,et,ct,mt,dt⟩⟩ | ⟨hit,hl⟩,n⟩:=W
 case inr=>exact wpAny_nextOf_list_end hh hit hl hx k
 have ti:s.TypeIs (.ref it) "tuple_iterator" := ⟨o,ho,hc⟩;unfold Builtin.SmallTypes.nextOf;apply q8;apply qJ (name:=Str.ofString "__next__") ti slot_tupleiter_next;apply qL slot_tupleiter_next ti entry_tupleiter_next _ (args_tupleiter_next _);apply q8 (qq ho hd (x := .ref t) rfl _);apply q8 (qq ho hd (x := .int i 0) rfl _);apply q8 (qS et dt _);dsimp only;rw[jp,hx];dsimp only;refine q8 (x9 (q8 (qW ho hd 'j' ?_)));have b:=(Heap.SameBut.update s.heap it (Obj.mapFields (·.setIfInBounds 0 .none))).extBut;unfold Builtin.SmallTypes.stopIteration;refine q8 ?_;unfold newExc;refine q8 (xj ?_);have f0:firstArgMember (.type "StopIteration") []=pure .none:=rfl;refine q8 ?_;rw[f0];refine qf (qw ?_ (by size_fits));exact wpAny_raiseNew_none (show A.in1.handled=none from hh) (k _ _ ((b.push _).push _) ⟨_,jK _ rfl,rfl⟩)
structure ZAt (h:Heap) (z TI TO i1 i2 t1 t2:J0) (xs ys:xw) (n:Nat) (f0:xY) (f1:Bool):Prop where
 zip:h.get? z=some { cls := .type "zip",dict:=none,data := .fields #[f0,.bool f1,.bool false,.ref TI,.ref TO],slots:=#[] }
 its:h.get? TI=some { cls := .type "tuple",data := .seq #[.ref i1,.ref i2] }
 own:∃a b,h.get? TO=some { cls := .type "tuple",data := .seq #[a,b] }
 w1:TWalk h i1 t1 xs n
 w2:TWalk h i2 t2 ys n
structure ZOff (z TI TO i1 i2 t1 t2:J0):Prop where
 ne:[z,TI,TO,i1,i2].Nodup
 o1:t1∉[z,TI,TO,i1,i2]
 o2:t2∉[z,TI,TO,i1,i2]
def oj(g:s.heap.get? T=some { cls := .type "tuple",data := .seq #[a,b] })
 (k:∀h',h'.get? T=some { cls := .type "tuple",data := .seq ((#[a,b]:xw).setIfInBounds j v) }->Heap.SameBut T s.heap h'->Q () { s with heap:=h' }):wpAny (model prog w) A (updateSeq T (·.setIfInBounds j v)) Q E s :=
 x6 g rfl (k _ (by rw[ja _ g rfl];simp[Obj.mapSeq]) (Heap.SameBut.update ..))
def zi{z TI TO i1 i2 t1 t2:J0}{xs ys:xw}{n:Nat}{x y:xY}{f1:Bool}{Q:xp}(D:ZOff z TI TO i1 i2 t1 t2)(Z:ZAt s.heap z TI TO i1 i2 t1 t2 xs ys n .none f1)(hx:xs[n]? = some x)(hy:ys[n]? = some y)
 (k:∀h',ZAt h' z TI TO i1 i2 t1 t2 xs ys (n + 1) (rawInt s.heap.objs.size) false->h'.get? s.heap.objs.size=some { cls := .type "tuple",data := .seq #[x,y] }->h'.objs.size=s.heap.objs.size + 1->(∀c o,c≠z->c≠TO->c≠i1->c≠i2->s.heap.get? c=some o->h'.get? c=some o)->Q (.ref s.heap.objs.size) { s with heap:=h' }) :
 wpAny (model prog w) A (Builtin.«zip.__next__» ⟨[.ref z],[]⟩) (λfin s'=>∃v,fin = .done (.ret v)/\Q v s') E s:=by
 obtain⟨gz,gi,⟨a,b,go⟩,w1,w2⟩:=Z;obtain⟨ne,o1,o2⟩:=D;simp only[j5,jL,jz,xk,not_or,jx,and_true,not_false_eq_true]at ne o1 o2;obtain⟨⟨zTI,zTO,z1,z2⟩,⟨TT,T1,T2⟩,⟨O1,O2⟩,i12⟩:=ne;unfold Builtin.«zip.__next__»;refine q8 (qf ?_);dsimp only;refine q8 (qq gz rfl (x := .bool false) rfl ?_);refine q8 (qq gz rfl (x := .ref TI) rfl ?_);refine q8 (qS gi rfl ?_);dsimp only;rw[qg (λc=>Bool.noConfusion c)];refine q8 ?_;unfold Builtin.SmallTypes.ownedTupleIsFree;refine q8 (qq gz rfl (x := .none) rfl (qf ?_));rw[qh rfl];refine q8 (x9 (q8 (qq gz rfl (x := .ref TO) rfl ?_)));dsimp only;refine q8 (qO gz 'j' λh1 gz1 e1=>?_);have go1:=e1.extBut _ _ (Ne.symm zTO) go;refine q8 ?_;rw[show([Value.ref i1,Value.ref i2]:xx).zipIdx=[(.ref i1,0),(.ref i2,1)] from rfl,List.forIn_cons];refine q8 (q8 (wpAny_onRaise ?_));refine q8 (bn (w1.but e1.extBut (Ne.symm z1) o1.1) hx λh2 w12 e2=>qf ?_);have go2:=e2.extBut _ _ O1 go1;dsimp only;refine q8 (qS go2 rfl ?_);dsimp only;refine q8 (oj go2 λh3 go3 e3=>q8 (wpAny_letGo (qf ?_)));dsimp only;rw[List.forIn_cons];have v2:=((w2.but e1.extBut (Ne.symm z2) o2.1).but e2.extBut (Ne.symm i12) o2.2.2.2.1).but e3.extBut (Ne.symm O2) o2.2.2.1;refine q8 (q8 (wpAny_onRaise ?_));refine q8 (bn v2 hy λh4 w24 e4=>qf ?_);have go4:=e4.extBut _ _ O2 go3;dsimp only;refine q8 (qS go4 rfl ?_);dsimp only;refine q8 (oj go4 λh5 go5 e5=>q8 (wpAny_letGo (qf ?_)));dsimp only;rw[List.forIn_nil];refine qf ?_;dsimp only;refine q8 (qS go5 rfl ?_);dsimp only;refine q8 (xj ?_ (by show(2:Nat)<=sizeLine;decide));have sz:h5.objs.size=s.heap.objs.size:=by rw[e5.1,e4.1,e3.1,e2.1,e1.1]
 have gz5:h5.get? z=some _:=e5.extBut _ _ zTO (e4.extBut _ _ z2 (e3.extBut _ _ zTO (e2.extBut _ _ z1 gz1)));have all5:∀c o,c≠z->c≠TO->c≠i1->c≠i2->s.heap.get? c=some o->h5.get? c=some o:=λc o c1 c2 c3 c4 e=>e5.extBut _ _ c2 (e4.extBut _ _ c4 (e3.extBut _ _ c2 (e2.extBut _ _ c3 (e1.extBut _ _ c1 e))));have u1:=((w12.but e3.extBut (Ne.symm O1) o1.2.2.1).but e4.extBut i12 o1.2.2.2.2).but e5.extBut (Ne.symm O1) o1.2.2.1;have u2:=w24.but e5.extBut (Ne.symm O2) o2.2.2.1;have zl:=jG gz5;refine q8 ?_;unfold Builtin.SmallTypes.ownedTupleHandOut;dsimp only;refine q8 (qO (jB _ gz5) 'j' λh7 gz7 e7=>qO gz7 'j' λh8 gz8 e8=>?_);have up:∀c o,c≠z->h5.get? c=some o->h8.get? c=some o:=λc o c1 e=>e8.extBut _ _ c1 (e7.extBut _ _ c1 (jB _ e))
 have new:h8.get? s.heap.objs.size=some { cls := .type "tuple",data := .seq #[x,y] }:=by
  rw[<- sz];exact e8.extBut _ _ (jn zl) (e7.extBut _ _ (jn zl) (jK _ rfl))
 have s8:h8.objs.size=s.heap.objs.size + 1:=by rw[e8.1,e7.1,j6,sz]
 refine qf ⟨_,rfl,?_⟩;rw[sz]at gz8 ⊢;refine k h8 ⟨gz8,up _ _ (Ne.symm zTI) (all5 _ _ (Ne.symm zTI) TT T1 T2 gi),⟨x,y,up _ _ (Ne.symm zTO) go5⟩,u1.all λc o hc e=>up c o ?_ e,u2.all λc o hc e=>up c o ?_ e⟩ new s8 λc o c1 c2 c3 c4 e=>up c o c1 (all5 c o c1 c2 c3 c4 e)
 . rcases hc with rfl | rfl
   . exact Ne.symm z1
   . exact o1.1
 . rcases hc with rfl | rfl
   . exact Ne.symm z2
   . exact o2.1
def zj{z TI TO i1 i2 t1 t2:J0}{xs ys:xw}{n:Nat}{f1:Bool}{Q:Fin->xZ->Prop}(hh:A.handled=none)(D:ZOff z TI TO i1 i2 t1 t2)(Z:ZAt s.heap z TI TO i1 i2 t1 t2 xs ys n .none f1)(hx:xs[n]? = none)
 (k:∀h' e,(∀c o,c≠z->c≠i1->s.heap.get? c=some o->h'.get? c=some o)->(∃o,h'.get? e=some o/\o.cls = .type "StopIteration")->E (.ref e) { s with heap:=h' }) :
 wpAny (model prog w) A (Builtin.«zip.__next__» ⟨[.ref z],[]⟩) Q E s:=by
 obtain⟨gz,gi,⟨a,b,go⟩,w1,w2⟩:=Z;obtain⟨ne,o1,o2⟩:=D;simp only[j5,jL,jz,xk,not_or,jx,and_true,not_false_eq_true]at ne o1 o2;obtain⟨⟨zTI,zTO,z1,z2⟩,⟨TT,T1,T2⟩,⟨O1,O2⟩,i12⟩:=ne;unfold Builtin.«zip.__next__»;refine q8 (qf ?_);dsimp only;refine q8 (qq gz rfl (x := .bool false) rfl ?_);refine q8 (qq gz rfl (x := .ref TI) rfl ?_);refine q8 (qS gi rfl ?_);dsimp only;rw[qg (λc=>Bool.noConfusion c)];refine q8 ?_;unfold Builtin.SmallTypes.ownedTupleIsFree;refine q8 (qq gz rfl (x := .none) rfl (qf ?_));rw[qh rfl];refine q8 (x9 (q8 (qq gz rfl (x := .ref TO) rfl ?_)));dsimp only;refine q8 (qO gz 'j' λh1 gz1 e1=>?_);refine q8 ?_;rw[show([Value.ref i1,Value.ref i2]:xx).zipIdx=[(.ref i1,0),(.ref i2,1)] from rfl,List.forIn_cons];refine q8 (q8 (wpAny_onRaise ?_));refine q8 (oh hh (w1.but e1.extBut (Ne.symm z1) o1.1) hx λh2 e e2 he=>?_);obtain⟨oe,ge,ce⟩:=he;have gz2:h2.get? z=some _:=e2 _ _ z1 gz1;have ez:e≠z:=λq=>by subst q;rw[gz2]at ge;cases ge;simp at ce
 exact qO gz2 'j' λh3 _ e3=>k h3 e (λc o c1 c2 g=>e3.extBut _ _ c1 (e2 _ _ c2 (e1.extBut _ _ c1 g))) ⟨oe,e3.extBut _ _ ez ge,ce⟩
def om{z TI TO T:J0}{oT:Obj}{f1:Bool}(gz:s.heap.get? z=some { cls := .type "zip",dict:=none,data := .fields #[rawInt T,.bool f1,.bool false,.ref TI,.ref TO],slots:=#[] })(gT:s.heap.get? T=some oT) :
 wpAny (model prog w) A (Builtin.SmallTypes.ownedTupleIsFree (.ref z)) (λr s1=>r=false/\∃h1,s1={ s with heap:=h1 }/\h1.get? z=some { cls := .type "zip",dict:=none,data := .fields #[rawInt T,.bool true,.bool false,.ref TI,.ref TO],slots:=#[] }/\Heap.SameBut z s.heap h1) E s:=by
 unfold Builtin.SmallTypes.ownedTupleIsFree;refine q8 (qq gz rfl (x:=rawInt T) rfl ?_);dsimp only[rawInt];rw[jp];refine q8 (PySem.W.kdx_alive gT ?_);rw[qg (λc=>Bool.noConfusion c)];refine q8 (qq gz rfl (x := .bool f1) rfl ?_)
 cases f1 with
 | false =>
  rw[qh 'f'];exact q8 (qO gz 'j' λh1 g1 e1=>qf ⟨rfl,h1,rfl,g1,e1⟩)
 | true =>
  rw[qg 'f'];exact qf ⟨rfl,s.heap,rfl,gz,Heap.SameBut.refl ..⟩
def zk{z TI TO i1 i2 t1 t2:J0}{xs ys:xw}{n:Nat}{x y:xY}{T:J0}{oT:Obj}{f1:Bool}{Q:xp}(D:ZOff z TI TO i1 i2 t1 t2)(Z:ZAt s.heap z TI TO i1 i2 t1 t2 xs ys n (rawInt T) f1)(gT:s.heap.get? T=some oT)(hx:xs[n]? = some x)(hy:ys[n]? = some y)
 (k:∀h',ZAt h' z TI TO i1 i2 t1 t2 xs ys (n + 1) (rawInt T) true->h'.get? s.heap.objs.size=some { cls := .type "tuple",data := .seq #[x,y] }->h'.objs.size=s.heap.objs.size + 1->(∀c o,c≠z->c≠i1->c≠i2->s.heap.get? c=some o->h'.get? c=some o)->Q (.ref s.heap.objs.size) { s with heap:=h' }) :
 wpAny (model prog w) A (Builtin.«zip.__next__» ⟨[.ref z],[]⟩) (λfin s'=>∃v,fin = .done (.ret v)/\Q v s') E s:=by
 obtain⟨gz,gi,⟨a,b,go⟩,w1,w2⟩:=Z;obtain⟨ne,o1,o2⟩:=D;simp only[j5,jL,jz,xk,not_or,jx,and_true,not_false_eq_true]at ne o1 o2;obtain⟨⟨zTI,zTO,z1,z2⟩,⟨TT,T1,T2⟩,⟨O1,O2⟩,i12⟩:=ne;unfold Builtin.«zip.__next__»;refine q8 (qf ?_);dsimp only;refine q8 (qq gz rfl (x := .bool false) rfl ?_);refine q8 (qq gz rfl (x := .ref TI) rfl ?_);refine q8 (qS gi rfl ?_);dsimp only;rw[qg (λc=>Bool.noConfusion c)];refine q8 ?_;refine qQ (om gz gT) (λr s1 hr=>?_) λ_ _ q=>q;obtain⟨rfl,h1,rfl,gz1,e1⟩:=hr;rw[qg (λc=>Bool.noConfusion c)];refine q8 ?_;rw[<- Array.forIn_toList];rw[show(#[Value.ref i1,Value.ref i2]:xw).toList=[.ref i1,.ref i2] from rfl,List.forIn_cons];refine q8 (q8 (qK ?_));refine q8 (bn (w1.but e1.extBut (Ne.symm z1) o1.1) hx λh2 w12 e2=>qf (qf ?_));dsimp only;rw[List.forIn_cons];have v2:=(w2.but e1.extBut (Ne.symm z2) o2.1).but e2.extBut (Ne.symm i12) o2.2.2.2.1;refine q8 (q8 (qK ?_));refine q8 (bn v2 hy λh3 w23 e3=>qf (qf ?_));dsimp only;rw[List.forIn_nil];refine qf ?_;dsimp only;refine q8 (xj ?_ (by show(2:Nat)<=sizeLine;decide));have sz:h3.objs.size=s.heap.objs.size:=by rw[e3.1,e2.1,e1.1]
 have gz3:h3.get? z=some _:=e3.extBut _ _ z2 (e2.extBut _ _ z1 gz1);have all3:∀c o,c≠z->c≠i1->c≠i2->s.heap.get? c=some o->h3.get? c=some o:=λc o c1 c2 c3 e=>e3.extBut _ _ c3 (e2.extBut _ _ c2 (e1.extBut _ _ c1 e));have u1:=w12.but e3.extBut i12 o1.2.2.2.2;have up:∀(c:J0) (o:Obj),h3.get? c=some o->(h3.push { cls := .type "tuple",data := .seq #[x,y] }).get? c=some o:=λc o e=>jB _ e;refine qf ⟨_,rfl,?_⟩;show Q (.ref h3.objs.size) _
 have new:(h3.push { cls := .type "tuple",data := .seq #[x,y] }).get? s.heap.objs.size=some { cls := .type "tuple",data := .seq #[x,y] }:=by
  rw[<- sz];exact jK _ rfl
 rw[sz];exact k _ ⟨up _ _ gz3,up _ _ (all3 _ _ (Ne.symm zTI) T1 T2 gi),⟨a,b,up _ _ (all3 _ _ (Ne.symm zTO) O1 O2 go)⟩,u1.all λc o _ e=>up c o e,w23.all λc o _ e=>up c o e⟩ new (by rw[j6,sz]) λc o c1 c2 c3 e=>up c o (all3 c o c1 c2 c3 e)
def zm{z TI TO i1 i2 t1 t2:J0}{xs ys:xw}{n:Nat}{T:J0}{oT:Obj}{f1:Bool}{Q:Fin->xZ->Prop}(hh:A.handled=none)(D:ZOff z TI TO i1 i2 t1 t2)(Z:ZAt s.heap z TI TO i1 i2 t1 t2 xs ys n (rawInt T) f1)(gT:s.heap.get? T=some oT)(hx:xs[n]? = none)
 (k:∀h' e,(∀c o,c≠z->c≠i1->s.heap.get? c=some o->h'.get? c=some o)->(∃o,h'.get? e=some o/\o.cls = .type "StopIteration")->E (.ref e) { s with heap:=h' }) :
 wpAny (model prog w) A (Builtin.«zip.__next__» ⟨[.ref z],[]⟩) Q E s:=by
 obtain⟨gz,gi,⟨a,b,go⟩,w1,w2⟩:=Z;obtain⟨ne,o1,o2⟩:=D;simp only[j5,jL,jz,xk,not_or,jx,and_true,not_false_eq_true]at ne o1 o2;obtain⟨⟨zTI,zTO,z1,z2⟩,⟨TT,T1,T2⟩,⟨O1,O2⟩,i12⟩:=ne;unfold Builtin.«zip.__next__»;refine q8 (qf ?_);dsimp only;refine q8 (qq gz rfl (x := .bool false) rfl ?_);refine q8 (qq gz rfl (x := .ref TI) rfl ?_);refine q8 (qS gi rfl ?_);dsimp only;rw[qg (λc=>Bool.noConfusion c)];refine q8 (qQ (om gz gT) (λr s1 hr=>?_) λ_ _ q=>q);obtain⟨rfl,h1,rfl,gz1,e1⟩:=hr;rw[qg (λc=>Bool.noConfusion c)];refine q8 ?_;rw[<- Array.forIn_toList];rw[show(#[Value.ref i1,Value.ref i2]:xw).toList=[.ref i1,.ref i2] from rfl,List.forIn_cons];refine q8 (q8 (qK ?_));exact q8 (oh hh (w1.but e1.extBut (Ne.symm z1) o1.1) hx λh2 e e2 he=>k h2 e (λc o c1 c2 g=>e2 _ _ c2 (e1.extBut _ _ c1 g)) he)
def oo(ht:s.TypeIs (.ref z) "zip")(h:wpAny (model prog w) A.in1 (Builtin.«zip.__next__» ⟨[.ref z],[]⟩) (λfin s'=>∃v,fin = .done (.ret v)/\Q (some v) s') (λe s'=>s'.TypeIs e "StopIteration" /\ Q none s') s):wpAny (model prog w) A (pyNext (.ref z)) Q E s:=by
 unfold pyNext;refine q8 (xi (qJ (name:=Str.ofString "__next__") ht F.slot_zip_next (qL F.slot_zip_next ht F.entry_zip_next ?_ (F.args_zip_next_1 _))));refine qQ h (λfin s' ⟨v,e,q⟩=>⟨v,e,qf q⟩) λe s' ⟨te,q⟩=>?_;exact q8 (x8 (T := "StopIteration") (b:=true) te isSubtype_stop (qf q))
def Zj(n1:String)(b t1 t2:J0):List Obj:=[{ cls := .type n1,data := .fields #[.ref t1,.int 0 0] },{ cls := .type "tuple_iterator",data := .fields #[.ref t2,.int 0 0] },
 { cls := .type "tuple",data := .seq #[.ref b,.ref (b + 1)] },{ cls := .type "tuple",data := .seq #[.none,.none] },{ cls := .type "zip",data := .fields #[.none,.bool false,.bool false,.ref (b + 2),.ref (b + 3)] }]
def laid(h:Heap)(os:List Obj):Heap:=os.foldl Heap.push h
def FstQ(n1:String)(h:Heap)(t:J0)(xs:xw):Prop:=(n1 = "tuple_iterator" /\ IsTup h t xs)\/(n1 = "list_iterator" /\ h.IsList t xs)
theorem FstQ.lt(q:FstQ n1 h t xs):t < h.objs.size:=by
 rcases q with ⟨_,q⟩ | ⟨_,o,e,_⟩
 . exact q.lt
 . exact jG e
def zp(n1:String)(t1 t2:J0)(xs ys:xw):Meets (Builtin.«zip.__new__» ⟨[.type "zip",.ref t1,.ref t2],[]⟩) (λ_ R s=>FstQ n1 s.heap t1 xs/\IsTup s.heap t2 ys/\R (.ok (.ret (.ref (s.heap.objs.size + 4)))) { s with heap:=laid s.heap (Zj n1 s.heap.objs.size t1 t2) }) :=
 .of_wp λprog w A R s h=>by
  obtain⟨hp,g,d,tk,os⟩:=s;obtain⟨h1,h2,h⟩:=h;have hsub:=sub_zip;have q2:IsTup (Shared.heap ⟨hp.push { cls := .type n1,data := .fields #[.ref t1,.int 0 0] },g,d,tk,os⟩) t2 ys:=h2.push _
  have q1:∀{A':J3}{E':xp}{Q':xp},Q' (.ref (Shared.heap ⟨hp,g,d,tk,os⟩).objs.size) { (⟨hp,g,d,tk,os⟩:xZ) with heap:=(Shared.heap ⟨hp,g,d,tk,os⟩).push { cls := .type n1,data := .fields #[.ref t1,.int 0 0] } }->wpAny (model prog w) A' (pyIter (.ref t1)) Q' E' ⟨hp,g,d,tk,os⟩:=fun {A' E' Q'} q=>by
   rcases h1 with ⟨rfl,h1⟩ | ⟨rfl,h1⟩
   . exact iter_tuple h1 q
   . exact wpAny_pyIter_list h1 q
  wp_walk using q1,iter_tuple q2;refine⟨_,rfl,?_⟩;dsimp only at h ⊢;simp only[j6]at h ⊢;exact h
def oq(q1:FstQ n1 h t1 xs)(q2:IsTup h t2 ys):ZAt (laid h (Zj n1 h.objs.size t1 t2)) (h.objs.size + 4) (h.objs.size + 2) (h.objs.size + 3) h.objs.size (h.objs.size + 1) t1 t2 xs ys 0 .none false/\(laid h (Zj n1 h.objs.size t1 t2)).objs.size=h.objs.size + 5/\∀c o,h.get? c=some o->(laid h (Zj n1 h.objs.size t1 t2)).get? c=some o:=by
 unfold laid Zj;simp only[List.foldl];have at_:∀(h:Heap) (o:Obj) (n:Nat),o.isFreed=false->h.objs.size=n->(h.push o).get? n=some o:=λh o n f e=>by subst e;exact jK _ f
 have up:∀(h:Heap) (o o':Obj) (c:J0),h.get? c=some o'->(h.push o).get? c=some o':=λh o o' c e=>jB _ e;have l1:=q1.lt;have l2:=q2.lt
 refine⟨⟨at_ _ _ _ rfl (by simp only[j6]),up _ _ _ _ (up _ _ _ _ (at_ _ _ _ rfl (by simp only[j6]))),⟨_,_,up _ _ _ _ (at_ _ _ _ rfl (by simp only[j6]))⟩,
  ⟨?_,jQ l1⟩,
  ⟨.inl ⟨⟨_,up _ _ _ _ (up _ _ _ _ (up _ _ _ _ (at_ _ _ _ rfl (by simp only[j6])))),rfl,rfl⟩,((((q2.push _).push _).push _).push _).push _⟩,λz=>j7 _ (jc (js (Nat.le_of_eq z.symm) l2) (Nat.le_add_right _ _))⟩⟩,?_,λc o e=>up _ _ _ _ (up _ _ _ _ (up _ _ _ _ (up _ _ _ _ (up _ _ _ _ e))))⟩
 . rcases q1 with ⟨rfl,q1⟩ | ⟨rfl,o,e,r⟩
   . exact .inl ⟨⟨_,up _ _ _ _ (up _ _ _ _ (up _ _ _ _ (up _ _ _ _ (at_ _ _ _ rfl rfl)))),rfl,rfl⟩,((((q1.push _).push _).push _).push _).push _⟩
   . exact .inr ⟨⟨_,up _ _ _ _ (up _ _ _ _ (up _ _ _ _ (up _ _ _ _ (at_ _ _ _ rfl rfl)))),rfl,rfl⟩,o,up _ _ _ _ (up _ _ _ _ (up _ _ _ _ (up _ _ _ _ (up _ _ _ _ e)))),r⟩
 . simp only[j6]
def zu{h:Heap}{t1 t2:J0}(l1:t1 < h.objs.size)(l2:t2 < h.objs.size):ZOff (h.objs.size + 4) (h.objs.size + 2) (h.objs.size + 3) h.objs.size (h.objs.size + 1) t1 t2:=by
 have far:∀(t:J0) (k:Nat),t < h.objs.size->¬t=h.objs.size + k:=λt k l z=>j7 _ (jc (js (Nat.le_of_eq z.symm) l) (Nat.le_add_right _ _));refine⟨by simp,?_,?_⟩<;>simp only[jL,jz,xk,not_or]
 . exact⟨far _ 4 l1,far _ 2 l1,far _ 3 l1,far _ 0 l1,far _ 1 l1⟩
 . exact⟨far _ 4 l2,far _ 2 l2,far _ 3 l2,far _ 0 l2,far _ 1 l2⟩
def zv(q1:FstQ n1 s.heap t1 xs)(q2:IsTup s.heap t2 ys)(k:Q (.ref (s.heap.objs.size + 4)) { s with heap:=laid s.heap (Zj n1 s.heap.objs.size t1 t2) }):wpAny (model prog w) A (call (.type "zip") [.ref t1,.ref t2]) Q E s :=
 callType_new F.called_zip 'f' (F.typeCall_zip_2 _ _) (F.newCall_zip_2 _ _) (λobj=>F.args_object_init_3 obj _ _) F.entry_zip_new (zp n1 t1 t2 xs ys) ⟨q1,q2,⟨⟨_,(oq q1 q2).1.zip,rfl⟩,k⟩⟩
end
end L2
namespace L2
open PySem PySem.W PySem.Spec PyProof.Rows
def zw:typeLookup (.type "zip") "keys" = pure none:=by rw[xo,xb];kernel_rfl
def zx:typeLookup (.type "zip") "__getattr__" = pure none:=by rw[xo,xb];kernel_rfl
theorem zy:entryFor table "zip.__getattribute__" = some Builtin.«object.__getattribute__»:=entryFor_alias (id' := "object.__getattribute__") (by kernel_rfl) (by first | rfl | decide +kernel) (by decide +kernel) (by kernel_rfl)
def zA(a:J0)(vs:xw)(u:Tok) :
 Meets (Builtin.«object.__getattribute__» ⟨[.ref a,.str "keys" u],[]⟩) (λA R s=>s.heap.get? a=some { cls := .type "zip",dict:=none,data := .fields vs,slots:=#[] }/\raisesAttr (.ref a) "keys" A R s) :=
 Meets.of_wp λprog w A R s hs=>by
  obtain⟨hp,g,d,tk,os⟩:=s;obtain⟨hx,hs⟩:=hs;have zt:(⟨hp,g,d,tk,os⟩:xZ).TypeIs (.ref a) "zip" := ⟨_,hx,rfl⟩;have z0:=zw;unfold Builtin.«object.__getattribute__»
  repeat (any_goals (first | assumption | wp_step))
  exact wpAny_raiseAttrError hs.1 hs.2 (attrMsg_fits (by decide +kernel) (by rw[qR];decide))
def zB(hx:s.heap.get? a=some { cls := .type "zip",dict:=none,data := .fields vs,slots:=#[] })(hA:A.handled=none)
 (h:∀h' tk,(∀b o,s.heap.get? b=some o->h'.get? b=some o)->Q none { s with heap:=h',toks:=tk }):wpAny (model prog w) A (getAttr? (.ref a) "keys") Q E s:=by
 obtain⟨hp,g,d,tk,os⟩:=s;have zt:∀xT,(⟨hp,g,d,xT,os⟩:xZ).TypeIs (.ref a) "zip" := λ_=>⟨_,hx,rfl⟩;have f1:=sub_AttributeError;have f3:=F.slot_zip_getattribute.lookup;have f4:=F.slot_zip_getattribute.bind (.ref a);have f5:=zx;unfold getAttr? getAttrBy? getAttrBy
 repeat (any_goals (first | assumption | exact zt _ | ((with_reducible show wpAny _ _ (call (Value.builtin "zip.__getattribute__") _ _) _ _ _);refine call_meets F.slot_zip_getattribute (zt _) zy (F.args_zip_getattribute_2 _ _) (zA a vs _) ⟨hx,hA,λh' xT e hx'=>?_⟩) | wp_step))
 obtain⟨t',u',he⟩:=hx'.there;show wpAny _ _ (getattributeRaised _ _ _ _ _ _ _) _ _ _;unfold getattributeRaised
 repeat (any_goals (first | assumption | wp_step))
 exact h _ _ hx'.keeps
def ZS(h:Heap)(z TI TO i1 i2 t1 t2:J0)(xs ys:xw)(n:Nat):Prop:=∃f0 f1,ZAt h z TI TO i1 i2 t1 t2 xs ys n f0 f1/\(f0 = .none\/∃(T:J0) (o:Obj),f0=rawInt (T:Nat)/\h.get? T=some o)
section
variable {prog:J1}{w:J2}{A:J3}{E:xp}{s:xZ}{z TI TO i1 i2 t1 t2:J0}{xs ys:xw}{n:Nat}
def zC(D:ZOff z TI TO i1 i2 t1 t2)(Z:ZS s.heap z TI TO i1 i2 t1 t2 xs ys n)(hx:xs[n]? = some x)(hy:ys[n]? = some y)
 (k:∀h',ZS h' z TI TO i1 i2 t1 t2 xs ys (n + 1)->h'.get? s.heap.objs.size=some { cls := .type "tuple",data := .seq #[x,y] }->(∀c o,c∉[z,TI,TO,i1,i2]->s.heap.get? c=some o->h'.get? c=some o)->Q (some (.ref s.heap.objs.size)) { s with heap:=h' }):wpAny (model prog w) A (pyNext (.ref z)) Q E s:=by
 obtain⟨f0,f1,Z,c⟩:=Z;refine oo ⟨_,Z.zip,rfl⟩ ?_;rcases c with rfl | ⟨T,o,rfl,gT⟩
 . exact zi D Z hx hy λh' Z' new _ al=>k h' ⟨_,_,Z',.inr ⟨_,_,rfl,new⟩⟩ new λc o hc q=>al c o (λe=>hc (by simp[e])) (λe=>hc (by simp[e])) (λe=>hc (by simp[e])) (λe=>hc (by simp[e])) q
 . refine zk D Z gT hx hy λh' Z' new _ al=>k h' ⟨_,_,Z',.inr ?_⟩ new λc o hc q=>al c o (λe=>hc (by simp[e])) (λe=>hc (by simp[e])) (λe=>hc (by simp[e])) q
   by_cases e1:T=z
   . have g:=Z'.zip;exact⟨T,_,rfl,(qP h'.get? e1).trans g⟩
   by_cases e2:T=i1
   . obtain⟨o',g⟩:=Z'.w1.obj;exact⟨T,o',rfl,(qP h'.get? e2).trans g⟩
   by_cases e3:T=i2
   . obtain⟨o',g⟩:=Z'.w2.obj;exact⟨T,o',rfl,(qP h'.get? e3).trans g⟩
   exact⟨T,o,rfl,al T o e1 e2 e3 gT⟩
def zD(hh:A.handled=none)(D:ZOff z TI TO i1 i2 t1 t2)(Z:ZS s.heap z TI TO i1 i2 t1 t2 xs ys n)(hx:xs[n]? = none)
 (k:∀h',(∀c o,c∉[z,TI,TO,i1,i2]->s.heap.get? c=some o->h'.get? c=some o)->Q none { s with heap:=h' }):wpAny (model prog w) A (pyNext (.ref z)) Q E s:=by
 obtain⟨f0,f1,Z,c⟩:=Z;refine oo ⟨_,Z.zip,rfl⟩ ?_;rcases c with rfl | ⟨T,o,rfl,gT⟩
 . exact zj hh D Z hx λh' e al he=>⟨let ⟨o,g,c⟩:=he;⟨o,g,c⟩,k h' λc o hc q=>al c o (λe=>hc (by simp[e])) (λe=>hc (by simp[e])) q⟩
 . exact zm hh D Z gT hx λh' e al he=>⟨let ⟨o,g,c⟩:=he;⟨o,g,c⟩,k h' λc o hc q=>al c o (λe=>hc (by simp[e])) (λe=>hc (by simp[e])) q⟩
def ZS.keep(Z:ZS h z TI TO i1 i2 t1 t2 xs ys n)(hd:d∉[z,TI,TO,i1,i2,t1,t2])(k:∀c,c≠d->h'.get? c=h.get? c)(hh:∃o,h'.get? d=some o):ZS h' z TI TO i1 i2 t1 t2 xs ys n:=by
 obtain⟨f0,f1,⟨a,b,⟨p,q,c⟩,w1,w2⟩,al⟩:=Z;simp only[jL,jz,xk,not_or]at hd;obtain⟨d1,d2,d3,d4,d5,d6,d7⟩:=hd;have up:∀c o,¬d=c->h.get? c=some o->h'.get? c=some o:=λc o n e=>(k c (λq=>n q.symm)).trans e;refine⟨f0,f1,⟨up _ _ d1 a,up _ _ d2 b,⟨p,q,up _ _ d3 c⟩,w1.all λb o hb e=>up b o ?_ e,w2.all λb o hb e=>up b o ?_ e⟩,?_⟩
 . rcases hb with rfl | rfl
   . exact d4
   . exact d6
 . rcases hb with rfl | rfl
   . exact d5
   . exact d7
 . rcases al with e | ⟨T,o,e,g⟩
   . exact .inl e
   . by_cases q:T=d
     . obtain⟨o',g'⟩:=hh;exact .inr ⟨T,o',e,q ▸ g'⟩
     . exact .inr ⟨T,o,e,(k T q).trans g⟩
def zE(hh:A.handled=none)(D:ZOff z TI TO i1 i2 t1 t2)(hd:d∉[z,TI,TO,i1,i2,t1,t2])(more:List (Key×xY))(lx:xs.size=more.length)(ly:ys.size=more.length)
 (kx:∀(j:Nat) (x:xY) (kv:Key×xY),xs[j]? = some x->more[j]? = some kv->(JA prog w).is kv.1 x=true) (ky:∀(j:Nat) (y:xY) (kv:Key×xY),ys[j]? = some y->more[j]? = some kv->y=kv.2) :
 ∀(k i:Nat) (s:xZ) (kvs:List (Key×xY)),more.length - i=k->i<=more.length->ZS s.heap z TI TO i1 i2 t1 t2 xs ys i->s.heap.DictOf (JA prog w) d kvs->kvs.length + (more.length - i)<=sizeLine ->
  (∀h' tk,h'.DictOf (JA prog w) d (merged kvs (more.drop i))->(∀b o,b≠d->b∉[z,TI,TO,i1,i2]->s.heap.get? b=some o->h'.get? b=some o)->R (.ok (.ret .none)) { s with heap:=h',toks:=tk }) ->
  codeAny (model prog w) A (.builtin "dict.update.loop" ⟨[.ref d,.ref z,rawInt i,.none],[]⟩) R s:=by
 have dz:d∉[z,TI,TO,i1,i2]:=λq=>hd (by simp only[jL,jz,xk]at q ⊢;rcases q with q | q | q | q | q<;>simp[q]);intro k
 induction k with
 | zero =>
  intro i s kvs hk hi Z dd hz hR;refine qM bj ?_;rw[Around.under_plainId XX _];refine q8 (zD (show A.in1.handled=none from hh) D Z (kS 'd') λh' al=>?_);refine q8 (qf (qf (hR h' s.toks ?_ λb o _ hb e=>al b o hb e)));obtain⟨o,es,ep,ho,r⟩:=dd;rw[kF 'd'];exact⟨o,es,ep,al d o dz ho,r⟩
 | succ k ih =>
  intro i s kvs hk hi Z dd hz hR;have hlt:i < more.length:=by omega
  have hm:more[i]? = some more[i]:=jC hlt;have hx:xs[i]? = some (xs[i]'(by omega)):=jd _;have hy:ys[i]? = some (ys[i]'(by omega)):=jd _;have isk:=kx i _ _ hx hm;have isv:=ky i _ _ hy hm;refine qM bj ?_;rw[Around.under_plainId XX _];refine q8 (zC D Z hx hy λh' Z' new al=>?_)
  have dd':h'.DictOf (JA prog w) d kvs:=by
   obtain⟨o,es,ep,ho,r⟩:=dd;exact⟨o,es,ep,al d o dz ho,r⟩
  refine q8 (qK (q8 (wpAny_tryCatch ?_)));unfold Builtin.Dict.pairItems;refine q8 (xa (T := "tuple") ⟨_,new,rfl⟩ ?_);rw[qh 'f'];refine q8 (qS new rfl (qf ?_));rw[isv]at new ⊢;refine qK (wpAny_dictSet_pairs (hsz:=by omega) isk dd' λh2 dd2 e2=>?_);have hstl:(stored kvs more[i].1 more[i].2).length<=kvs.length + 1:=by unfold stored;split<;>simp
  refine qf ⟨qU XX _,?_⟩;rw[show rawInt ((i:Int) + 1)=rawInt ((i + 1:Nat):Int) from by push_cast;rfl];refine ih (i + 1) _ (stored kvs more[i].1 more[i].2) 'd' hlt (Z'.keep hd (λc hc=>e2.2 c hc) (let ⟨o,_,_,ho,_⟩:=dd2;⟨o,ho⟩)) dd2 'd' λh3 tk3 dd3 k3=>hR h3 tk3 ?_ λb o h1 h4 e=>k3 b o h1 h4 ((e2.2 b h1).trans (al b o h4 e));rw[j4 hlt];exact dd3
end
section
variable {X:Cx}{xB:xr}{σ:St}{H:Hp}{s:xZ}
theorem ou(I:Inv X xB σ H s):∀{ks:List Key}{vs:List V}{ik iv:xx},Vals (ks.map kV) ik->Vals vs iv->ks.length=vs.length ->
 ∃more',KV (ks.zip vs) more'/\more'.length=ks.length/\(∀(j:Nat) (x:xY) (kv:Key×xY),ik[j]? = some x->more'[j]? = some kv->(JA X.prog X.w).is kv.1 x=true)/\∀(j:Nat) (y:xY) (kv:Key×xY),iv[j]? = some y->more'[j]? = some kv->y=kv.2
 | [],[],_,_,.nil,.nil,_=>⟨[],.nil,rfl,λj x kv e=>by simp at e,λj x kv e=>by simp at e⟩
 | k :: ks,v :: vs,_ :: _,_ :: _,.cons (b:=_) r1 r2,.cons (b:=y) q1 q2,h=>by
  obtain⟨more',h1,h2,h3,h4⟩:=ou I r2 q2 (by simpa using h);refine⟨(k,y) :: more',.cons ⟨rfl,q1⟩ h1,by simp[h2],λj x kv e1 e2=>?_,λj x kv e1 e2=>?_⟩
  . cases j with
    | zero=>simp at e1 e2;subst e1 e2;exact Zg r1
    | succ j=>exact h3 j x kv (by simpa using e1) (by simpa using e2)
  . cases j with
    | zero=>simp at e1 e2;subst e1 e2;rfl
    | succ j=>exact h4 j x kv (by simpa using e1) (by simpa using e2)
def zF(K:xt)(ta:TA):TE:=λσ H Q=>ta σ H λvs H1=>∃(a b:J0) (ks:List Key) (ys:List V),vs=[.ref a,.ref b]/\(SqT K H1 a (ks.map kV)\/SqL K H1 a (ks.map kV))/\SqT K H1 b ys/\ks.length=ys.length/\ks.length<=sizeLine/\∀p,H1 p=none->Q (.ref p) (upd H1 p (.dK (Xn [] (ks.zip ys))))
def zG{p p2 cp pos:Pos}{ta:TA}(K:xt)(hK:X.K=K)(hc:X.calm=true)(hg:Gl X "dict")(hm:X.mg "dict" = none)(hv:bootBuiltins "dict" = some (.type "dict"))(hg2:Gl X "zip")(hm2:X.mg "zip" = none)(hv2:bootBuiltins "zip" = some (.type "zip"))(ha:PA X [e1,e2] ta)
 (he:starEach [e1,e2] X.env=(false,eval e1 X.env) :: starEach [e2] X.env:=by rfl) (hpl:(backTo cp (starEach [e2] X.env)).any (·.1)=false:=by rfl):PE X (.Call (.Name "dict" p) [.Call (.Name "zip" p2) [e1,e2] [] cp] [] pos) (zF K ta):=by
 subst hK;intro xB s σ H Q I h;refine qN (QB I hg hm hv ?_ 'f' 'f');refine PyProof.Rows.callWith_type1 ?_ rfl rfl;show wpAny _ _ (spliced [(false,eval (.Call (.Name "zip" p2) [e1,e2] [] cp) X.env)]) _ _ s;refine Calls.spliced_cons (qN (QB I hg2 hm2 hv2 ?_ 'f' 'f'));refine PyProof.Rows.callWith_type1 (thn (ha cp xB s σ H _ I h) λus s1 fv=>?_) he hpl;obtain⟨vs,H1,I1,r1,q1⟩:=fv;obtain⟨a,b,ks,ys,rfl,qa,qb,el,z,q⟩:=q1;obtain⟨_,_,rfl,ra,rb⟩:=dH r1
 cases ra
 cases rb
 obtain⟨n1,ik,rk,pa⟩:∃n1 ik,Vals (ks.map kV) ik/\FstQ n1 s1.heap a ik.toArray:=by
  rcases qa with qa | qa
  . obtain⟨ik,rk,pa,_⟩:=I1.tuple qa;exact⟨_,ik,rk,.inl ⟨rfl,pa⟩⟩
  . obtain⟨ik,rk,pa,_⟩:=I1.list qa;exact⟨_,ik,rk,.inr ⟨rfl,pa.isList⟩⟩
 obtain⟨iv,rv,pb,_⟩:=I1.tuple qb;have hh:X.A.handled=none:=I1.ok.hd hc;refine zv pa pb (Calls.spliced_nil ?_);obtain⟨Z,sz,kz⟩:=oq pa pb;have D:=zu pa.lt pb.lt;obtain⟨more',km,lm,kk,kv⟩:=ou I1 rk rv el;generalize laid s1.heap (Zj n1 s1.heap.objs.size a b)=h0 at Z sz kz ⊢;have lk:=rk.length;have lv:=rv.length;rw[jA]at lk;refine callType_codes (Q₁:=λobj s₁=>obj = .ref h0.objs.size/\s₁={ s1 with heap:=h0.push { cls := .type "dict",data := .dict #[] } }) F.kt_called_dict (F.kt_typeCall_dict_1 _) F.entry_dict_init (kt_code_dict_new _ ⟨rfl,rfl⟩) ?_;rintro obj s₁ ⟨rfl,rfl⟩;have dd0:(h0.push { cls := .type "dict",data := .dict #[] }).DictOf (JA X.prog X.w) h0.objs.size []:=Heap.DictOf.new h0;have le:s1.heap.objs.size<=h0.objs.size:=by rw[sz];exact Nat.le_add_right _ _
 have fr:H1 h0.objs.size=none:=I1.hok.fresh le;have hd:(h0.objs.size == sysModules)=false:=beq_eq_false_iff_ne.mpr (Ne.symm (jQ (jc I1.big le)));refine⟨dd0.typeIs,F.args_dict_init_2 _ _,?_⟩;unfold Builtin.«dict.__init__»;refine q8 ?_;unfold Builtin.Dict.selfAndRest;refine q8 (wpAny_notOrdered_dict dd0.typeIs ?_);show wpAny _ _ (pure (h0.objs.size,[Value.ref (s1.heap.objs.size + 4)])) _ _ _;refine qf ?_;have kp0:∀c o,h0.get? c=some o->(h0.push { cls := .type "dict",data := .dict #[] }).get? c=some o:=λc o e=>jB _ e;generalize h0.push { cls := .type "dict",data := .dict #[] }=g at dd0 kp0 ⊢;show wpAny _ _ (Builtin.Dict.updateFrom "dict.__init__" h0.objs.size (.ref (s1.heap.objs.size + 4)) [] .none) _ _ _;have gz:=kp0 _ _ Z.zip;unfold Builtin.Dict.updateFrom;refine q8 (xa (T := "zip") ⟨_,gz,rfl⟩ ?_);rw[qh 'f'];refine q8 (zB gz (show X.A.in1.in1.handled=none from hh) λh1 tk1 k1=>?_);simp only[Option.isNone_none,if_true];refine q8 (x9 ?_);have k01:∀c o,h0.get? c=some o->h1.get? c=some o:=λc o e=>k1 _ _ (kp0 _ _ e);refine q8 (wpAny_pyIter_zip (s:={ s1 with heap:=h1,toks:=tk1 }) (k01 _ _ Z.zip) ?_)
 have dd1:h1.DictOf (JA X.prog X.w) h0.objs.size []:=by
  obtain⟨o,es,ep,ho,r⟩:=dd0;exact⟨o,es,ep,k1 _ _ ho,r⟩
 have Z1:ZS h1 (s1.heap.objs.size + 4) (s1.heap.objs.size + 2) (s1.heap.objs.size + 3) s1.heap.objs.size (s1.heap.objs.size + 1) a b ik.toArray iv.toArray 0:=by
  obtain⟨y1,y2,⟨u,v,y3⟩,y4,y5⟩:=Z;exact⟨.none,false,⟨k01 _ _ y1,k01 _ _ y2,⟨u,v,k01 _ _ y3⟩,y4.all λc o _ e=>k01 c o e,y5.all λc o _ e=>k01 c o e⟩,.inl rfl⟩
 have far:∀(t:J0) (j:Nat),t < s1.heap.objs.size->t≠s1.heap.objs.size + j:=λt j l e=>j7 _ (jc (js (Nat.le_of_eq e.symm) l) (Nat.le_add_right _ _))
 have hdz:h0.objs.size∉[s1.heap.objs.size + 4,s1.heap.objs.size + 2,s1.heap.objs.size + 3,s1.heap.objs.size,s1.heap.objs.size + 1,a,b]:=by
  have la:=pa.lt;have lb:=pb.lt;simp only[jL,jz,xk,not_or,sz];exact⟨by simp,by simp,by simp,by simp,by simp,λe=>far a 5 la e.symm,λe=>far b 5 lb e.symm⟩
 refine qf ⟨qU XX _,zE (prog:=X.prog) (w:=X.w) (A:=X.A.in1) (show X.A.in1.handled=none from hh) D hdz more' (by rw[jH,lm,lk]) (by rw[jH,lm,el,lv]) (λj x kv' e1 e2=>kk j x kv' (by simpa using e1) e2) (λj y kv' e1 e2=>kv j y kv' (by simpa using e1) e2) _ 0 _ [] rfl (jX _) Z1 dd1 (by rw[qG,lm];simpa using z) λh' tk dd' kp=>?_⟩;rw[kO]at dd'
 have kept:∀c u,s1.heap.get? c=some u->h'.get? c=some u:=λc u hu=>by
  have lc:=jG hu;refine kp c u (λe=>far c 5 lc (e.trans sz)) ?_ (k01 c u (kz c u hu));simp only[jL,jz,xk,not_or];exact⟨far c 4 lc,far c 2 lc,far c 3 lc,far c 0 lc,far c 1 lc⟩
 have lm2:(ks.zip ys).length<=sizeLine:=by rw[km.length,lm];exact z
 exact⟨rfl,.ref h0.objs.size,_,I1.laid (t':=tk) kept le (dZ (jh (eE (ks.zip ys) []) (by simpa using lm2)) hd (km.merge .nil) dd'),rfl,q _ fr⟩
end
end L2
namespace L2
open PySem PySem.Spec PyProof.Rows
section
variable {X:Cx}{k j1 j2:Nat}{ps1 ps2:xy}{sp1 sp2:Sp}{x n1 n2:Str}{p pos:Pos}{e:Expr}{es:List Expr}{t:TA}{tn:TE}
def zH:TS:=λ_ _ _=>False
def zI{st:Stmt}:PS X st zH:=λ_ _ _ _ _ _ h=>h.elim
end
section
variable {P:J1}{w:J2}{H H':Hp}{h h1 h2 B:Heap}{a:J0}{o:HO}
def ObjOk.has(x:ObjOk P w H h a o):∃ob,h.get? a=some ob:=by
 cases o with
 | lst xs=>obtain⟨_,_,_,_,e⟩:=x;exact⟨_,e⟩
 | tup xs=>obtain⟨_,_,_,ob,e,_⟩:=x;exact⟨ob,e⟩
 | dK kvs=>obtain⟨_,_,_,_,ob,_,_,e,_⟩:=x;exact⟨ob,e⟩
 | dT kvs=>obtain⟨_,_,_,_,ob,_,_,e,_⟩:=x;exact⟨ob,e⟩
 | set S n=>obtain⟨ob,_,_,_,e,_⟩:=x;exact⟨ob,e⟩
 | ins C dx fs=>obtain⟨_,_,_,e,_⟩:=x;exact⟨_,e⟩
 | own y=>exact x
 | xd fs=>obtain⟨_,⟨ob,_,_,e,_⟩,_⟩:=x;exact⟨ob,e⟩
 | rng lo hi=>obtain⟨_,_,_,e⟩:=x;exact⟨_,e⟩
 | frz ob u=>obtain⟨e,_⟩:=x;exact⟨ob,e⟩
 | tbl ps=>exact⟨_,(show h.get? a=some _ from x)⟩
 | met f y=>exact⟨_,(show h.get? a=some _ from x)⟩
 | ext φ=>obtain⟨_,e,_⟩:=x;exact e
def HOk.fly(x:HOk P w H h)(hB:∀b ob,h.get? b=some ob->(H b).isSome=true->B.get? b=some ob)(k:B.StaysIn h2):HOk P w H h2:=λa o e =>
 (x a o e).stay (λb u hb q=>k b u (hB b u q (by rcases hb with rfl | hb<;>first | (rw[e];rfl) | (rw[hb];rfl)))) (λ_ q=>q) λ_ _ q=>q
theorem Un.fly(u:Un fs [] H H' h h1)(hB:∀b ob,h1.get? b=some ob->((H' b).isSome=true\/(h.get? b).isSome=true)->b∉fs->B.get? b=some ob)(k:B.StaysIn h2)
 (hf:∀b∈fs,∀ob,h1.get? b=some ob->∃sl,h2.get? b=some { ob with slots:=sl }):Un fs [] H H' h h2 where
 keep:=λb ob e n hb hx=>k b ob (hB b ob (u.keep b ob e n hb hx) (.inr (by rw[e];rfl)) hb)
 slot:=λb ob e n hb hx=>by
  obtain⟨sl,e1⟩:=u.slot b ob e n hb hx;obtain⟨sl',e2⟩:=hf b hb _ e1;exact⟨sl',e2⟩
 free:=u.free
 there:=λb ob e hx=>by
  obtain⟨o',e1⟩:=u.there b ob e hx
  by_cases hb:b∈fs
  . obtain⟨sl,e2⟩:=hf b hb _ e1;exact⟨_,e2⟩
  . exact⟨o',k b o' (hB b o' e1 (.inr (by rw[e];rfl)) hb)⟩
 tups:=u.tups
 frzs:=u.frzs
 tbls:=u.tbls
end
section
variable {X:Cx}{xB:xr}{σ:St}{H:Hp}{s:xZ}
def Inv.off(I:Inv X xB σ H s)(h:(H b).isSome=true\/(X.s₀.heap.get? b).isSome=true)(hb:b∉X.fs):b∉frs X.stack:=λz=>by
 rcases jL.mp (I.stkSub b z) with q | q
 . rcases h with h | h
   . rw[q,I.free]at h;cases h
   . obtain⟨ob,e⟩:=jy.mp h;exact absurd (jG e) (by rw[q];exact Nat.not_lt.mpr I.ok.above)
 . exact hb q
def Inv.noFr(I:Inv X xB σ H s)(h:(H b).isSome=true):b∉frs X.stack:=λz=>by
 rw[I.stkFree b z]at h;cases h
def Inv.old(I:Inv X xB σ H s)(hx:X.ex=[])(h:(H b).isSome=true\/(X.s₀.heap.get? b).isSome=true):∃ob,s.heap.get? b=some ob:=by
 rcases h with h | h
 . obtain⟨u,e⟩:=jy.mp h;exact(I.hok b u e).has
 . obtain⟨ob,e⟩:=jy.mp h;exact I.base.there b ob e (by rw[hx];exact λz=>nomatch z)
end
abbrev zJ(C:J0)(od:Option J0)(t:J0):Obj:=⟨.ref C,od,.fields #[.ref t,.none,.none,.none,.bool false,.none],#[]⟩
def TrD(h base:Heap)(e:J0)(c:xY)(od:Option J0)(fl:xY):Prop :=
 ∃(vs:xw) (sl:Array (xu)) (T:J0) (oT:Obj) (ts:xw),h.get? e=some ⟨c,od,.fields vs,sl⟩/\vs[1]? = some (.ref T)/\base.get? T=none/\T≠e/\h.get? T=some oT/\oT.data = .fields ts/\ts[3]? = some fl
def X8(base:Heap)(l:List Env)(e:J0)(c:xY)(od:Option J0)(fl:xY)(h:Heap):Prop:=base.StaysIn h/\base.get? e=none/\h.FunFrames base l/\TrD h base e c od fl
section
variable {M:Model}{A:J3}{E:xp}{s:xZ}{base:Heap}{env:Env}{outer l:List Env}{L e:J0}{c fl:xY}{od:Option J0}{vs:xw}{sl:Array (xu)}
def ow(fr:A.frames=some (env :: outer))(ff:s.heap.FunFrames base (env :: outer))(fe:env.frame=some L)(qe:s.heap.get? e=some ⟨c,od,.fields vs,sl⟩)(kb:base.StaysIn s.heap)(nb:base.get? e=none)(sz:1 < vs.size)
 (k:∀h',X8 base (env :: outer) e c od (rawInt L) h'->s.heap.UpToSlots h'->Q () { s with heap:=h' }) :
 wpAny M A (do let a <- frameOf env;let pl <- entryPlaceOf L had;let b <- EntryCells.newEntry head a .none (rawInt L) .none pl;setField (.ref e) 1 b) Q E s:=by
 have ne:e∉(env :: outer).filterMap (·.frame):=λz=>by
  obtain⟨_,o,ho,hn⟩:=ff.mem z;rw[qe]at ho;cases ho;exact hn vs rfl
 refine q8 (wpAny_frameOf_fun fr ff fe λg sg=>?_);refine q8 (wpAny_entryPlaceOf λpl ip=>?_);unfold EntryCells.newEntry newFields;refine q8 (qw ?_ (ip.sizeOk5 _ _ _ _ _));have q1:g.get? e=some ⟨c,od,.fields vs,sl⟩:=(sg.2.1 e ne).trans qe;have b1:base.StaysIn g:=λb o z=>(sg.2.1 b λm=>by rw[(ff.mem m).1]at z;cases z).trans (kb b o z);generalize hob:([head,Value.ref L,Value.none,rawInt L,Value.none] ++ (if pl.isEmpty then List.replicate 6 Value.none else pl)).toArray=cells;have c3:cells[3]? = some (rawInt L):=by rw[<- hob];simp
 obtain⟨tb,etb⟩:∃tb:Obj,tb={ cls := .type "traceback",dict:=none,data := .fields cells }:=⟨_,rfl⟩;rw[<- etb];have q2:=jB (h:=g) tb q1;have nt:g.objs.size≠e:=jn (jG q1);refine qW q2 rfl sz (k _ ?_ ?_)
 all_goals
  obtain⟨g3,eg3⟩:∃g3,g3=(g.push tb).update e (Obj.mapFields (·.setIfInBounds 1 (Value.ref g.objs.size))):=⟨_,rfl⟩;rw[<- eg3];have q3:g3.get? e=some ⟨c,od,.fields (vs.setIfInBounds 1 (Value.ref g.objs.size)),sl⟩:=by rw[eg3];exact ja _ q2 rfl
  have t3:g3.get? g.objs.size=some tb:=by rw[eg3,jY _ _ (Ne.symm nt)];exact jK g (by rw[etb];rfl)
  have kp:∀b o,b≠e->g.get? b=some o->g3.get? b=some o:=λb o hb z=>by rw[eg3,jY _ _ (Ne.symm hb)];exact jB _ z
  have nr:∀b o,s.heap.get? b=some o->(∀ws,o.data ≠ .fields ws)->b≠e:=λb o z hn q=>by
   rw[q,qe]at z;cases z;exact hn vs rfl
 . refine⟨λb o z=>kp b o (λq=>by rw[q,nb]at z;cases z) (b1 b o z),nb,ff.of_keeps λb o z hn=>?_,?_⟩
   . obtain⟨sl',z'⟩:=sg.2.2 b o z;exact⟨_,kp b _ (nr b o z hn) z',rfl⟩
   . exact⟨_,sl,g.objs.size,tb,cells,q3,by simp[sz],b1.fresh,nt,t3,by rw[etb],c3⟩
 . intro b o z hn;obtain⟨sl',z'⟩:=sg.2.2 b o z;exact⟨sl',kp b _ (nr b o z hn) z'⟩
def zK(f:X8 base l e c od fl s.heap)(k:∀h',X8 base l e c od .none h'->s.heap.UpToSlots h'->Q () { s with heap:=h' }):wpAny M A (setFlight (.ref e) none) Q E s:=by
 obtain⟨kb,nb,ff,vs,sl,T,oT,ts,qe,q1,nT,ne,qT,dT,q3⟩:=f;have z3:3 < ts.size:=(Array.getElem?_eq_some_iff.mp q3).1;unfold setFlight;refine q8 (qq qe rfl q1 ?_);rw[qh (show(Value.ref T != Value.none)=true from by simp)];have ot:∀b,b≠T->(s.heap.update T (Obj.mapFields (·.setIfInBounds 3 Value.none))).get? b=s.heap.get? b:=λb hb=>jY _ _ (Ne.symm hb)
 have nr:∀b o,s.heap.get? b=some o->(∀ws,o.data ≠ .fields ws)->b≠T:=λb o z hn q=>by
  rw[q,qT]at z;cases z;exact hn ts dT
 refine qW qT dT z3 (k _ ⟨λb o z=>(ot b λq=>by rw[q,nT]at z;cases z).trans (kb b o z),nb,ff.of_keeps λb o z hn=>⟨o,(ot b (nr b o z hn)).trans z,rfl⟩,?_⟩ λb o z hn=>⟨o.slots,(ot b (nr b o z hn)).trans z⟩);exact⟨vs,sl,T,_,_,(ot e (Ne.symm ne)).trans qe,q1,nT,ne,ja _ qT (Obj.isFreed_of_fields (Obj.data_mapFields dT _)),Obj.data_mapFields dT _,by simp[z3]⟩
def zL(fr:A.frames=some (env :: outer))(fe:env.frame=some L)(f:X8 base (env :: outer) e c od .none s.heap)(k:∀h',X8 base (env :: outer) e c od (rawInt L) h'->s.heap.UpToSlots h'->Q () { s with heap:=h' }):wpAny M A (noteFrame (.ref e) env) Q E s:=by
 obtain⟨kb,nb,ff,vs,sl,T,oT,ts,qe,q1,nT,ne,qT,dT,q3⟩:=f;unfold noteFrame;simp only[fe];refine q8 (qq qe rfl q1 ?_);rw[qh (show(Value.ref T != Value.none)=true from by simp)];refine q8 (qq qT dT q3 ?_);rw[qg (show ¬((Value.none == rawInt L)=true) from by simp[rawInt])];refine q8 (qW qT dT (Array.getElem?_eq_some_iff.mp q3).1 ?_);have ot:∀b,b≠T->(s.heap.update T (Obj.mapFields (·.setIfInBounds 3 Value.none))).get? b=s.heap.get? b:=λb hb=>jY _ _ (Ne.symm hb)
 have nr:∀b o,s.heap.get? b=some o->(∀ws,o.data ≠ .fields ws)->b≠T:=λb o z hn q=>by
  rw[q,qT]at z;cases z;exact hn ts dT
 refine ow fr (ff.of_keeps λb o z hn=>⟨o,(ot b (nr b o z hn)).trans z,rfl⟩) fe ((ot e (Ne.symm ne)).trans qe) (λb o z=>(ot b λq=>by rw[q,nT]at z;cases z).trans (kb b o z)) nb (Array.getElem?_eq_some_iff.mp q1).1 λh' f' sm=>k h' f' λb o z hn=>sm b o ((ot b (nr b o z hn)).trans z) hn
end
def CXD(P:J1)(w:J2):CXT:=λouter H s E ev s'=>∃(e C:J0) (od:Option J0) (B:Heap) (H':Hp),ev = .ref e/\s'.os=s.os/\AllBare s'.gens/\Un (frs outer) [] H H' s.heap s'.heap/\HOk P w H' s'.heap /\
 X8 B outer e (.ref C) od .none s'.heap/\(∀b ob,s'.heap.get? b=some ob->((H' b).isSome=true\/(s.heap.get? b).isSome=true)->b∉frs outer->B.get? b=some ob)/\H' e=none/\E (.ref C) od H'
def zM:QC (CXD P w) X E0:=by rintro _ _ _ _ _ _ _ ⟨_,_,_,_,_,_,_,_,_,_,_,_,_,h⟩;exact h.elim
structure Def2 (P:J1) (w:J2) (K:xt) (mg:xq) (base:Heap) (x:Str) (k:Nat) (ps:xy) (sp:Sp):Prop where
 ex:∃f fd,FnOk P w K mg base (CXD P w) k f fd ps sp/\Binds K fd ps []/\PySem.W.keepIn K (.ref f)=true/\mg x=some (.ref f)
def TrI(h B:Heap)(e:J0)(C:J0)(od:Option J0)(L:J0):Prop:=(∃t,h.get? e=some (zJ C od t))\/TrD h B e (.ref C) od .none\/TrD h B e (.ref C) od (rawInt L)
structure InF (X:Cx) (B:Heap) (H':Hp) (e:J0) (s':xZ):Prop where
 os:s'.os=X.s₀.os
 bare:AllBare s'.gens
 un:Un (frs X.outer) [] X.H₀ H' X.s₀.heap s'.heap
 hok:HOk X.prog X.w H' s'.heap
 kb:B.StaysIn s'.heap
 nb:B.get? e=none
 ff:s'.heap.FunFrames B X.stack
 inB:∀b ob,s'.heap.get? b=some ob->((H' b).isSome=true\/(X.s₀.heap.get? b).isSome=true)->b∉frs X.outer->B.get? b=some ob
 inH:∀b ob,s'.heap.get? b=some ob->(H' b).isSome=true->B.get? b=some ob
 fr:∀b∈frs X.outer,b∈X.stack.filterMap (·.frame)
def InF.step(I:InF X B H' e s')(k1:B.StaysIn h2)(ff2:h2.FunFrames B X.stack)(sm:s'.heap.UpToSlots h2):InF X B H' e { s' with heap:=h2 }:=by
 refine⟨I.os,I.bare,Un.fly I.un I.inB k1 (λb hb ob q=>?_),HOk.fly I.hok I.inH k1,k1,I.nb,ff2,λb ob q c nb=>?_,λb ob q c=>?_,I.fr⟩
 . obtain⟨_,o',ho',hnf⟩:=I.ff.mem (I.fr b hb);rw[q]at ho';cases ho';exact sm b ob q hnf
 . have:∃o1,s'.heap.get? b=some o1:=by
    rcases c with c | c
    . obtain⟨u,z⟩:=jy.mp c;exact(I.hok b u z).has
    . obtain⟨o,z⟩:=jy.mp c;exact I.un.there b o z (λz=>nomatch z)
   obtain⟨o1,e1⟩:=this;have z:=I.inB b o1 e1 c nb;have:=k1 b o1 z;rw[q]at this;cases this;exact z
 . obtain⟨u,z⟩:=jy.mp c;obtain⟨o1,e1⟩:=(I.hok b u z).has;have z:=I.inH b o1 e1 c;have:=k1 b o1 z;rw[q]at this;cases this;exact z
def ox(X:Cx)(E:XK)(ev:xY)(s':xZ):Prop:=∃(e C:J0) (od:Option J0) (B:Heap) (H':Hp),ev = .ref e/\InF X B H' e s'/\TrI s'.heap B e C od X.env.locals/\H' e=none/\E (.ref C) od H'
section
variable {M:Model}{A:J3}{E:xp}{s:xZ}{base:Heap}{env:Env}{outer l:List Env}{L e C:J0}{c fl:xY}{od:Option J0}
def oy(fr:A.frames=some (env :: outer))(fe:env.frame=some L)(kb:base.StaysIn s.heap)(nb:base.get? e=none)(ff:s.heap.FunFrames base (env :: outer))(tr:TrI s.heap base e C od L)(k:∀h',X8 base (env :: outer) e (.ref C) od (rawInt L) h'->s.heap.UpToSlots h'->Q () { s with heap:=h' }):wpAny M A (noteFrame (.ref e) env) Q E s:=by
 rcases tr with ⟨t,he⟩ | tr | tr
 . unfold noteFrame;simp only[fe];refine q8 (qq he rfl (x := .none) rfl ?_);rw[qg 'f'];exact ow fr ff fe he kb nb (by show 1 < 6;decide) k
 . exact zL fr fe ⟨kb,nb,ff,tr⟩ k
 . have f:X8 base (env :: outer) e (.ref C) od (rawInt L) s.heap:=⟨kb,nb,ff,tr⟩;obtain⟨vs,sl,T,oT,ts,qe,q1,nT,ne,qT,dT,q3⟩:=tr;unfold noteFrame;simp only[fe];refine q8 (qq qe rfl q1 ?_);rw[qh (show(Value.ref T != Value.none)=true from by simp)];refine q8 (qq qT dT q3 ?_);rw[qh (show(rawInt L == rawInt L)=true from by simp)];exact qf (k s.heap f (Heap.UpToSlots.refl _))
def zN(f:X8 base l e c od fl s.heap)(k:∀h',X8 base l e c od (rawInt L) h'->s.heap.UpToSlots h'->Q () { s with heap:=h' }):wpAny M A (setFlight (.ref e) (some L)) Q E s:=by
 obtain⟨kb,nb,ff,vs,sl,T,oT,ts,qe,q1,nT,ne,qT,dT,q3⟩:=f;have z3:3 < ts.size:=(Array.getElem?_eq_some_iff.mp q3).1;unfold setFlight;refine q8 (qq qe rfl q1 ?_);rw[qh (show(Value.ref T != Value.none)=true from by simp)];have ot:∀b,b≠T->(s.heap.update T (Obj.mapFields (·.setIfInBounds 3 (rawInt L)))).get? b=s.heap.get? b:=λb hb=>jY _ _ (Ne.symm hb)
 have nr:∀b o,s.heap.get? b=some o->(∀ws,o.data ≠ .fields ws)->b≠T:=λb o z hn q=>by
  rw[q,qT]at z;cases z;exact hn ts dT
 refine qW qT dT z3 (k _ ⟨λb o z=>(ot b λq=>by rw[q,nT]at z;cases z).trans (kb b o z),nb,ff.of_keeps λb o z hn=>⟨o,(ot b (nr b o z hn)).trans z,rfl⟩,?_⟩ λb o z hn=>⟨o.slots,(ot b (nr b o z hn)).trans z⟩);exact⟨vs,sl,T,_,_,(ot e (Ne.symm ne)).trans qe,q1,nT,ne,ja _ qT (Obj.isFreed_of_fields (Obj.data_mapFields dT _)),Obj.data_mapFields dT _,by simp[z3]⟩
end
section
variable {P:J1}{w:J2}{K:xt}{mg:xq}{base:Heap}{N:xy}{qual:Str}{scope:Scope}{f:J0}{cd:xY}{A:J3}{outer:List Env}{s0:xZ}{H0:Hp}{E:XK}
abbrev cxI(P:J1)(w:J2)(K:xt)(mg:xq)(base:Heap)(N:xy)(qual:Str)(scope:Scope)(f:J0)(cd:xY)(A:J3)(outer:List Env)(s0:xZ)(H0:Hp)(E:XK):Cx :=
 (QO (CXD P w) P w K mg base N qual scope f cd A outer s0 H0 E).wish (ox (QO (CXD P w) P w K mg base N qual scope f cd A outer s0 H0 E) E)
theorem zO(fr:(A.deeper (envOfC qual scope s0.heap.objs.size f cd)).frames=some (envOfC qual scope s0.heap.objs.size f cd :: outer)):PassesOwn (model (cxI P w K mg base N qual scope f cd A outer s0 H0 E).prog (cxI P w K mg base N qual scope f cd A outer s0 H0 E).w) (cxI P w K mg base N qual scope f cd A outer s0 H0 E).A (cxI P w K mg base N qual scope f cd A outer s0 H0 E).env (cxI P w K mg base N qual scope f cd A outer s0 H0 E).xe:=by
 rintro ev s' ⟨e,C,od,B,H',rfl,I,tr,he,hE⟩;refine oy fr rfl I.kb I.nb I.ff tr λh1 f1 m1=>?_;have I1:=I.step f1.1 f1.2.2.1 m1;obtain⟨vs,sl,T,oT,ts,qe,q1,_⟩:=id f1.2.2.2;show wpAny _ _ _ _ _ _;refine q8 (qq (s:={ s' with heap:=h1 }) qe rfl q1 ?_);rw[qg (show ¬((Value.ref T == Value.none)=true) from by simp)];refine zN (s:={ s' with heap:=h1 }) (L:=(envOfC qual scope s0.heap.objs.size f cd).locals) f1 λh2 f2 m2=>?_;exact⟨e,C,od,B,H',rfl,I1.step f2.1 f2.2.2.1 m2,.inr (.inr f2.2.2.2),he,hE⟩
def oA(fr:(A.deeper (envOfC qual scope s0.heap.objs.size f cd)).frames=some (envOfC qual scope s0.heap.objs.size f cd :: outer))(h:ox (QO (CXD P w) P w K mg base N qual scope f cd A outer s0 H0 E) E ev s'):(QO (CXD P w) P w K mg base N qual scope f cd A outer s0 H0 E).xe ev s':=by
 obtain⟨e,C,od,B,H',rfl,I,tr,he,hE⟩:=h;show wpAny _ _ (leaving _ (.ref e)) _ _ s';unfold leaving;refine q8 (oy fr rfl I.kb I.nb I.ff tr λh1 f1 m1=>?_);have I1:=I.step f1.1 f1.2.2.1 m1;refine zK (s:={ s' with heap:=h1 }) f1 λh2 f2 m2=>?_;have I2:=I1.step f2.1 f2.2.2.1 m2;obtain⟨a,b,⟨_,_,d⟩,t⟩:=f2;exact⟨e,C,od,B,H',rfl,I2.os,I2.bare,I2.un,I2.hok,⟨a,b,d,t⟩,I2.inB,he,hE⟩
end
section
variable {P:J1}{w:J2}{K:xt}{mg:xq}{base:Heap}{N:xy}{qual:Str}{scope:Scope}{f:J0}{cd:xY}{A:J3}{outer:List Env}{s0:xZ}{H0:Hp}{E:XK}
def zP:∀b∈frs l,b∈(env :: l).filterMap (·.frame):=λb hb=>by
 obtain⟨v,hv,e⟩:=List.mem_filterMap.mp hb;exact List.mem_filterMap.mpr ⟨v,jS _ hv,e⟩
def Jz:QC (CXD P w) (cxI P w K mg base N qual scope f cd A outer s0 H0 E) E:=by
 intro xB σ H s ev s' I0 h;have I:=I0.unwish;obtain⟨e,C,od,B,H',rfl,hos,hg,u,hok,fl,hB,he,hE⟩:=h;have I':=I.call' (s':=s') (ch:=[]) hos u hok hg (λ_ z=>nomatch z)
 have inB:∀b ob,s'.heap.get? b=some ob->((H' b).isSome=true\/(s0.heap.get? b).isSome=true)->b∉frs outer->B.get? b=some ob:=λb ob q c nb=>by
  refine hB b ob q ?_ (I'.off c nb);rcases c with c | c
  . exact .inl c
  . obtain⟨o1,e1⟩:=I.old rfl (.inr c);exact .inr (by rw[e1];rfl)
 exact⟨e,C,od,B,H',rfl,⟨I'.os,I'.bare,I'.base,I'.hok,fl.1,fl.2.1,fl.2.2.1,inB,λb ob q c=>hB b ob q (.inl c) (I'.noFr c),zP⟩,.inr (.inl fl.2.2.2),he,hE⟩
def X9(hi:PI (cxI P w K mg base N qual scope f cd A outer s0 H0 E) tg iter wi)(hg:PG (cxI P w K mg base N qual scope f cd A outer s0 H0 E) tg g)(hb:PSs (cxI P w K mg base N qual scope f cd A outer s0 H0 E) body tb)
 (hs:∀x,foldedSetIterable iter (cxI P w K mg base N qual scope f cd A outer s0 H0 E).env x=pure x:=by intro _;rfl):PS (cxI P w K mg base N qual scope f cd A outer s0 H0 E) (.For tg iter body [] pos) (iH wi g tb) :=
 λxB s σ H D I h=>Zc (zO I.ok.frames) rfl hi hg hb hs xB s σ H D I h
end
structure MFn (K:xt) (C:J0) (m qual:Str) (st:Stmt) (ps:xy):Prop where
 ex:∃f fd,Fun K m qual st f fd/\Meth K C m f/\Binds K fd ps []
structure DefM (P:J1) (w:J2) (K:xt) (mg:xq) (base:Heap) (C:J0) (m:Str) (k:Nat) (ps:xy) (sp:Sp):Prop where
 ex:∃f fd,Meth K C m f/\FnOk P w K mg base (CXD P w) k f fd ps sp/\Binds K fd ps []
section
variable {P:J1}{w:J2}{K:xt}{mg:xq}{base:Heap}
def Fun.ok3{x qual:Str}{st:Stmt}{f:J0}{fd:FuncData}{N ps:xy}{k:Nat}{sp:Sp}(F:Fun K x qual st f fd)(S:FnScope N ps (defScope st))(len:∀vs H Q E,sp vs H Q E->vs.length=ps.length)
 (xL:∀(xD:xY) (A:J3) (outer:List Env) (s:xZ) (H:Hp) (vs:List V) (Q:VK) (E:XK),Room k (A.deeper (envOfC qual (defScope st) s.heap.objs.size f xD))->sp vs H Q E ->
  ∃t,PSs (cxI P w K mg base N qual (defScope st) f xD A outer s H E) (defBody st) t/\t { nx:=λ_ H'=>Q .non H',rt:=Q } (JS N vs) H):FnOk P w K mg base (CXD P w) (k + 1) f fd ps sp:=by
 obtain⟨oc,od,kV,xQ,pm,an,xD,ct,osl,rfl,lk,hcd⟩:=F.ex;refine dO lk hcd S len λA outer s H vs Q E hr hsp=>?_;obtain⟨t,ht,hq⟩:=xL xD A outer s H vs Q E hr hsp;refine⟨t,λxB s1 σ H1 D I q=>?_,hq⟩;exact qQ (ht xB s1 σ H1 D (I.wish _) q) (λfl s2 z=>z.unwish) (λev s2 z=>oA I.ok.frames z)
theorem MFn.ok3{C:J0}{m qual:Str}{st:Stmt}{N ps:xy}{k:Nat}{sp:Sp}(F:MFn K C m qual st ps)(S:FnScope N ps (defScope st))(len:∀vs H Q E,sp vs H Q E->vs.length=ps.length)
 (xL:∀(f:J0) (xD:xY) (A:J3) (outer:List Env) (s:xZ) (H:Hp) (vs:List V) (Q:VK) (E:XK),Room k (A.deeper (envOfC qual (defScope st) s.heap.objs.size f xD))->sp vs H Q E ->
  ∃t,PSs (cxI P w K mg base N qual (defScope st) f xD A outer s H E) (defBody st) t/\t { nx:=λ_ H'=>Q .non H',rt:=Q } (JS N vs) H):DefM P w K mg base C m (k + 1) ps sp:=by
 obtain⟨f,fd,FF,M,b⟩:=F.ex;exact⟨f,fd,M,FF.ok3 S len (xL f),b⟩
end
section
variable {X:Cx}{C:J0}{k j:Nat}{ps:xy}{sp:Sp}{E:XK}{m x:Str}{apos pos p:Pos}{e o:Expr}{es:List Expr}{ta:TE}{t:TA}
def JX{pl:Sem Bool}(D:DefM X.prog X.w X.K X.mg X.base C m j ps sp)(c:Cls X.K C)(hr:Room k X.A)(hx:QC (CXD X.prog X.w) X E)(ho:PE X o ta)(ha:PA X (e :: es) t)(hjk:j<=k:=by decide)
 (xX:starEach (e :: es) X.env=(false,eval e X.env) :: starEach es X.env:=by rfl) (hpl:(backTo pos (starEach es X.env)).any (·.1)=false:=by rfl)
 (ht:eval (.Call (.Attribute o m apos) (e :: es) [] pos) X.env=(do
  let ov <- eval o X.env
  standAt apos.atName
  let (f,first) <- holding [ov] (getMethod ov m pl)
  callWith pos f first (backTo pos (starEach (e :: es) X.env)) (backToKw pos (keywordEach [] X.env))):=by rfl):PE X (.Call (.Attribute o m apos) (e :: es) [] pos) (dM C m sp [] E ta t):=by
 obtain⟨f,fd,M,F,b⟩:=D.ex;exact uT (pl:=pl) ho c M F (hr.mono hjk) b .nil hx ha xX hpl ht
structure NewC (P:J1) (w:J2) (K:xt) (mg:xq) (base:Heap) (x:Str) (C:J0) (k:Nat) (ps:xy) (sp:Sp):Prop where
 nm:mg x=some (.ref C)
 ex:∃f fd,Mk K C f/\FnOk P w K mg base (CXD P w) k f fd ps sp/\Binds K fd ps []
def XY(D:NewC X.prog X.w X.K X.mg X.base x C j ps sp)(hr:Room k X.A)(hg:Gl X x)(hx:QC (CXD X.prog X.w) X E)(ha:PA X (e :: es) t)(hjk:j + 1<=k:=by decide)(hdb:(x == ("__debug__" : Str))=false:=by decide)
 (he:starEach (e :: es) X.env=(false,eval e X.env) :: starEach es X.env:=by rfl) (hpl:(backTo pos (starEach es X.env)).any (·.1)=false:=by rfl):PE X (.Call (.Name x p) (e :: es) [] pos) (ZE C sp [] E t):=by
 obtain⟨f,fd,M,F,b⟩:=D.ex;exact uV M F (hr.mono hjk) hg D.nm b .nil hx ha hdb he hpl
end
structure IFn (K:xt) (mg:xq) (x:Str) (C:J0) (qual:Str) (st:Stmt) (ps:xy):Prop where
 nm:mg x=some (.ref C)
 ex:∃f fd,Fun K "__init__" qual st f fd/\Mk K C f/\Binds K fd ps []
def IFn.new{P:J1}{w:J2}{K:xt}{mg:xq}{base:Heap}{x qual:Str}{C:J0}{st:Stmt}{ps:xy}{k:Nat}{sp:Sp}(I:IFn K mg x C qual st ps)(h:∀f fd,Fun K "__init__" qual st f fd->FnOk P w K mg base (CXD P w) k f fd ps sp):NewC P w K mg base x C k ps sp:=by
 obtain⟨f,fd,F,M,b⟩:=I.ex;exact⟨I.nm,f,fd,M,h f fd F,b⟩
inductive NK where
 | lf (v:Int) | qn (q:Int) (ns:xA)
 deriving DecidableEq
structure FunD (K:xt) (x qual:Str) (st:Stmt) (f:J0) (fd:FuncData) (dv:xY):Prop where
 ex:∃(T:J0) (To:xY) (Td:Option J0) (Tn:Nat) (Ts:Array (xu)) (oc:xY) (od:Option J0) (kV xQ pm:xY) (an:Option J0) (xD ct:xY) (osl:Array (xu)),
  fd=PySem.W.fnOf x qual (defArgs st) (defBody st) (defScope st) (.ref T) kV xQ pm an xD ct/\K.lookup f=some ⟨oc,od,.func fd,osl⟩/\PySem.W.codeIn K xD qual=true/\K.lookup T=some ⟨To,Td,.seq #[dv] Tn,Ts⟩
section
variable {P:J1}{w:J2}{K:xt}{mg:xq}{base:Heap}
def FunD.ok3{x qual:Str}{st:Stmt}{f:J0}{fd:FuncData}{dv:xY}{N ps:xy}{k:Nat}{sp:Sp}(F:FunD K x qual st f fd dv)(S:FnScope N ps (defScope st))(len:∀vs H Q E,sp vs H Q E->vs.length=ps.length)
 (xL:∀(xD:xY) (A:J3) (outer:List Env) (s:xZ) (H:Hp) (vs:List V) (Q:VK) (E:XK),Room k (A.deeper (envOfC qual (defScope st) s.heap.objs.size f xD))->sp vs H Q E ->
  ∃t,PSs (cxI P w K mg base N qual (defScope st) f xD A outer s H E) (defBody st) t/\t { nx:=λ_ H'=>Q .non H',rt:=Q } (JS N vs) H):FnOk P w K mg base (CXD P w) (k + 1) f fd ps sp:=by
 obtain⟨T,To,Td,Tn,Ts,oc,od,kV,xQ,pm,an,xD,ct,osl,rfl,lk,hcd,_⟩:=F.ex;refine dO lk hcd S len λA outer s H vs Q E hr hsp=>?_;obtain⟨t,ht,hq⟩:=xL xD A outer s H vs Q E hr hsp;refine⟨t,λxB s1 σ H1 D I q=>?_,hq⟩;exact qQ (ht xB s1 σ H1 D (I.wish _) q) (λfl s2 z=>z.unwish) (λev s2 z=>oA I.ok.frames z)
def FunD.binds{x qual:Str}{st:Stmt}{f:J0}{fd:FuncData}{dv:xY}{ps:xy}(F:FunD K x qual st f fd dv){ds:xx}
 (h:∀(T:J0) (kV xQ pm:xY) (an:Option J0) (xD ct:xY) (us:xx),(us ++ ds).length=ps.length->∃k,bindArgs (PySem.W.fnOf x qual (defArgs st) (defBody st) (defScope st) (.ref T) kV xQ pm an xD ct) ⟨us,[]⟩=seqItems? (.ref T) >>= k/\k (some #[dv])=pure (ps.zip (us ++ ds))):Binds K fd ps ds:=by
 obtain⟨T,To,Td,Tn,Ts,oc,od,kV,xQ,pm,an,xD,ct,osl,rfl,lk,hcd,lT⟩:=F.ex;intro s us hK hl;obtain⟨k,h1,h2⟩:=h T kV xQ pm an xD ct us hl;exact BindsTo.of_defaults (T:=T) rfl (hK _ _ lT) rfl h1 h2
end
structure FnD (K:xt) (mg:xq) (x:Str) (st:Stmt) (ps:xy) (d:V):Prop where
 ex:∃f fd dv,FunD K x x st f fd dv/\Binds K fd ps []/\Binds K fd ps [dv]/\RelV d dv/\PySem.W.keepIn K (.ref f)=true/\mg x=some (.ref f)
structure DefD (P:J1) (w:J2) (K:xt) (mg:xq) (base:Heap) (x:Str) (k:Nat) (ps:xy) (d:V) (sp:Sp):Prop where
 ex:∃f fd dv,FnOk P w K mg base (CXD P w) k f fd ps sp/\Binds K fd ps [dv]/\RelV d dv/\PySem.W.keepIn K (.ref f)=true/\mg x=some (.ref f)
section
variable {P:J1}{w:J2}{K:xt}{mg:xq}{base:Heap}
theorem FnD.ok3{x:Str}{st:Stmt}{N ps:xy}{k:Nat}{d:V}{sp:Sp}(F:FnD K mg x st ps d)(S:FnScope N ps (defScope st))(len:∀vs H Q E,sp vs H Q E->vs.length=ps.length)
 (xL:∀(f:J0) (xD:xY) (A:J3) (outer:List Env) (s:xZ) (H:Hp) (vs:List V) (Q:VK) (E:XK),Room k (A.deeper (envOfC x (defScope st) s.heap.objs.size f xD))->sp vs H Q E ->
  ∃t,PSs (cxI P w K mg base N x (defScope st) f xD A outer s H E) (defBody st) t/\t { nx:=λ_ H'=>Q .non H',rt:=Q } (JS N vs) H):Def2 P w K mg base x (k + 1) ps sp/\DefD P w K mg base x (k + 1) ps d sp:=by
 obtain⟨f,fd,dv,FF,b0,b1,r,kp,m⟩:=F.ex;have ok:=FF.ok3 (k:=k) (sp:=sp) S len (λxD A outer s H vs Q E hr h=>xL f xD A outer s H vs Q E hr h);exact⟨⟨f,fd,ok,b0,kp,m⟩,⟨f,fd,dv,ok,b1,r,kp,m⟩⟩
end
section
variable {X:Cx}{k j:Nat}{ps:xy}{sp:Sp}{x:Str}{p pos:Pos}{e:Expr}{es:List Expr}{t:TA}{E:XK}{d:V}
def zQ(D:DefD X.prog X.w X.K X.mg X.base x j ps d sp)(hr:Room k X.A)(hg:Gl X x)(hx:QC (CXD X.prog X.w) X E)(ha:PA X (e :: es) t)(hjk:j<=k:=by decide)(hdb:(x == ("__debug__" : Str))=false:=by decide)
 (he:starEach (e :: es) X.env=(false,eval e X.env) :: starEach es X.env:=by rfl) (hpl:(backTo pos (starEach es X.env)).any (·.1)=false:=by rfl) :
 PE X (.Call (.Name x p) (e :: es) [] pos) (ZD sp [d] E t):=by
 obtain⟨f,fd,dv,F,b,r,kp,m⟩:=D.ex;exact iX F (hr.mono hjk) hg m kp b (.cons r .nil) hx ha hdb he hpl
end
end L2
namespace HT
open PySem PySem.Spec PyProof.Rows
section
variable {prog:J1}{w:J2}{A:J3}{E:xp}{s:xZ}
theorem getItem_tuple_whole{items:xw}{lo hi:Option Int}{Q:xp}(ht:IsTup s.heap t items)(hs:s.heap.IsSliceOf sl vl vu .none)(pl:IsPart vl lo)(pu:IsPart vu hi)
 (hw:sIx items.size 0 lo=0/\sIx items.size items.size hi=items.size) (h:Q (.ref t) s):wpAny (model prog w) A (getItem (.ref t) (.ref sl)) Q E s:=by
 obtain⟨os,hos,hcs,hds⟩:=id hs;have hTs:s.TypeIs (.ref sl) "slice" := ⟨os,hos,hcs⟩;unfold getItem
 try with_reducible refine qK ?_
 first | refine q8 (qf ?_) | skip
 refine q8 (wpAny_sequenceKey ht.typeIs 'f' ?_)
 refine q8 (qJ (name:=Str.ofString "__getitem__") ht.typeIs PyProof.Rows.slot_tuple_getitem
  (qL PyProof.Rows.slot_tuple_getitem ht.typeIs entry_tuple_getitem ?_ (args_tuple_getitem _ _)))
 show wpAny _ _ (Builtin.Tuple.tupleItemsOf (.ref t) >>= _) _ _ s;refine q8 (tupleItemsOf_ ht ?_);refine q8 (xa hTs ?_);rw[qh 'f'];refine q8 (lq hs pl pu ?_)
 have hyes:(((sIx items.size 0 lo:Nat):Int) == 0 && (1:Int) == 1 && (sIx items.size items.size hi - sIx items.size 0 lo) == items.size)=true:=by
  rw[hw.1,hw.2];simp
 show wpAny _ _ (if (((sIx items.size 0 lo:Nat):Int) == 0 && (1:Int) == 1 && (sIx items.size items.size hi - sIx items.size 0 lo) == items.size)=true then _ else _) _ _ s;rw[qh hyes];have hx:Builtin.Tuple.tupleIsExact (.ref t)=(typeOf (.ref t) >>= λv=>pure (v == .type "tuple")):=rfl;refine q8 (Q:=_) ?_;rw[hx];refine q8 (xa ht.typeIs (qf ?_));rw[qh 'f'];refine q8 (x9 ?_);exact qf ⟨_,rfl,qf h⟩
end
end HT
namespace L2
open PySem PySem.Spec PyProof.Rows
section
variable {X:Cx}
def oB(K:xt):V->Option Int->Option Int->Hp->VK->Prop:=λx lo hi H Q=>∃a xs,x = .ref a/\SqT K H a xs /\
 ((HT.sIx xs.length 0 lo=0/\HT.sIx xs.length xs.length hi=xs.length)->Q (.ref a) H)/\(¬(HT.sIx xs.length 0 lo=0/\HT.sIx xs.length xs.length hi=xs.length)->∀p,H p=none->Q (.ref p) (upd H p (.tup (JT xs lo hi))))
def oC(K:xt)(hK:X.K=K):SlR X (oB K):=by
 subst hK;intro xB s σ H x v vl vu lo hi sl Q I rx hs pl pu h;obtain⟨a,xs,rfl,hx,q1,q2⟩:=h
 by_cases hw:HT.sIx xs.length 0 lo=0/\HT.sIx xs.length xs.length hi=xs.length
 . cases rx
   obtain⟨its,r,ht,hz⟩:=I.tuple hx;have xH:its.toArray.size=xs.length:=by rw[jH];exact r.length.symm
   exact⟨"tuple",_,PyProof.Rows.slot_tuple_getitem.lookup,ht.typeIs,HT.getItem_tuple_whole ht hs pl pu (by rw[xH];exact hw) ⟨.ref a,H,I,rfl,q1 hw⟩⟩
 . exact lA xB s σ H (.ref a) v vl vu lo hi sl Q I rx hs pl pu ⟨a,xs,rfl,hx,hw,q2 hw⟩
end
section
variable {X:Cx}{a b c d:Expr}{ta tb tc td:TE}{pos:Pos}{x1:_}
def oE:PE X (.Tuple [] x1 pos) (Zd JR):=JV J6
def zR(ha:PE X a ta)(h1:Pl X a []):PE X (.Tuple [a] x1 pos) (Zd (Jy ta JR)):=JV (Jd ha J6 h1)
def bo{e:Expr}{te:TE}(he:PE X e te):PS X (.Return (some e) pos) (dB te):=Ji he
end
def fC(t:TA):TE:=λσ H Q=>t σ H λxs H1=>xs.length<=sizeLine/\∀p o,H1 p=none->o.dict=none->Q (.ref p) (upd H1 p (.frz o (.tup xs)))
section
variable {X:Cx}{a b c d:Expr}{ta tb tc td:TE}{pos:Pos}{x1:_}
def oF(h:PA X es t):PE X (.Tuple es x1 pos) (fC t):=by
 intro xB s σ H Q I hq;refine wpAny_Tuple_spliced (thn (h pos xB s σ H _ I hq) λus s1 fv=>?_);obtain⟨xs,H1,I1,r,z,q⟩:=fv;refine ⟨by rw[<- r.length];exact z,?_⟩;have hf:H1 s1.heap.objs.size=none:=I1.hok.fresh (jD _);refine⟨.ref s1.heap.objs.size,upd H1 s1.heap.objs.size (.frz { cls := .type "tuple",data := .seq us.toArray } (.tup xs)),I1.laid (t':=s1.toks) (λb u e=>jB _ e) (jD _) ?_,rfl,q _ _ hf rfl⟩;exact⟨jK _ rfl,z,us,r,IsTup.new _ _⟩
def oG:PE X (.Tuple [] x1 pos) (fC JR):=oF J6
def zS(ha:PE X a ta)(h1:Pl X a []):PE X (.Tuple [a] x1 pos) (fC (Jy ta JR)):=oF (Jd ha J6 h1)
end
section
variable {H0:Hp}{σ:St}{te:TE}{i n m:Nat}{sep:Str}{ts:xy}
theorem fD{K:xt}{H:Hp}:∀{ns:xy}{ys:List V},IsDs K H (ns.map D.str) ys->ys=ns.map V.str
 | [],_,h=>h
 | _ :: ns,_,⟨x,r,e1,e2,e3⟩=>by
  have e2:x = .str _:=e2;have e3:=fD (ns:=ns) e3;rw[e1,e2,e3];rfl
end
section
variable {X:Cx}
def zT:V->List V->Hp->VK->Prop:=λx vs H Q=>∃l b xs zs,x = .ref l/\vs=[.ref b]/\H l=some (.lst xs)/\Rd H b (.lst zs)/\xs.length + zs.length<=sizeLine/\Q .non (upd H l (.lst (xs ++ zs)))
def zU:MtM X "list.extend" zT:=by
 intro xB s σ H x vs v us Q I rx rv h;obtain⟨l,b,xs,zs,rfl,rfl,hH,hB,hz,q⟩:=h
 cases rx
 obtain⟨u,rfl,ru⟩:=rv.one
 cases ru
 obtain⟨z,its,n,r,hl,e⟩:=I.lstM hH;obtain⟨z2,its2,n2,r2,e2⟩:=hB.ok I.hok;have hl2:=r2.length;have hsz:its.toArray.size + its2.toArray.size<=sizeLine:=by rw[jH,jH];omega
 have hlong:¬(!its.toArray.isEmpty && Builtin.List.listTooLong (its.toArray.size + its2.toArray.size))=true:=by
  rw[lJ hsz,Bool.and_false];exact jR
 refine call_meets F.slot_list_extend ⟨_,e,rfl⟩ F.entry_list_extend (F.args_list_extend_2 _ _)
  (AutoSeq1.list_extend_list_list_0 l its.toArray n b its2.toArray n2 hlong (by rw[jH];omega) 'd') ⟨e,e2,?_⟩
 refine⟨.non,_,I.lset (its':=its ++ its2) hH e 'j' (r.append r2) ?_,rfl,q⟩;rw[jI];omega
end
end L2
namespace L2
open PySem
section
variable {prog:J1}{w:J2}{J:Type} [DecidableEq J] {knd:HeapKind prog w J}{A:J3}{E:xp}{s:xZ}
def zV(knd:HeapKind prog w J)(d:J0)(hd:(d == sysModules)=false):MeetsIn prog w (Builtin.«dict.__len__» ⟨[.ref d],[]⟩) (λ_ R s=>∃xs,s.heap.DictOfH knd d xs/\R (.ok (.ret (.int xs.length s.toks))) { s with toks:=s.toks + 1 }) :=
 .of_wp λA R s h=>by
  obtain⟨xs,⟨o,es,ep,ho,_,xV,he,_,_⟩,q⟩:=h;have e:=size_of_entries (knd:=knd) he;show wpAny _ _ (dictSize d >>= _) _ _ s;unfold dictSize;refine q8 (q8 (wpAny_dictEntries ho xV (qf ?_)));show wpAny _ _ (Builtin.Dict.pendingCount d >>= _) _ _ s;refine q8 (wpAny_pendingCount_other hd (wpAny_ret_mkInt ?_));rw[e];exact q
def zW(hd:(d == sysModules)=false)(hm:s.heap.DictOfH knd d xs)(hf:(xs.length:Int) < 2 ^ 63)(h:Q (.int xs.length (s.toks + 1)) { s with toks:=s.toks + 1 + 1 }):wpAny (model prog w) A (call (.builtin "len") [.ref d]) Q E s:=by
 refine Calls.call_function_entry kind_len plain_len entry_len (args_len1 _) ?_;unfold Builtin.«len»;refine q8 (m:=oneArg "len" _) (qf ?_);refine q8 (m:=callSpecial? (.ref d) (Str.ofString "__len__")) (qJ (name:=Str.ofString "__len__") hm.typeIs PySem.F.slot_dict_len (call_meetsIn PySem.F.slot_dict_len hm.typeIs PySem.F.entry_dict_len (PySem.F.args_dict_len_1 _) (zV knd d hd) ⟨xs,hm,?_⟩));show wpAny _ _ _ _ _ { s with toks:=s.toks + 1 };refine q8 (qK (qf (q8 (wpAny_letGo ?_))));have n1:¬((xs.length:Nat):Int) < 0:=by omega
 have n2:¬((xs.length:Nat):Int) ≥ 2 ^ 63:=by omega
 show wpAny _ _ (if ((xs.length:Nat):Int) < 0 then _ else _) _ _ _;rw[qg n1];show wpAny _ _ (if ((xs.length:Nat):Int) ≥ 2 ^ 63 then _ else _) _ _ _;rw[qg n2];exact q8 (wpAny_mkInt (qf ⟨_,rfl,h⟩))
end
section
variable {X:Cx}
def zX:Q7 X (.builtin "len") (λxs H Q=>∃a kvs,xs=[V.ref a]/\H a=some (.dT kvs)/\Q (.int kvs.length) H):=λxB s σ H xs us Q I r ⟨a,kvs,e,ha,q⟩=>by
 subst e;obtain⟨u,rfl,ru⟩:=Qj r
 cases ru
 obtain⟨z,hd,vs,rel,dd⟩:=lU I.hok ha;have el:vs.length=kvs.length:=rel.length.symm;refine zW hd dd (by rw[qR]at z;omega) ⟨.int _,H,I.tok _,⟨_,by rw[el]⟩,q⟩
end
end L2
namespace L2
open PySem PySem.Spec PyProof.Rows
structure ClsM (K:xt) (C:J0) (m:Str) (f:J0):Prop where
 sg:PySem.W.specialIn K (.ref C) "__getattribute__" = some (some (.builtin "type.__getattribute__"))
 rd:PySem.W.readsIn K C (.type "type")=true
 fc:PySem.W.findCls K (.ref C) (.type "type") m=some (.val (.ref f))
 kp:PySem.W.keepIn K (.ref f)=true
structure CFn (K:xt) (mg:xq) (x:Str) (C:J0) (m qual:Str) (st:Stmt) (ps:xy):Prop where
 nm:mg x=some (.ref C)
 ex:∃f fd,Fun K m qual st f fd/\ClsM K C m f/\Binds K fd ps []
structure DefC (P:J1) (w:J2) (K:xt) (mg:xq) (base:Heap) (x:Str) (C:J0) (m:Str) (k:Nat) (ps:xy) (sp:Sp):Prop where
 nm:mg x=some (.ref C)
 ex:∃f fd,ClsM K C m f/\FnOk P w K mg base (CXD P w) k f fd ps sp/\Binds K fd ps []
theorem CFn.ok3{P:J1}{w:J2}{K:xt}{mg:xq}{base:Heap}{x:Str}{C:J0}{m qual:Str}{st:Stmt}{N ps:xy}{k:Nat}{sp:Sp}(F:CFn K mg x C m qual st ps)(S:FnScope N ps (defScope st))(len:∀vs H Q E,sp vs H Q E->vs.length=ps.length)
 (xL:∀(f:J0) (xD:xY) (A:J3) (outer:List Env) (s:xZ) (H:Hp) (vs:List V) (Q:VK) (E:XK),Room k (A.deeper (envOfC qual (defScope st) s.heap.objs.size f xD))->sp vs H Q E ->
  ∃t,PSs (cxI P w K mg base N qual (defScope st) f xD A outer s H E) (defBody st) t/\t { nx:=λ_ H'=>Q .non H',rt:=Q } (JS N vs) H):DefC P w K mg base x C m (k + 1) ps sp:=by
 obtain⟨f,fd,FF,M,b⟩:=F.ex;exact⟨F.nm,f,fd,M,FF.ok3 S len (xL f),b⟩
section
variable {X:Cx}{C:J0}{k j:Nat}{ps:xy}{sp:Sp}{E:XK}{m x:Str}{apos pos p:Pos}{e:Expr}{es:List Expr}{t:TA}
def zY{pl:Sem Bool}(D:DefC X.prog X.w X.K X.mg X.base x C m j ps sp)(hr:Room k X.A)(hg:Gl X x)(hx:QC (CXD X.prog X.w) X E)(ha:PA X (e :: es) t)(hjk:j<=k:=by decide)(hdb:(x == ("__debug__" : Str))=false:=by decide)
 (xX:starEach (e :: es) X.env=(false,eval e X.env) :: starEach es X.env:=by rfl) (hpl:(backTo pos (starEach es X.env)).any (·.1)=false:=by rfl)
 (ht:eval (.Call (.Attribute (.Name x p) m apos) (e :: es) [] pos) X.env=(do
  let ov <- eval (.Name x p) X.env
  standAt apos.atName
  let (f,first) <- holding [ov] (getMethod ov m pl)
  callWith pos f first (backTo pos (starEach (e :: es) X.env)) (backToKw pos (keywordEach [] X.env))):=by rfl):PE X (.Call (.Attribute (.Name x p) m apos) (e :: es) [] pos) (ZD sp [] E t):=by
 obtain⟨f,fd,M,F,b⟩:=D.ex;intro xB s σ H Q I h;refine PySem.W.methodCall_KW (pl:=pl) (dm I hg D.nm ?_ hdb) ht;refine PySem.W.method_cls I.kIn M.sg (PySem.W.cls_value I.kIn M.rd M.fc rfl ?_);have I':=I.tok (s.toks + 1);refine PySem.W.callWith_K (first:=[]) (h₀:=X.base) I.ok.mod.kin M.kp (thn (ha pos xB _ σ H _ I' h) λus s2 fv=>?_) xX hpl;obtain⟨vs,H2,I2,r,q2⟩:=fv;refine ⟨I2.kIn,?_⟩;exact dN F (hr.mono hjk) b .nil hx I2 r q2
end
end L2
namespace L2
open PySem PySem.W PySem.Spec PyProof.Rows
section
variable {X:Cx}{xB:xr}{σ:St}{H:Hp}{s:xZ}{a:J0}{kvs:List (List Key×V)}
theorem Inv.freezeT(I:Inv X xB σ H s)(e:H a=some (.dT kvs)):∃o,s.heap.get? a=some o/\Inv X xB σ (upd H a (.frz o (.dT kvs))) s:=by
 have ok:=(show ObjOk X.prog X.w H s.heap a (.dT kvs) from I.hok a _ e);obtain⟨z1,hd,xs,kt,o,es,ep,ho,r⟩:=id ok;refine⟨o,ho,?_⟩;refine I.write (x:=a) (e:=a) (o := .frz o (.dT kvs)) (h':=s.heap) (t':=s.toks) (by rw[e];exact True.intro) (.inl rfl) (λb u _ q=>q) ⟨o,ho⟩ ⟨ho,?_⟩;exact ok.stay (λ_ _ _ q=>q) (λb q=>by rw[Jb (λz=>by rw[z,e]at q;cases q)];exact q) λb ys q=>by rw[Jb (λz=>by rw[z,e]at q;cases q)];exact q
def Inv.thawT(I:Inv X xB σ H s)(e:H a=some (.frz o (.dT kvs)))(n0:∀o u,X.H₀ a≠some (.frz o u)):Inv X xB σ (upd H a (.dT kvs)) s:=by
 have ne:∀b,H b=none->b≠a:=λb hb z=>by rw[z,e]at hb;cases hb
 have st:∀{b:J0}{u:HO},ObjOk X.prog X.w H s.heap b u->ObjOk X.prog X.w (upd H a (.dT kvs)) s.heap b u:=λok=>ok.stay (λ_ _ _ q=>q) (λc r=>by rw[Jb (λz=>by rw[z,e]at r;cases r)];exact r) λc xs r=>by rw[Jb (λz=>by rw[z,e]at r;cases r)];exact r
 refine⟨I.ok,I.os,I.bare,⟨I.base.keep,I.base.slot,λb ob q n hx=>?_,I.base.there,λb xs q=>?_,λb ob u q=>?_,λb ps q=>?_⟩,I.loc,I.cell,?_,λx c ec=>?_,λp hp=>?_,λb u q=>?_,I.len⟩
 . have:=I.base.free b ob q n hx;rw[Jb (ne b this)];exact this
 . have:=I.base.tups b xs q;rw[Jb (λz=>by rw[z,e]at this;cases this)];exact this
 . have:=I.base.frzs b ob u q;rw[Jb (λz:b=a=>n0 ob u (by rw[<- z];exact q))];exact this
 . obtain⟨m,h1⟩:=I.base.tbls b ps q;exact⟨m,by rw[Jb (λz=>by rw[z,e]at h1;cases h1)];exact h1⟩
 . rw[Jb (ne _ I.free)];exact I.free
 . rw[Jb (ne _ (I.freeC x c ec))];exact I.freeC x c ec
 . obtain⟨h1,h2,h3⟩:=I.pin p hp;exact⟨h1,by rw[Jb (ne _ h2)];exact h2,h3⟩
 . by_cases hb:b=a
   . subst hb;rw[J8]at q
     cases q
     exact st (I.hok b _ e).2
   . rw[Jb hb]at q;exact st (I.hok b u q)
def Inv.turnNew1{h':Heap}{t':Nat}{it c:J0}{o:HO}(I:Inv X xB σ H s)(f:FpOk X xB H it)(k:∀b u,b≠it->s.heap.get? b=some u->h'.get? b=some u)(hp:s.heap.objs.size<=c)
 (new:ObjOk X.prog X.w (upd H c o) h' c o):Inv X xB σ (upd H c o) { s with heap:=h',toks:=t' }:=I.turnNew (e:=it) (it:=it) (λb hb=>(show b=it by simpa using hb) ▸ f) (λb u h1 _ q=>k b u h1 q) hp new
end
def Iti(a:J0)(o:Obj)(kvs:List (List Key×V)):It :=
 ⟨λi H=>H a=some (.frz o (.dT kvs))/\i < kvs.length,λi H x H'=>∃p t kv,H p=none/\x = .ref p/\kvs[i]? = some kv/\H t=some (.tup (kv.1.map kV))/\H'=upd H p (.tup [.ref t,kv.2]),λi H=>H a=some (.frz o (.dT kvs))/\kvs.length<=i⟩
def oH(x:ObjOk P w H h a (.frz o (.dT kvs)))(hd:o.data = .dict es ep) :
 h.get? a=some o/\es.size=kvs.length/\∀(i:Nat) (hi:i < es.size) (kv:List Key×V),kvs[i]? = some kv->∃t,es[i].key = .ref t/\H t=some (.tup (kv.1.map kV))/\RelV kv.2 es[i].val:=by
 obtain⟨ho,z1,_,xs,rel,o2,es2,ep2,h1,h2,h3,he,nd⟩:=x;rw[ho]at h1;cases h1;rw[hd]at h3;cases h3;have hl:es.size=kvs.length:=by rw[rel.length,size_of_entries he]
 refine⟨ho,hl,λi hi kv e=>?_⟩;obtain⟨q,hq,e1,e2,e3⟩:=ZW rel e;have en:es[i]? = some (entryOfKey (tupleKind (JA P w)) q):=by rw[entry_at he,hq];rfl
 rw[jd hi]at en;rw[Option.some.inj en];exact⟨q.2.1,rfl,e2,e3⟩
theorem zZ{P:J1}{w:J2}{K:xt}{elts:List Expr}{x1}{pos:Pos}{a it:J0}{o:Obj}{kvs:List (List Key×V)}{es:Array DictEntry}{ep:Nat}(xV:o.data = .dict es ep) :
 Turn P w K (.Tuple elts x1 pos) (Iti a o kvs) [it] it (λi h=>(∃u v,IsItemIter h it a i es.size ep u v)/\i<=es.size) where
 mem:=by simp
 obj:=λi h st b hb=>by
  have e:b=it:=by simpa using hb
  subst e;obtain⟨⟨u,v,e⟩,_⟩:=st;exact⟨_,e,λv z=>by cases z⟩
 keep:=λi h h' st k=>by
  obtain⟨⟨u,v,e⟩,le⟩:=st;exact⟨⟨u,v,k it 'j' _ e⟩,le⟩
 item:=by
  intro X hP hw hK hc i xB s σ H E I hf st hg;subst hP hw hK;obtain⟨⟨u,v,st⟩,le⟩:=st;obtain⟨e,hi⟩:=hg;obtain⟨ho,hl,hrel⟩:=oH (I.hok a _ e) xV;have hi':i < es.size:=by omega
  have f0:=hf it 'j';have ek:kvs[i]? = some kvs[i]:=jC hi;obtain⟨t,k1,k2,k3⟩:=hrel i hi' _ ek;refine mU ⟨_,_,_,_,st,.inl ⟨rfl,rfl⟩⟩ ⟨o,ho,xV⟩ hi' λg _ tup sz kp out=>⟨_,rfl,wpAny_letOwnedTupleGo_items (out _ _ st) λh2 he2 hs2=>?_⟩;have hs2:Heap.SameBut it g h2:=hs2;have low:it < s.heap.objs.size:=jG st;have tup2:=hs2.extBut _ _ (jn low) tup;have kp2:∀b ob,b≠it->s.heap.get? b=some ob->h2.get? b=some ob:=λb ob hb q=>hs2.extBut b ob hb (kp b ob hb q);have fr:H s.heap.objs.size=none:=I.hok.fresh (jD _)
  have I2:Inv X xB σ (upd H s.heap.objs.size (.tup [.ref t,kvs[i].2])) { s with heap:=h2,toks:=s.toks }:=by
   refine I.turnNew1 f0 kp2 (jD _) ?_;refine⟨by show 2<=sizeLine;decide,[es[i].key,es[i].val],.cons (by rw[k1];rfl) (.cons k3 .nil),?_⟩;exact⟨_,tup2,rfl,_,rfl⟩
  refine⟨.ref s.heap.objs.size,_,I2,rfl,⟨_,t,_,fr,rfl,ek,k2,rfl⟩,⟨⟨_,_,he2⟩,hi'⟩,λb hb=>?_⟩;have eb:b=it:=by simpa using hb
  rw[eb,Jb (jQ low)];exact f0.1
 done:=by
  intro X hP hw hK hc i xB s σ H E I hf st hg;subst hP hw hK;obtain⟨⟨u,v,st⟩,le⟩:=st;obtain⟨e,hi⟩:=hg;obtain⟨ho,hl,hrel⟩:=oH (I.hok a _ e) xV;obtain⟨f0,f1,f2,f3,f4,f5⟩:=hf it 'j';obtain rfl:i=es.size:=by omega
  exact mV (I.ok.hd hc) ⟨_,_,_,_,st,.inl ⟨rfl,rfl⟩⟩ ⟨o,ho,xV⟩ λh' eb=>⟨rfl,I.turned (t':=s.toks) (λb o hb e=>eb b o hb e) f0 f1 f3 f4 f5⟩
 self:=λ_ _ _ _ _ st h=>by
  obtain⟨⟨u,v,e⟩,_⟩:=st;exact kcp_self e h
section
variable {X:Cx}
def A0(te:TE):TI:=λσ H R=>te σ H λx H1=>∃a kvs,x = .ref a/\H1 a=some (.dT kvs)/\∀o,R (Iti a o kvs) (upd H1 a (.frz o (.dT kvs)))
def fE{elts:List Expr}{x1}{tp:Pos}{td:TE}{ap cp:Pos}(ho:PE X o td)
 (xN:attributeBase o "items" X.env (eval o X.env)=eval o X.env:=by rfl) (xO:(ap.endLine == cp.line)=true:=by rfl):PI X (.Tuple elts x1 tp) (.Call (.Attribute o "items" ap) [] [] cp) (A0 td):=by
 intro xB s σ H R I h;refine wpAny_Call_method0_late xN xO (thn (ho xB s σ H _ I h) λv s1 fv=>?_);obtain⟨x,H1,I1,r1,a,kvs,ex,e1,q1⟩:=fv;subst ex;obtain rfl:v=Value.ref a:=r1;obtain⟨t1,t2,t3⟩:=aG I1 (.inr ⟨_,.inl e1⟩);obtain⟨_,_,xs,kt,o1,es,ep,ho1,hd1,xV,_⟩:=(show ObjOk X.prog X.w H1 s1.heap a (.dT kvs) from I1.hok a _ e1);refine⟨"dict", "dict.items",PySem.F.plainAttrs_dict,PySem.F.slot_dict_items,PySem.F.type_dict_items,t1,t2,Calls.callWith_builtin rfl (PySem.evalArgs_none (eS ho1 hd1 t3 ?_))⟩;obtain⟨o2,xR,I2⟩:=I1.freezeT e1;rw[ho1]at xR;cases xR;obtain⟨g,eg⟩:∃g,g=s1.heap.push { cls := .type "dict_items",data := .fields #[.ref a] }:=⟨_,rfl⟩;rw[<- eg];have kp:∀b u,s1.heap.get? b=some u->g.get? b=some u:=λb u q=>by rw[eg];exact jB _ q
 have I3:=I2.kept (h':=g) (t':=s1.toks) kp;refine mW (s:={ s1 with heap:=g }) (es:=es) (ep:=ep) ⟨_,by rw[eg];exact jK _ rfl,rfl,rfl⟩ ⟨o1,kp _ _ ho1,xV⟩ ?_;refine⟨g.objs.size,[g.objs.size],_,_,upd H1 a (.frz o1 (.dT kvs)),rfl,I3.kept (t':=s1.toks) λb o e=>jB _ e,zZ xV,⟨⟨_,_,jK _ rfl⟩,jX _⟩,λb hb=>?_,q1 o1⟩;have e:b=g.objs.size:=by simpa using hb
 subst e;exact I3.fpOk (jD _) (I3.hok.fresh (jD _))
def A1(t:TS):TS:=λD σ H=>∃a kvs,H a=some (.dT kvs)/\t { D with nx:=λxE H'=>∃o,H' a=some (.frz o (.dT kvs))/\D.nx xE (upd H' a (.dT kvs)) } σ H
def fG{st:Stmt}{t:TS}(h:PS X st t):PS X st (A1 t):=by
 intro xB s σ H D I q;obtain⟨a,kvs,e,q⟩:=q
 have n0:∀o u,X.H₀ a≠some (.frz o u):=λo u z=>by
  have:=I.base.frzs a o u z;rw[e]at this;cases this
 refine qQ (h xB s σ H _ I q) (λf s' z=>?_) λ_ _ z=>z
 cases f with
 | next =>
  obtain⟨xE,H',I',o,e',q'⟩:=z;exact⟨xE,_,I'.thawT e' n0,q'⟩
 | _=>exact z
end
def fH{o:Obj}{kvs:List (List Key×V)}{g:TG}{tb:TS}{D:Ends}(Pv:Nat->St->Hp->Prop)(h0:Pv 0 σ H)(hl:∀i σ H,i<=kvs.length->Pv i σ H->H a=some (.frz o (.dT kvs)))
 (hs:∀i kv p t σ H,kvs[i]? = some kv->Pv i σ H->H p=none->H t=some (.tup (kv.1.map kV))->g (.ref p) σ (upd H p (.tup [.ref t,kv.2])) λσ2 H2=>tb { D with nx:=Pv (i + 1),ct:=Pv (i + 1),bk:=D.nx } σ2 H2) (hd:∀σ H,Pv kvs.length σ H->D.nx σ H) :
 ∃W:Nat->Nat->St->Hp->Prop,(∃m,W 0 m σ H)/\∀i m σ H,W i m σ H ->
  ((Iti a o kvs).stop i H/\D.nx σ H)\/((Iti a o kvs).go i H/\∃N:St->Hp->Prop,(∀xE H',N xE H'->∃m',m' < m/\W (i + 1) m' xE H')/\∀x H',(Iti a o kvs).yld i H x H'->g x σ H' λσ2 H2=>tb { D with nx:=N,ct:=N,bk:=D.nx } σ2 H2):=by
 refine⟨λi m σ H=>m=kvs.length - i/\i<=kvs.length/\Pv i σ H,⟨kvs.length,by simp,jX _,h0⟩,?_⟩;rintro i m σ H ⟨rfl,hi,p⟩;have q:=hl i σ H hi p
 by_cases hlt:i < kvs.length
 . refine .inr ⟨⟨q,hlt⟩,Pv (i + 1),λxE H' p'=>⟨kvs.length - (i + 1),by omega,rfl,hlt,p'⟩,λx H' y=>?_⟩;obtain⟨pp,t,kv,np,ex,ek,et,eH⟩:=y;subst ex eH;exact hs i kv pp t σ _ ek p np et
 . have e:i=kvs.length:=by omega
   subst e;exact .inl ⟨⟨q,jD _⟩,hd σ H p⟩
end L2
namespace L2
open PySem PySem.Spec PyProof.Rows
section
variable {X:Cx}
def oJ{xs:List V}{lo hi:Option Int}(h:HT.sIx xs.length 0 lo=0/\HT.sIx xs.length xs.length hi=xs.length):JT xs lo hi=xs:=by
 unfold JT;rw[h.1,h.2,kO,qG,jk]
def A2:V->Option Int->Option Int->Hp->VK->Prop:=λx lo hi H Q=>∃a xs,x = .ref a/\TupZ H a xs/\∀p H',Same H H'->TupZ H' p (JT xs lo hi)->Q (.ref p) H'
def oK:SlR X A2:=by
 intro xB s σ H x v vl vu lo hi sl Q I rx hs pl pu h;obtain⟨a,xs,rfl,hx,q⟩:=h
 cases rx
 obtain⟨its,r,ht,hz⟩:=I.tuple (hx.sq (K:=X.K));have xH:its.toArray.size=xs.length:=by rw[jH];exact r.length.symm
 refine⟨"tuple",_,PyProof.Rows.slot_tuple_getitem.lookup,ht.typeIs,?_⟩
 by_cases hw:HT.sIx xs.length 0 lo=0/\HT.sIx xs.length xs.length hi=xs.length
 . exact HT.getItem_tuple_whole ht hs pl pu (by rw[xH];exact hw) ⟨.ref a,H,I,rfl,q a H (Same.refl _) (by rw[oJ hw];exact hx)⟩
 . refine HT.getItem_tuple_cut ht hs pl pu (by rw[xH];exact hw) ?_ (by rw[xH];exact hz);rw[xH];have fr:=I.hok.fresh (jD s.heap.objs.size);refine⟨.ref s.heap.objs.size,_,I.laid (t':=s.toks) (o := .frz { cls := .type "tuple",data := .seq ((its.toArray.toList.drop (HT.sIx xs.length 0 lo)).take (HT.sIx xs.length xs.length hi - HT.sIx xs.length 0 lo)).toArray } (.tup (JT xs lo hi))) (λb ob q=>jB _ q) (jD _) ?_,rfl,q _ _ (Ja fr _) ⟨_,J8,rfl⟩⟩;exact⟨jK _ rfl,jh (dP xs lo hi) hz,_,(r.drop (HT.sIx xs.length 0 lo)).take (HT.sIx xs.length xs.length hi - HT.sIx xs.length 0 lo),IsTup.new _ _⟩
def A3(t1 t2:TE):TE:=λσ H Q=>t1 σ H Q\/t2 σ H Q
def fI(h1:PE X e t1)(h2:PE X e t2):PE X e (A3 t1 t2):=λxB s σ H Q I h=>h.elim (h1 xB s σ H Q I) (h2 xB s σ H Q I)
end
end L2
namespace L2
open PySem PySem.W PySem.Spec PyProof.Rows PySem.Calls
section
variable {prog:J1}{w:J2}{A:J3}{E:xp}{s:xZ}
def A4(hh:A.handled=none)(view:s.heap.IsItemsView r d)(D:VDc s.heap d es ep)(few:es.size<=sizeLine)
 (k:∀g xT acc c as,(∀b o,s.heap.get? b=some o->g.get? b=some o)->g.get? s.heap.objs.size=some { cls := .type "list",dict:=none,data := .seq acc c,slots:=#[] }->as.length=es.size->VPs es s.heap.objs.size g as->acc.toList=as.map Value.ref->Q (.ref s.heap.objs.size) { s with heap:=g,toks:=xT }) :
 wpAny (model prog w) A (call (.type "list") [.ref r]) Q E s:=by
 have low:r < s.heap.objs.size:=by obtain⟨_,e,_⟩:=view;exact jG e
 have lod:d < s.heap.objs.size:=by obtain⟨_,e,_⟩:=D;exact jG e
 obtain⟨g0,eg0⟩:∃g0,g0=s.heap.push { cls := .type "list",data := .seq #[] }:=⟨_,rfl⟩;have xM:g0.get? s.heap.objs.size=some { cls := .type "list",data := .seq #[] }:=by rw[eg0];exact jK _ rfl
 have kp0:∀b o,s.heap.get? b=some o->g0.get? b=some o:=λb o e=>by rw[eg0];exact jB _ e
 have z0:g0.objs.size=s.heap.objs.size + 1:=by rw[eg0,j6]
 refine callType_codes (Q₁:=λobj s1=>obj = .ref s.heap.objs.size/\s1={ s with heap:=g0 }) PySem.F.called_list (PySem.F.typeCall_list_1 _) PySem.F.entry_list_init (code_list_new _ ⟨rfl,by rw[eg0]⟩) λobj s1 h1=>?_;obtain⟨e1,e2⟩:=h1;subst e1 e2;refine⟨⟨_,xM,rfl⟩,PySem.F.args_list_init_2 _ _,?_⟩;unfold Builtin.«list.__init__»;refine q8 ?_;unfold Builtin.List.listItems;refine q8 (qS xM rfl (qf (q8 (x6 xM rfl (q8 (wpAny_letGo ?_))))));have at1:=ja (Obj.mapSeq λ_=>(#[]:xw)) xM rfl;have kp1:∀b o,b≠s.heap.objs.size->g0.get? b=some o->(g0.update s.heap.objs.size (Obj.mapSeq λ_=>(#[]:xw))).get? b=some o:=λb o hb e=>(jY _ _ (Ne.symm hb)).trans e;have z1:(g0.update s.heap.objs.size (Obj.mapSeq λ_=>(#[]:xw))).objs.size=s.heap.objs.size + 1:=by rw[(Heap.SameBut.update g0 s.heap.objs.size _).1,z0]
 obtain⟨g1,eg1⟩:∃g1,g1=g0.update s.heap.objs.size (Obj.mapSeq λ_=>(#[]:xw)):=⟨_,rfl⟩;rw[<- eg1]at at1 kp1 z1;dsimp only;rw[<- eg1];have n1:r≠s.heap.objs.size:=jQ low;have n2:d≠s.heap.objs.size:=jQ lod;refine mY (prog:=prog) (w:=w) (A:=A.in1) (s:={ s with heap:=g1 }) hh (by obtain⟨o,e,x⟩:=view;exact⟨o,kp1 _ _ n1 (kp0 _ _ e),x⟩) (by obtain⟨o,e,x⟩:=D;exact⟨o,kp1 _ _ n2 (kp0 _ _ e),x⟩) s.heap.objs.size n1.symm n2 .none _ at1 few λg xT acc c as q1 q2 q3 q4 q5=>?_;refine⟨rfl,k g xT acc c as (λb o e=>q1 b o (jQ (jG e)) (kp1 _ _ (jQ (jG e)) (kp0 _ _ e))) q2 q3 ⟨q4.nd,λa ha=>(by have h:g1.objs.size < a:=q4.above a ha;rw[z1]at h;exact Nat.lt_of_succ_lt h),q4.pairs⟩ q5⟩
end
section
variable {X:Cx}{xB:xr}{σ:St}{H:Hp}{s:xZ}
def A5(hc:X.calm=true)(I:Inv X xB σ H s)(e:H a=some (.dT (kz ks)))(view:s.heap.IsItemsView r a)
 (q:∀(H':Hp) (l:J0) (xs:List V),Same H H'->H l=none->H' l=some (.lst xs)->xs.length=ks.length->(∀(i:Nat) (x:V) (kv:xA×V),xs[i]? = some x->ks[i]? = some kv->b9 H' x kv)->Q (.ref l) H') :
 wpAny (model X.prog X.w) X.A (call (.type "list") [.ref r]) (EP X xB σ Q) X.xe s:=by
 obtain⟨z,_,xs,kt,o,es,ep,ho,hd,xV,hes,nd⟩:=(show ObjOk X.prog X.w H s.heap a (.dT (kz ks)) from I.hok a _ e);have xl:xs.length=ks.length:=by rw[<- kt.length,jA]
 have el:es.size=ks.length:=by rw[size_of_entries hes,xl]
 have big:es.size<=sizeLine:=by rw[el];rw[jA]at z;exact z
 refine A4 (show X.A.handled=none from I.ok.hd hc) view ⟨o,ho,xV⟩ big λg tk acc c as kp hl la ps ha=>?_;obtain⟨l,el2⟩:∃l,l=s.heap.objs.size:=⟨_,rfl⟩;rw[<- el2]at hl ps ⊢;obtain⟨B,eB⟩:∃B:Nat->J0,B=λi=>(xs.getD i ([],0,.none)).2.1:=⟨_,rfl⟩
 have pB:∀i (hi:i < ks.length),∃(u:xY),H (B i)=some (.tup (ks[i].1.map V.int))/\RelV ks[i].2 u/\as[i]? = some (as.getD i 0)/\g.get? (as.getD i 0)=some { cls := .type "tuple",data := .seq #[.ref (B i),u] }:=λi hi=>by
  have e1:(kz ks)[i]? = some (ks[i].1.map Sum.inl,ks[i].2):=by rw[jF,jC hi];rfl
  obtain⟨⟨k1,b1,u1⟩,e2,e3,e4,e5⟩:=ZW kt e1;have e6:as[i]? = some (as.getD i 0):=by rw[jE,jC 'd'];rfl
  obtain⟨en,f1,f2⟩:=ps.pairs i _ e6;rw[entry_at hes,e2]at f1
  cases f1
  have e7:B i=b1:=by
   rw[eB];show(xs.getD i ([],0,.none)).2.1=b1;rw[jE,e2];rfl
  exact⟨u1,by rw[e7,<- X6];exact e4,e5,e6,by rw[e7];exact f2⟩
 let L:List (J0×HO):=(List.range ks.length).map (λi=>(as.getD i 0,HO.tup [.ref (B i),(ks.getD i ([],.non)).2])) ++ [(l,.lst (as.map V.ref))]
 have asl:(List.range ks.length).map (λi=>as.getD i 0)=as:=by
  refine k7 (by rw[jA,kR];omega) λi h1 h2=>?_;rw[kG,List.getElem_range,jE,jC h2];rfl
 have Lk:L.map (·.1)=as ++ [l]:=by
  show(_ ++ _:List (J0×HO)).map (·.1)=as ++ [l];rw[jo,kK];show(List.range ks.length).map (λi=>as.getD i 0) ++ [l]=as ++ [l];rw[asl]
 have Ln:(L.map (·.1)).Nodup:=by
  rw[Lk,kQ];refine⟨ps.nd,by simp,λb hb c hc e=>?_⟩;have:=ps.above b hb;rw[jM.mp hc]at e;exact jn this e
 have Lf:∀x∈L,s.heap.objs.size<=x.1:=λx hx=>by
  have:x.1∈as ++ [l]:=by rw[<- Lk];exact jW.mpr ⟨x,hx,rfl⟩
  rcases jO.mp this with h | h
  . rw[<- el2];exact kE (ps.above _ h)
  . rw[jM.mp h,el2];exact jD _
 have fr:∀x∈L,H x.1=none:=λx hx=>I.hok.fresh (Lf x hx);have inP:∀i (hi:i < ks.length),(as.getD i 0,HO.tup [.ref (B i),ks[i].2])∈L:=λi hi=>jZ _ (jW.mpr ⟨i,kh.mpr hi,by simp[List.getD,hi]⟩);have inL:(l,HO.lst (as.map V.ref))∈L:=jN _ (jM.mpr rfl);refine⟨.ref l,more H L,I.many (t':=tk) kp (λb u q=>ZV fr q) (λb u q=>?_),rfl,q (more H L) l (as.map V.ref) (λb u q=>ZV fr q) (fr _ inL) (b8 Ln inL) (by rw[jA];omega) λj x kv e1 e2=>?_⟩
 . rcases n9 q with q | q
   . exact .inl q
   . refine .inr ⟨Lf _ q,?_⟩;rcases jO.mp q with q | q
     . obtain⟨i,hi,ei⟩:=jW.mp q;have hi:=kh.mp hi;obtain⟨u',h2,h3,h4,h5⟩:=pB i hi
       cases ei
       exact⟨by show 2<=sizeLine;decide,[.ref (B i),u'],.cons rfl (.cons (by simp[List.getD,hi];exact h3) .nil),_,h5,rfl,_,rfl⟩
     . cases jM.mp q
       refine⟨by rw[jA];omega,acc.toList,c,?_,by simpa using hl⟩;rw[ha];generalize as=al
       induction al with
       | nil=>exact .nil
       | cons i al ih=>exact .cons rfl ih
 . have hj:j < ks.length:=(jJ.mp e2).1;obtain⟨u',h2,h3,h4,h5⟩:=pB j hj;rw[jF,h4]at e1;rw[jC hj]at e2
   cases e1;cases e2
   exact⟨_,B j,rfl,b8 Ln (inP j hj),ZV fr h2⟩
def A6(td:TE):TE:=λσ H Q=>td σ H λx H1=>∃a ks,x = .ref a/\H1 a=some (.dT (kz ks)) /\
 ∀(H':Hp) (l:J0) (xs:List V),Same H1 H'->H1 l=none->H' l=some (.lst xs)->xs.length=ks.length->(∀(i:Nat) (x:V) (kv:xA×V),xs[i]? = some x->ks[i]? = some kv->b9 H' x kv)->Q (.ref l) H'
def A7{td:TE}{p ap cp pos:Pos}(hc:X.calm=true)(hg:Gl X "list")(hm:X.mg "list" = none)(hv:bootBuiltins "list" = some (.type "list"))(ho:PE X o td)
 (xN:attributeBase o "items" X.env (eval o X.env)=eval o X.env:=by rfl) (xO:(ap.endLine == cp.line)=true:=by rfl):PE X (.Call (.Name "list" p) [.Call (.Attribute o "items" ap) [] [] cp] [] pos) (A6 td):=by
 intro xB s σ H Q I h;refine qN (QB I hg hm hv ?_ 'f' 'f');refine PyProof.Rows.callWith_type1 ?_ rfl rfl;show wpAny _ _ (spliced [(false,eval (.Call (.Attribute o "items" ap) [] [] cp) X.env)]) _ _ s;refine Calls.spliced_cons (wpAny_Call_method0_late xN xO (thn (ho xB s σ H _ I h) λv s1 fv=>?_));obtain⟨x,H1,I1,r1,a,ks,ex,e1,q1⟩:=fv;subst ex;obtain rfl:v=Value.ref a:=r1;obtain⟨t1,t2,t3⟩:=aG I1 (.inr ⟨_,.inl e1⟩);obtain⟨_,_,xs,kt,o1,es,ep,ho1,hd1,_⟩:=(show ObjOk X.prog X.w H1 s1.heap a (.dT (kz ks)) from I1.hok a _ e1);refine⟨"dict", "dict.items",PySem.F.plainAttrs_dict,PySem.F.slot_dict_items,PySem.F.type_dict_items,t1,t2,Calls.callWith_builtin rfl (PySem.evalArgs_none (eS ho1 hd1 t3 ?_))⟩;refine Calls.spliced_nil ?_;have I2:=I1.kept (h':=s1.heap.push { cls := .type "dict_items",data := .fields #[.ref a] }) (t':=s1.toks) λb u q=>jB _ q;exact A5 hc I2 e1 ⟨_,jK _ rfl,rfl,rfl⟩ q1
end
end L2
namespace L2
open PySem PySem.W PySem.Spec PyProof.Rows
section
variable {prog:J1}{w:J2}{A:J3}{E:xp}{s:xZ}
def A8(ho:s.heap.get? it=some o)(hc:o.cls = .type "tuple")(hd:o.data = .seq items n)(few:items.size<=sizeLine)
 (k:∀g:Heap,(∀b o,s.heap.get? b=some o->g.get? b=some o)->s.heap.objs.size<=g.objs.size->R items.toList { s with heap:=g }):wpAny (model prog w) A (collect (.ref it)) R E s:=by
 unfold collect;refine q8 (wpAny_runValue (qM entry_proto_collect' ?_));rw[Around.under_plainId PySem.F.plain_proto_collect _];show wpAny _ A.in1 (newList [] >>= λl=>again (.builtin "list.__iadd__" ⟨[l,.ref it],[]⟩)) _ _ s;refine q8 (qw (qf ⟨qU PySem.F.plain_list_iadd _,qM entry_list_iadd' ?_⟩));rw[Around.under_plainId PySem.F.plain_list_iadd _];obtain⟨g0,eg0⟩:∃g0,g0=s.heap.push { cls := .type "list",data := .seq ([]:xx).toArray }:=⟨_,rfl⟩;have xM:g0.get? s.heap.objs.size=some { cls := .type "list",data := .seq #[] 0 }:=by rw[eg0];exact jK _ rfl
 have kp0:∀b o,s.heap.get? b=some o->g0.get? b=some o:=λb o e=>by rw[eg0];exact jB _ e
 have z0:g0.objs.size=s.heap.objs.size + 1:=by rw[eg0,j6]
 show wpAny _ A.in1 (Builtin.List.listExtendWith (.ref s.heap.objs.size) (.ref it) (.ref s.heap.objs.size)) _ _ _;rw[<- eg0];obtain⟨g1,eg1⟩:∃g1,g1=g0.update s.heap.objs.size (Obj.mapSeq (· ++ items)):=⟨_,rfl⟩;have at1:=ja (Obj.mapSeq (· ++ items)) xM rfl;rw[<- eg1]at at1;have z1:g1.objs.size=s.heap.objs.size + 1:=by rw[eg1,(Heap.SameBut.update g0 s.heap.objs.size _).1,z0]
 have fin:∀s',s'={ s with heap:=g1 }->wpAny (model prog w) A (load s.heap.objs.size >>= λo=>match o.data with
  | Data.seq xs _=>pure xs.toList
  | _=>unsupported "internal:collect") R E s':=by
  intro s' e;subst e;refine q8 (wpAny_load at1 (qf ?_));have e:((#[]:xw) ++ items).toList=items.toList:=by simp
  show R ((#[]:xw) ++ items).toList _;rw[e];exact k g1 (λb o hb=>by rw[eg1];exact(jY _ _ (jn (jG hb))).trans (kp0 b o hb)) 'd'
 refine qQ (wpAny_extend_seq (hsz:=few) (A:=A) (R:=λr s'=>r = .ok (.ret (.ref s.heap.objs.size))/\s'={ s with heap:=g1 }) (s:={ s with heap:=g0 }) _ it _ 0 (.inr rfl) xM (kp0 _ _ ho) hc hd ⟨rfl,by rw[eg1]⟩) (λf s' h=>?_) (λe s' h=>?_)
 . cases f with
   | done f =>
    obtain⟨e,e2⟩:=h
    cases e
    exact fin s' e2
   | again c'=>exact⟨h.1,xh h.2 λr s'' hr=>by obtain⟨e1,e2⟩:=hr;subst e1;exact fin s'' e2⟩
 . exact absurd h.1 'j'
end
section
variable {X:Cx}{xB:xr}{σ:St}{H:Hp}{s:xZ}
def A9(I:Inv X xB σ H s)(e:SqT X.K H a (ns.map V.str))(nd:ns.Nodup)(few:ns.length < 64)
 (q:∀(l:J0) (ss:xy),H l=none->ss.Perm ns->ss.Pairwise ltS->Q (.ref l) (upd H l (.lst (ss.map V.str)))) :
 wpAny (model X.prog X.w) X.A (call (.builtin "sorted") [.ref a]) (EP X xB σ Q) X.xe s:=by
 obtain⟨its,rv,⟨o,ho,hcl,m,hd⟩,hz⟩:=I.tuple e;exact nC I nd few (λE' R hR=>A8 ho hcl hd (by rw[jH,<- rv.length];exact hz) λg kp up=>hR g s.toks s.drawn _ ns kp up (.refl _) (by simpa using aQ rv)) q
end
section
variable {X:Cx}
def Aa(K:xt)(hK:X.K=K):Q7 X (.builtin "sorted") (λvs H Q=>∃(a:J0) (ns:xy),vs=[.ref a]/\SqT K H a (ns.map V.str)/\ns.Nodup/\ns.length < 64 /\
 ∀(l:J0) (ss:xy),H l=none->ss.Perm ns->ss.Pairwise ltS->Q (.ref l) (upd H l (.lst (ss.map V.str)))):=by
 subst hK;intro xB s σ H xs us Q I r h;obtain⟨a,ns,rfl,h1,h2,h3,q⟩:=h;obtain⟨u,rfl,rx⟩:=Qj r
 cases rx
 exact A9 I h1 h2 h3 q
end
end L2
set_option Elab.async false
set_option linter.all false
set_option maxRecDepth 100000
set_option maxHeartbeats 4000000
namespace Fd
open PySem L2
def top(i:Nat):Stmt:=PySem.Challenge.pw_fairdraw_k52_choices_and_rounds.main.body.getD i (.Pass ⟨0,0,0,0⟩)
abbrev bq:Stmt:=top 5
abbrev br:Stmt:=top 6
abbrev bt:Stmt:=top 7
abbrev bu:Stmt:=top 8
abbrev bv:Stmt:=top 9
abbrev bw:Stmt:=top 13
abbrev bz:Stmt:=top 14
abbrev YJ:Stmt:=top 15
abbrev YK:Stmt:=top 16
abbrev bA:Stmt:=top 18
abbrev bB:Stmt:=top 19
abbrev bC:Stmt:=top 20
abbrev bD:Stmt:=top 22
abbrev XZ:Stmt:=top 25
abbrev bE:Stmt:=top 27
abbrev bF:Stmt:=top 28
abbrev bG:Stmt:=top 29
abbrev bH:Stmt:=top 30
abbrev bJ:Stmt:=top 31
abbrev bK:Stmt:=top 32
abbrev bL:Stmt:=top 33
abbrev bM:Stmt:=top 34
abbrev bN:Stmt:=top 35
abbrev bO:Stmt:=top 36
abbrev bP:Stmt:=top 37
abbrev bQ:Stmt:=top 38
abbrev Xa:Stmt:=top 39
structure Bl (mg:xq):Prop where
 abs:mg "abs" = none
 bool:mg "bool" = none
 dict:mg "dict" = none
 int:mg "int" = none
 isinstance:mg "isinstance" = none
 len:mg "len" = none
 list:mg "list" = none
 range:mg "range" = none
 reversed:mg "reversed" = none
 set:mg "set" = none
 sorted:mg "sorted" = none
 str:mg "str" = none
 sum:mg "sum" = none
 tuple:mg "tuple" = none
 zip:mg "zip" = none
def Qh(s:Stmt):List Stmt:=match s with | .ClassDef _ _ _ b _ _ _ _ _ _ _=>b | _=>[]
abbrev bR:Stmt:=(Qh (top 11)).getD 0 (.Pass ⟨0,0,0,0⟩)
abbrev bS:Stmt:=(Qh (top 23)).getD 0 (.Pass ⟨0,0,0,0⟩)
abbrev bT:Stmt:=(Qh (top 23)).getD 1 (.Pass ⟨0,0,0,0⟩)
abbrev bU:Stmt:=(Qh (top 23)).getD 2 (.Pass ⟨0,0,0,0⟩)
abbrev bV:Stmt:=(Qh (top 23)).getD 3 (.Pass ⟨0,0,0,0⟩)
abbrev bW:Stmt:=(Qh (top 24)).getD 0 (.Pass ⟨0,0,0,0⟩)
abbrev bX:Stmt:=(Qh (top 24)).getD 1 (.Pass ⟨0,0,0,0⟩)
abbrev bZ:Stmt:=(Qh (top 24)).getD 2 (.Pass ⟨0,0,0,0⟩)
abbrev cb:Stmt:=(Qh (top 24)).getD 3 (.Pass ⟨0,0,0,0⟩)
abbrev YL:Stmt:=(Qh (top 24)).getD 4 (.Pass ⟨0,0,0,0⟩)
abbrev YM:Stmt:=(Qh (top 24)).getD 5 (.Pass ⟨0,0,0,0⟩)
abbrev YN:Stmt:=(Qh (top 24)).getD 6 (.Pass ⟨0,0,0,0⟩)
abbrev oM:Stmt:=(Qh (top 24)).getD 7 (.Pass ⟨0,0,0,0⟩)
abbrev YO:Stmt:=(Qh (top 24)).getD 8 (.Pass ⟨0,0,0,0⟩)
abbrev YQ:Stmt:=(Qh (top 24)).getD 9 (.Pass ⟨0,0,0,0⟩)
abbrev cf:Stmt:=(Qh (top 11)).getD 1 (.Pass ⟨0,0,0,0⟩)
def ZX:FnScope ["one", "other", "rest"] ["one", "other"] (defScope bq):='c'
def Ab:FnScope ["thing"] ["thing"] (defScope br):='c'
def fJ:FnScope ["top", "bottom", "common"] ["top", "bottom"] (defScope bt):='c'
def YR:FnScope ["one", "other", "common", "own", "others", "rest"] ["one", "other"] (defScope bu):='c'
def fK:FnScope ["one", "other", "left", "right"] ["one", "other"] (defScope bv):='c'
def Ac:FnScope ["sign", "numbers"] ["sign", "numbers"] (defScope bw):='c'
def Ad:FnScope ["sign", "numbers"] ["sign", "numbers"] (defScope bz):='c'
def oN:FnScope ["e", "book"] ["e", "book"] (defScope YJ):='c'
def YS:FnScope ["e", "found", "part", "name"] ["e"] (defScope YK):='c'
def Ae:FnScope ["values", "places"] ["values", "places"] (defScope bA):='c'
def Af:FnScope ["names", "some"] ["names", "some"] (defScope bB):='c'
def YT:FnScope ["rows", "places", "shares", "values", "share", "rest"] ["rows", "places"] (defScope bC):='c'
def Ag:FnScope ["some", "place", "one"] ["some", "place", "one"] (defScope bD):='c'
def cg:FnScope ["program", "most", "ahead", "behind", "names"] ["program", "most"] (defScope XZ):='c'
def Ah:FnScope ["_law_script", "_law_k"] ["_law_script", "_law_k"] (defScope bE):='c'
def oO:FnScope ["_law_cell", "_law_k", "_law_some"] ["_law_cell", "_law_k"] (defScope bF):='c'
def oQ:FnScope ["_law_one", "_law_other"] ["_law_one", "_law_other"] (defScope bG):='c'
def oR:FnScope ["_law_top", "_law_bottom", "_law_by"] ["_law_top", "_law_bottom"] (defScope bH):='c'
def Z0:FnScope ["_law_cell", "_law_k", "_law_letters", "_law_stride", "_law_pair", "_law_way", "_law_more", "_law_j"] ["_law_cell", "_law_k"] (defScope bJ):='c'
def Ai:FnScope ["_law_cell", "_law_names"] ["_law_cell", "_law_names"] (defScope bK):='c'
def ci:FnScope ["_law_cell", "_law_names", "_law_one", "_law_other", "_law_sign"] ["_law_cell", "_law_names"] (defScope bL):='c'
def ZY:FnScope ["_law_cell", "_law_many", "_law_start", "_law_weights", "_law_whole", "_law_some"] ["_law_cell", "_law_many"] (defScope bM):='c'
def Zk:FnScope ["_law_cells", "_law_names", "_law_pool", "_law_most", "_law_rows_here", "_law_many", "_law_cell", "_law_name_here", "_law_e"] ["_law_cells", "_law_names", "_law_pool", "_law_most"] (defScope bN):='c'
def Zl:FnScope ["_law_table", "_law_names", "_law_sums", "_law_here", "_law_values", "_law_part", "_law_key", "_law_top", "_law_bottom"] ["_law_table", "_law_names", "_law_sums"] (defScope bO):='c'
def Aj:FnScope ["_law_rows_here"] ["_law_rows_here"] (defScope bP):='c'
def fL:FnScope ["_law_ahead", "_law_e", "_law_first", "_law_second", "_law_names", "_law_sums", "_law_found"] ["_law_ahead", "_law_e", "_law_first", "_law_second", "_law_names"] (defScope bQ):='c'
def Qr:FnScope ["_law_script", "_law_pool", "_law_cells", "_law_names", "_law_ahead", "_law_behind_first", "_law_first", "_law_behind_second", "_law_second", "_law_e", "_law_many", "_law_inner", "_law_twice"] ["_law_script"] (defScope Xa):='c'
def Ak:FnScope ["self", "most"] ["self", "most"] (defScope bR):='c'
def Am:FnScope ["self", "names", "most"] ["self", "names", "most"] (defScope bS):='c'
def An:FnScope ["self", "name"] ["self", "name"] (defScope bT):='c'
def Z2:FnScope ["self", "es", "wanted", "e", "places", "found", "numbers", "share", "book"] ["self", "es"] (defScope bU):='c'
def ck:FnScope ["self", "others", "places", "numbers", "share"] ["self", "others"] (defScope bV):='c'
def Ao:FnScope ["self", "parts", "most"] ["self", "parts", "most"] (defScope bW):='c'
def Zm:FnScope ["self", "row", "ahead", "place", "behind", "numbers", "share", "number", "part_share"] ["self", "row", "ahead"] (defScope bX):='c'
def ZZ:FnScope ["self", "row", "ahead", "place", "behind", "numbers", "share", "found"] ["self", "row", "ahead"] (defScope bZ):='c'
def YU:FnScope ["self", "row", "ahead", "behind", "numbers", "share", "found"] ["self", "row", "ahead"] (defScope cb):='c'
def Xb:FnScope ["self", "row", "ahead", "first", "second", "behind", "numbers", "share", "found", "branch"] ["self", "row", "ahead"] (defScope YL):='c'
def cn:FnScope ["self", "row", "ahead", "behind", "time"] ["self", "row", "ahead"] (defScope YM):='c'
def Ap:FnScope ["self", "row", "ahead", "place", "behind", "numbers", "share", "arguments", "result", "part_share"] ["self", "row", "ahead"] (defScope YN):='c'
def Aq:FnScope ["self", "row", "ahead"] ["self", "row", "ahead"] (defScope YO):='c'
def YV:FnScope ["self", "rows", "ahead", "behind", "row"] ["self", "rows", "ahead"] (defScope YQ):='c'
def oU:FnScope ["self", "numbers", "share"] ["self", "numbers", "share"] (defScope cf):='c'
def G(a b:Int):Int:=((Int.gcd a b:Nat):Int)
def ab(i:Int):Int:=if i < 0 then -i else i
def oV(i:Int):0<=ab i:=by unfold ab;split<;>omega
def oW(i:Int):(ab i).natAbs=i.natAbs:=by unfold ab;split<;>omega
def oX(a b:Int):0<=G a b:=Int.natCast_nonneg _
def Ar(a b:Int):G (ab a) (ab b)=G a b:=by
 show((Nat.gcd (ab a).natAbs (ab b).natAbs:Nat):Int)=((Nat.gcd a.natAbs b.natAbs:Nat):Int);rw[oW,oW]
def cq(a b:Int):G a b=G b a:=by unfold G;rw[Int.gcd_comm]
def oY(h:0<=a)(hb:b=0):G a b=a:=by
 subst hb;unfold G;rw[Int.gcd_zero_right];omega
def oZ(ha:0<=a)(hb:0 < b):G b (a % b)=G a b:=by
 show((Nat.gcd b.natAbs (a % b).natAbs:Nat):Int)=((Nat.gcd a.natAbs b.natAbs:Nat):Int);rw[Int.natAbs_emod_of_nonneg ha,Nat.gcd_comm b.natAbs,<- Nat.gcd_rec,Nat.gcd_comm]
def cu(a b:Int):G a b ∣ a:=Int.gcd_dvd_left a b
def YW(a b:Int):G a b ∣ b:=Int.gcd_dvd_right a b
def At(h1:k ∣ a)(h2:k ∣ b):k ∣ G a b:=Int.dvd_coe_gcd h1 h2
def Au:G a b=0↔a=0/\b=0:=by
 constructor
 . intro h;have h1:=cu a b;have h2:=YW a b;rw[h]at h1 h2;exact⟨Int.zero_dvd.mp h1,Int.zero_dvd.mp h2⟩
 . rintro⟨rfl,rfl⟩;rfl
def Zn(hb:b≠0):0 < G a b:=by
 have h1:=oX a b;have h2:G a b≠0:=λh=>hb (Au.mp h).2;omega
def fM(hb:b≠0):G a b<=b.natAbs:=by
 have h:=YW a b;have:=Int.le_of_dvd (show 0 < (b.natAbs:Int) by omega) (Int.dvd_natAbs.mpr h);exact this
def p0(hb:b≠0):G (t / G t b) (b / G t b)=1:=by
 have h0:0 < G t b:=Zn hb
 have hg:0 < Int.gcd t b:=by
  have:(0:Int) < (Int.gcd t b:Nat):=h0;omega
 have:=Int.gcd_ediv_gcd_ediv_gcd (i:=t) (j:=b) hg;unfold G;rw[this];rfl
def p8(h1:G p q=1)(h:q ∣ p * b):q ∣ b:=by
 have h':Int.gcd q p=1:=by
  have:((Int.gcd p q:Nat):Int)=1:=h1;rw[Int.gcd_comm];omega
 have q1:q ∣ ((Int.gcd q (p * b):Nat):Int):=Int.dvd_coe_gcd (Int.dvd_refl q) h;rw[Int.gcd_mul_right_right_of_gcd_eq_one h']at q1;exact Int.dvd_trans q1 (Int.gcd_dvd_right q b)
def uniq(hq:0 < q)(hb:0 < b)(h1:G p q=1)(h2:G a b=1)(h:p * b=a * q):p=a/\q=b:=by
 have d1:q ∣ b:=p8 h1 ⟨a,by rw[h,Int.mul_comm]⟩;have d2:b ∣ q:=p8 h2 ⟨p,by rw[<- h,Int.mul_comm]⟩
 have e:q=b:=by
  have l1:=Int.le_of_dvd hb d1;have l2:=Int.le_of_dvd hq d2;omega
 subst e;refine⟨Int.eq_of_mul_eq_mul_right 'd' h,rfl⟩
def Xc(r:Rat):G r.num (r.den:Int)=1:=by
 have:=r.reduced;unfold G;rw[show Int.gcd r.num (r.den:Int)=Nat.gcd r.num.natAbs r.den from rfl,this];rfl
def Qf(r:Rat):0 < (r.den:Int):=by have:=r.den_pos;omega
def Y0(hb:b≠0):(Rat.divInt t b).num * b=t * ((Rat.divInt t b).den:Int):=by
 have e:=kY (Rat.divInt t b);have d:=Qf (Rat.divInt t b);exact(Rat.divInt_eq_divInt_iff 'd' hb).mp e
def sg(t b:Int):Int:=if b < 0 then -(G t b) else G t b
def Av(a b:Int):G (-a) (-b)=G a b:=by
 unfold G;rw[Int.gcd_neg,Int.neg_gcd]
def fN(hb:b≠0):sg t b≠0:=by
 have:=Zn (a:=t) hb;unfold sg;split<;>omega
def fO(hb:b≠0):∃x y,t=sg t b * x/\b=sg t b * y/\0 < y/\G x y=1:=by
 have g0:=Zn (a:=t) hb;obtain⟨x,hx⟩:=cu t b;obtain⟨y,hy⟩:=YW t b;have ex:t / G t b=x:=ku 'd' hx;have ey:b / G t b=y:=ku 'd' hy;have e1:=p0 (t:=t) hb;rw[ex,ey]at e1;have hyn:y≠0:=λz=>hb (by rw[hy,z,Int.mul_zero]);unfold sg
 by_cases h:b < 0
 . rw[qh h];refine⟨-x,-y,by rw[Int.neg_mul_neg];exact hx,by rw[Int.neg_mul_neg];exact hy,?_,by rw[Av];exact e1⟩
   have:¬0<=y:=λz=>by
    have:=Int.mul_nonneg (Int.le_of_lt g0) z;omega
   omega
 . rw[qg h];refine⟨x,y,hx,hy,?_,e1⟩
   have:¬y<=0:=λz=>by
    have:=Int.mul_nonpos_of_nonneg_of_nonpos (Int.le_of_lt g0) z;omega
   omega
def cv(hb:b≠0):t.fdiv (sg t b)=(Rat.divInt t b).num/\b.fdiv (sg t b)=((Rat.divInt t b).den:Int):=by
 obtain⟨x,y,hx,hy,y0,e1⟩:=fO (t:=t) hb;have s0:=fN (t:=t) hb;have c:=Y0 (t:=t) hb
 have c':(Rat.divInt t b).num * y=x * ((Rat.divInt t b).den:Int):=by
  generalize sg t b=s at *;generalize(Rat.divInt t b).num=n at *;generalize((Rat.divInt t b).den:Int)=d at *;subst hx hy
  have:s * (n * y)=s * (x * d):=by
   have e1:s * (n * y)=n * (s * y):=by rw[<- Int.mul_assoc,Int.mul_comm s n,Int.mul_assoc]
   rw[e1,c,Int.mul_assoc]
  exact Int.eq_of_mul_eq_mul_left s0 this
 have u:=uniq (Qf _) y0 (Xc _) e1 c';constructor
 . conv=>lhs;arg 1;rw[hx]
   rw[kI _ s0];exact u.1.symm
 . conv=>lhs;arg 1;rw[hy]
   rw[kI _ s0];exact u.2.symm
def Aw(r s:Rat):Rat.divInt (r.num * (s.den:Int) + s.num * (r.den:Int)) ((r.den:Int) * (s.den:Int))=r + s:=by
 have h1:=Qf r;have h2:=Qf s;rw[<- Rat.divInt_add_divInt _ _ 'd' 'd',kY,kY]
def Ax(r s:Rat):Rat.divInt (r.num * s.num) ((r.den:Int) * (s.den:Int))=r * s:=by
 rw[<- Rat.divInt_mul_divInt,kY,kY]
def cw(hb:b≠0):(Rat.divInt t b).num.natAbs<=t.natAbs/\(Rat.divInt t b).den<=b.natAbs:=by
 obtain⟨x,y,hx,hy,y0,e1⟩:=fO (t:=t) hb;have s0:=fN (t:=t) hb;have f:=cv (t:=t) hb
 have fx : t.fdiv (sg t b) = x := by conv => lhs; arg 1; rw [hx]
                                     rw[kI _ s0]
 have fy : b.fdiv (sg t b) = y := by conv => lhs; arg 1; rw [hy]
                                     rw[kI _ s0]
 rw[fx,fy]at f;have s1:1<=(sg t b).natAbs:=by omega
 constructor
 . rw[<- f.1]
   have : t.natAbs = (sg t b).natAbs * x.natAbs := by conv => lhs; rw [hx]
                                                      rw[Int.natAbs_mul]
   rw[this];exact Nat.le_mul_of_pos_left _ s1
 . have e:(Rat.divInt t b).den=y.natAbs:=by omega
   rw[e]
   have : b.natAbs = (sg t b).natAbs * y.natAbs := by conv => lhs; rw [hy]
                                                      rw[Int.natAbs_mul]
   rw[this];exact Nat.le_mul_of_pos_left _ s1
def Xu(rs:List Rat):Rat:=rs.foldl (· + ·) 0
def p9(rs:List Rat):∀a,rs.foldl (· + ·) a=a + Xu rs:=by
 induction rs with
 | nil=>intro a;show a=a + 0;grind
 | cons r rs ih=>intro a;show rs.foldl (· + ·) (a + r)=a + rs.foldl (· + ·) (0 + r);rw[ih,ih];grind
def Ay(a b:List Rat):Xu (a ++ b)=Xu a + Xu b:=by
 unfold Xu;rw[qH,p9 b];rfl
def Az(r:Rat)(rs:List Rat):Xu (r :: rs)=r + Xu rs:=by
 show rs.foldl (· + ·) (0 + r)=_;rw[p9];grind
def cx(h1:G x y=1)(h2:G x z=1):G x (y * z)=1:=by
 have h1':Int.gcd x y=1:=by have:((Int.gcd x y:Nat):Int)=1:=h1;omega
 have h2':Int.gcd x z=1:=by have:((Int.gcd x z:Nat):Int)=1:=h2;omega
 unfold G;rw[Int.gcd_mul_right_right_of_gcd_eq_one h1',h2'];rfl
def cy(h1:G x z=1)(h2:G y z=1):G (x * y) z=1:=by
 rw[cq];exact cx (by rw[cq];exact h1) (by rw[cq];exact h2)
def Y1(h:G a b=1)(hx:x ∣ a)(hy:y ∣ b):G x y=1:=by
 have d:G x y ∣ G a b:=At (Int.dvd_trans (cu x y) hx) (Int.dvd_trans (YW x y) hy);rw[h]at d;have n:=oX x y;have l:=Int.le_of_dvd 'f' d;have z:G x y≠0:=λe=>by rw[e]at d;exact absurd (Int.zero_dvd.mp d) 'f'
 omega
def fP(hb:b≠0):(Rat.divInt t b).num ∣ t/\((Rat.divInt t b).den:Int) ∣ b:=by
 obtain⟨x,y,hx,hy,y0,e1⟩:=fO (t:=t) hb;have s0:=fN (t:=t) hb;have f:=cv (t:=t) hb
 have fx : t.fdiv (sg t b) = x := by conv => lhs; arg 1; rw [hx]
                                     rw[kI _ s0]
 have fy : b.fdiv (sg t b) = y := by conv => lhs; arg 1; rw [hy]
                                     rw[kI _ s0]
 rw[fx,fy]at f;rw[<- f.1,<- f.2];exact⟨⟨sg t b,by rw[Int.mul_comm];exact hx⟩,⟨sg t b,by rw[Int.mul_comm];exact hy⟩⟩
def AA(r s:Rat):(Rat.divInt r.num (s.den:Int)).num * (Rat.divInt s.num (r.den:Int)).num=(r * s).num /\
 ((Rat.divInt r.num (s.den:Int)).den:Int) * ((Rat.divInt s.num (r.den:Int)).den:Int)=((r * s).den:Int):=by
 have dr:=Qf r;have ds:=Qf s;obtain⟨a1,a2⟩:=fP (t:=r.num) (b:=(s.den:Int)) 'd';obtain⟨b1,b2⟩:=fP (t:=s.num) (b:=(r.den:Int)) 'd';have c1:=Y0 (t:=r.num) (b:=(s.den:Int)) 'd';have c2:=Y0 (t:=s.num) (b:=(r.den:Int)) 'd';have c3:=Y0 (t:=r.num * s.num) (b:=(r.den:Int) * (s.den:Int)) (by have:=Int.mul_pos dr ds;omega);rw[Ax]at c3;have g1:=Xc (Rat.divInt r.num (s.den:Int));have g2:=Xc (Rat.divInt s.num (r.den:Int));have p1:=Qf (Rat.divInt r.num (s.den:Int));have p2:=Qf (Rat.divInt s.num (r.den:Int));have gr:=Xc r;have gs:=Xc s;have g3:=Xc (r * s);have p3:=Qf (r * s);generalize(Rat.divInt r.num (s.den:Int)).num=ln at *;generalize((Rat.divInt r.num (s.den:Int)).den:Int)=ld at *;generalize(Rat.divInt s.num (r.den:Int)).num=mn at *;generalize((Rat.divInt s.num (r.den:Int)).den:Int)=md at *;generalize(r * s).num=pn at *;generalize((r * s).den:Int)=pd at *;generalize r.num=rn at *;generalize s.num=sn at *;generalize(r.den:Int)=rd at *;generalize(s.den:Int)=sd at *
 have hg:G (ln * mn) (ld * md)=1:=by
  refine cx (cy g1 (Y1 gs b1 a2)) (cy (Y1 gr a1 b2) g2)
 refine uniq (Int.mul_pos p1 p2) p3 hg g3 ?_;have z:(rd * sd)≠0:=by have:=Int.mul_pos dr ds;omega
 refine Int.eq_of_mul_eq_mul_right z ?_
 grind
def AB(r s:Rat):(Rat.divInt (r.num * ((s.den:Int) / G (r.den:Int) (s.den:Int)) + s.num * ((r.den:Int) / G (r.den:Int) (s.den:Int))) (G (r.den:Int) (s.den:Int))).num=(r + s).num /\
 ((Rat.divInt (r.num * ((s.den:Int) / G (r.den:Int) (s.den:Int)) + s.num * ((r.den:Int) / G (r.den:Int) (s.den:Int))) (G (r.den:Int) (s.den:Int))).den:Int) * ((r.den:Int) / G (r.den:Int) (s.den:Int)) * ((s.den:Int) / G (r.den:Int) (s.den:Int))=((r + s).den:Int):=by
 have dr:=Qf r;have ds:=Qf s;have gc:=Zn (a:=(r.den:Int)) (b:=(s.den:Int)) 'd';have gd:=p0 (t:=(r.den:Int)) (b:=(s.den:Int)) 'd';obtain⟨o,ho⟩:=cu (r.den:Int) (s.den:Int);obtain⟨u,hu⟩:=YW (r.den:Int) (s.den:Int);have eo:(r.den:Int) / G (r.den:Int) (s.den:Int)=o:=ku 'd' ho;have eu:(s.den:Int) / G (r.den:Int) (s.den:Int)=u:=ku 'd' hu;rw[eo,eu]at gd ⊢;have gr:=Xc r;have gs:=Xc s;have g3:=Xc (r + s);have p3:=Qf (r + s);have c3:=Y0 (t:=r.num * (s.den:Int) + s.num * (r.den:Int)) (b:=(r.den:Int) * (s.den:Int)) (by have:=Int.mul_pos dr ds;omega);rw[Aw]at c3;generalize(r + s).num=pn at *;generalize((r + s).den:Int)=pd at *;generalize r.num=rn at *;generalize s.num=sn at *;generalize G (r.den:Int) (s.den:Int)=c at *;generalize(r.den:Int)=rd at *;generalize(s.den:Int)=sd at *;subst ho hu;obtain⟨a1,a2⟩:=fP (t:=rn * u + sn * o) (b:=c) 'd';have c1:=Y0 (t:=rn * u + sn * o) (b:=c) 'd';have g1:=Xc (Rat.divInt (rn * u + sn * o) c);have p1:=Qf (Rat.divInt (rn * u + sn * o) c);generalize(Rat.divInt (rn * u + sn * o) c).num=qn at *;generalize((Rat.divInt (rn * u + sn * o) c).den:Int)=qd at *
 have o0:0 < o:=by
  rcases Int.lt_trichotomy o 0 with h | h | h
  . have:=Int.mul_neg_of_pos_of_neg gc h;omega
  . rw[h,Int.mul_zero]at dr;omega
  . exact h
 have u0:0 < u:=by
  rcases Int.lt_trichotomy u 0 with h | h | h
  . have:=Int.mul_neg_of_pos_of_neg gc h;omega
  . rw[h,Int.mul_zero]at ds;omega
  . exact h
 have gu:G u o=1:=by rw[cq];exact gd
 have ro:G rn o=1:=Y1 gr (Int.dvd_refl _) ⟨c,Int.mul_comm _ _⟩;have so:G sn u=1:=Y1 gs (Int.dvd_refl _) ⟨c,Int.mul_comm _ _⟩
 have no:G (rn * u + sn * o) o=1:=by
  unfold G;rw[Int.gcd_add_mul_right_left];exact cy ro gu
 have nu:G (rn * u + sn * o) u=1:=by
  unfold G;rw[Int.gcd_mul_right_add_left];exact cy so gd
 have hg:G qn (qd * o * u)=1:=cx (cx g1 (Y1 no a1 (Int.dvd_refl _))) (Y1 nu a1 (Int.dvd_refl _));refine uniq (Int.mul_pos (Int.mul_pos p1 o0) u0) p3 hg g3 ?_;have z:(c * o * (c * u))≠0:=by have:=Int.mul_pos dr ds;omega
 refine Int.eq_of_mul_eq_mul_right z ?_;have e1:pn * (qd * o * u) * (c * o * (c * u))=pn * (c * o * (c * u)) * (qd * o * u):=by grind
 rw[e1,c3];have e2:(rn * (c * u) + sn * (c * o)) * pd * (qd * o * u)=((rn * u + sn * o) * qd) * (c * o * u * pd):=by grind
 rw[e2,<- c1]
 grind
def sz(r:Rat):Prop:=r.num.natAbs < 2 ^ 2000/\r.den < 2 ^ 2000
def dF(r:Rat):D := .tup [.int r.num,.int (r.den:Int)]
def QT(h:IsD K H (.tup [.int a,.int b]) x):∃p,x = .ref p/\SqT K H p [.int a,.int b]:=by
 obtain⟨p,xs,rfl,q,y,r,e1,e2,z,r',e3,e4,e5⟩:=h;have e2':y = .int a:=e2;have e4':z = .int b:=e4;have e5':r'=[]:=e5;subst e1 e2' e3 e4' e5';exact⟨p,rfl,q⟩
def YX(h:H p=some (.tup [.int a,.int b])):IsD K H (.tup [.int a,.int b]) (.ref p) :=
 ⟨p,_,rfl,.of h,_,_,rfl,rfl,_,_,rfl,rfl,rfl⟩
def Z3{x:Int}{n:Nat}(h:x.natAbs < 2 ^ n)(hn:n<=9000):x.natAbs.log2 < 9000:=by
 by_cases z:x.natAbs=0
 . rw[z];decide
 . exact jc ((Nat.log2_lt z).mpr h) hn
inductive Sg where
 | neg | add | sub | lt | eq | conj | disj | pick
 deriving DecidableEq
def Sg.str:Sg->Str
 | .neg => "not" | .add => "+" | .sub => "-" | .lt => "<" | .eq => "=" | .conj => "and" | .disj => "or" | .pick => "pick"
def Sg.many:Sg->Nat
 | .neg=>1 | .pick=>3 | _=>2
inductive Ex where
 | num (n:Int) | nam (x:Str) | un (a:Ex) | bi (s:Sg) (a b:Ex) | pick (c a b:Ex)
def b2n(b:Bool):Int:=if b=true then 1 else 0
def rk2(s:Sg)(a b:Int):Int:=match s with
 | .add=>a + b
 | .sub=>a - b
 | .lt=>b2n (decide (a < b))
 | .eq=>b2n (decide (a=b))
 | .conj=>b2n (decide (a≠0) && decide (b≠0))
 | _=>b2n (decide (a≠0) || decide (b≠0))
def Sg.two:Sg->Bool
 | .neg=>false | .pick=>false | _=>true
def ev(ρ:Str->Int):Ex->Int
 | .num n=>n
 | .nam x=>ρ x
 | .un a=>b2n (decide (ev ρ a=0))
 | .bi s a b=>rk2 s (ev ρ a) (ev ρ b)
 | .pick c a b=>if ev ρ c≠0 then ev ρ a else ev ρ b
def dE:Ex->D
 | .num n => .tup [.str "num",.int n]
 | .nam x => .tup [.str "name",.str x]
 | .un a => .tup [.str "not",dE a]
 | .bi s a b => .tup [.str s.str,dE a,dE b]
 | .pick c a b => .tup [.str "pick",dE c,dE a,dE b]
def Ex.high:Ex->Nat
 | .num _=>0
 | .nam _=>0
 | .un a=>a.high + 1
 | .bi _ a b=>max a.high b.high + 1
 | .pick c a b=>max c.high (max a.high b.high) + 1
def Ex.ok:Ex->Prop
 | .num _=>True
 | .nam _=>True
 | .un a=>a.ok
 | .bi s a b=>s.two=true/\a.ok/\b.ok
 | .pick c a b=>c.ok/\a.ok/\b.ok
def Ex.over(p:Str->Prop):Ex->Prop
 | .num _=>True
 | .nam x=>p x
 | .un a=>a.over p
 | .bi _ a b=>a.over p/\b.over p
 | .pick c a b=>c.over p/\a.over p/\b.over p
def pc(s:Sg):s.str ≠ "num" := by cases s<;>decide +kernel
def ph(s:Sg):s.str ≠ "name" := by cases s<;>decide +kernel
def rkL(s:Sg)(ns:xA):Int:=match s,ns with
 | .neg,[a]=>b2n (decide (a=0))
 | .pick,[c,a,b]=>if c≠0 then a else b
 | s,[a,b]=>rk2 s a b
 | _,_=>0
theorem Ex.node(ρ:Str->Int)(p:Str->Prop):∀e:Ex,e.ok->e.over p->(∃n,e = .num n)\/(∃x,e = .nam x)\/∃(s:Sg) (cs:List Ex),dE e = .tup (.str s.str :: cs.map dE)/\ev ρ e=rkL s (cs.map (ev ρ))/\cs.length=s.many/\∀c∈cs,c.ok/\c.over p/\c.high < e.high
 | .num n,_,_ => .inl ⟨n,rfl⟩
 | .nam x,_,_ => .inr (.inl ⟨x,rfl⟩)
 | .un a,h,o => .inr (.inr ⟨.neg,[a],rfl,rfl,rfl,λc hc=>by
  have:c=a:=by simpa using hc
  subst this;exact⟨h,o,by show c.high < c.high + 1;omega⟩⟩)
 | .bi s a b,h,o => .inr (.inr ⟨s,[a,b],rfl,(by
  obtain⟨h1,_⟩:=h
  cases s<;>first | rfl | (cases h1)),(by
  obtain⟨h1,_⟩:=h
  cases s<;>first | rfl | (cases h1)),λc hc=>by
  obtain⟨_,h2,h3⟩:=h;have z:(Ex.bi s a b).high=max a.high b.high + 1:=rfl;rcases jL.mp hc with rfl | hc
  . exact⟨h2,o.1,by omega⟩
  . have:c=b:=by simpa using hc
    subst this;exact⟨h3,o.2,by omega⟩⟩)
 | .pick x a b,h,o => .inr (.inr ⟨.pick,[x,a,b],rfl,rfl,rfl,λc hc=>by
  obtain⟨h1,h2,h3⟩:=h;have z:(Ex.pick x a b).high=max x.high (max a.high b.high) + 1:=rfl;simp only[jL,jz,xk]at hc;rcases hc with rfl | rfl | rfl
  . exact⟨h1,o.1,by omega⟩
  . exact⟨h2,o.2.1,by omega⟩
  . exact⟨h3,o.2.2,by omega⟩⟩)
def Xd{ns:xA}(h:ns.length=2):∃a b,ns=[a,b]:=by
 match ns,h with
 | [a,b],_=>exact⟨a,b,rfl⟩
def mkE:Sg->List Ex->Ex
 | .neg,[a] => .un a
 | .pick,[c,a,b] => .pick c a b
 | s,[a,b] => .bi s a b
 | _,_ => .num 0
def AC(hl:cs.length=s.many)(ρ:Str->Int):dE (mkE s cs) = .tup (.str s.str :: cs.map dE)/\ev ρ (mkE s cs)=rkL s (cs.map (ev ρ)):=by
 cases s with
 | neg=>match cs,hl with | [a],_=>exact⟨rfl,rfl⟩
 | pick=>match cs,hl with | [x,a,b],_=>exact⟨rfl,rfl⟩
 | add=>match cs,hl with | [a,b],_=>exact⟨rfl,rfl⟩
 | sub=>match cs,hl with | [a,b],_=>exact⟨rfl,rfl⟩
 | lt=>match cs,hl with | [a,b],_=>exact⟨rfl,rfl⟩
 | eq=>match cs,hl with | [a,b],_=>exact⟨rfl,rfl⟩
 | conj=>match cs,hl with | [a,b],_=>exact⟨rfl,rfl⟩
 | disj=>match cs,hl with | [a,b],_=>exact⟨rfl,rfl⟩
structure Mk where
 so:Int->Option Sg
 si:Int->Ex
 c0:Int
 j:Sg
theorem Ex.node2(p:Str->Prop):∀e:Ex,e.ok->e.over p->(∃n,e = .num n)\/(∃x,e = .nam x)\/∃(s:Sg) (cs:List Ex),e=mkE s cs/\cs.length=s.many/\∀c∈cs,c.ok/\c.over p/\c.high < e.high
 | .num n,_,_ => .inl ⟨n,rfl⟩
 | .nam x,_,_ => .inr (.inl ⟨x,rfl⟩)
 | .un a,h,o => .inr (.inr ⟨.neg,[a],rfl,rfl,λc hc=>by
  have:c=a:=by simpa using hc
  subst this;exact⟨h,o,by show c.high < c.high + 1;omega⟩⟩)
 | .bi s a b,h,o => .inr (.inr ⟨s,[a,b],(by
  obtain⟨h1,_⟩:=h
  cases s<;>first | rfl | (cases h1)),(by
  obtain⟨h1,_⟩:=h
  cases s<;>first | rfl | (cases h1)),λc hc=>by
  obtain⟨_,h2,h3⟩:=h;have z:(Ex.bi s a b).high=max a.high b.high + 1:=rfl;rcases jL.mp hc with rfl | hc
  . exact⟨h2,o.1,by omega⟩
  . have:c=b:=by simpa using hc
    subst this;exact⟨h3,o.2,by omega⟩⟩)
 | .pick x a b,h,o => .inr (.inr ⟨.pick,[x,a,b],rfl,rfl,λc hc=>by
  obtain⟨h1,h2,h3⟩:=h;have z:(Ex.pick x a b).high=max x.high (max a.high b.high) + 1:=rfl;simp only[jL,jz,xk]at hc;rcases hc with rfl | rfl | rfl
  . exact⟨h1,o.1,by omega⟩
  . exact⟨h2,o.2.1,by omega⟩
  . exact⟨h3,o.2.2,by omega⟩⟩)
def JO(f:xy)(n:Str):xy:=if n∈f then f else f ++ [n]
def Ex.nms:Ex->xy
 | .num _=>[]
 | .nam x=>[x]
 | .un a=>a.nms.foldl JO []
 | .bi _ a b=>b.nms.foldl JO (a.nms.foldl JO [])
 | .pick c a b=>b.nms.foldl JO (a.nms.foldl JO (c.nms.foldl JO []))
def AD(hl:cs.length=s.many):(mkE s cs).nms=cs.foldl (λf c=>c.nms.foldl JO f) []:=by
 cases s with
 | neg=>match cs,hl with | [a],_=>rfl
 | pick=>match cs,hl with | [x,a,b],_=>rfl
 | add=>match cs,hl with | [a,b],_=>rfl
 | sub=>match cs,hl with | [a,b],_=>rfl
 | lt=>match cs,hl with | [a,b],_=>rfl
 | eq=>match cs,hl with | [a,b],_=>rfl
 | conj=>match cs,hl with | [a,b],_=>rfl
 | disj=>match cs,hl with | [a,b],_=>rfl
def AE{p:Str->Prop}(hn:p n)(h:f.Nodup/\∀x∈f,p x):(JO f n).Nodup/\∀x∈JO f n,p x:=by
 unfold JO;split
 . exact h
 . rename_i hc;refine⟨?_,λx hx=>?_⟩
   . rw[kQ]
     exact⟨h.1,by simp,λa ha b hb e=>by
      have:b=n:=by simpa using hb
      subst e this;exact hc ha⟩
   . rcases jO.mp hx with hx | hx
     . exact h.2 x hx
     . have:x=n:=by simpa using hx
       subst this;exact hn
theorem Xv{p:Str->Prop}:∀(l:xy) {f:xy},(∀x∈l,p x)->(f.Nodup/\∀x∈f,p x)->(l.foldl JO f).Nodup/\∀x∈l.foldl JO f,p x
 | [],_,_,h=>h
 | n :: l,f,hl,h=>Xv l (λx hx=>hl x (jS _ hx)) (AE (hl n 'j') h)
theorem Xw:∀e:Ex,e.over p->e.nms.Nodup/\∀x∈e.nms,p x
 | .num _,_=>⟨jx,λx hx=>nomatch hx⟩
 | .nam x,h=>⟨by simp[Ex.nms],λy hy=>by
  have:y=x:=by simpa [Ex.nms] using hy
  subst this;exact h⟩
 | .un a,h=>Xv _ (Xw a h).2 ⟨jx,λx hx=>nomatch hx⟩
 | .bi _ a b,h=>Xv _ (Xw b h.2).2 (Xv _ (Xw a h.1).2 ⟨jx,λx hx=>nomatch hx⟩)
 | .pick c a b,h=>Xv _ (Xw b h.2.2).2 (Xv _ (Xw a h.2.1).2 (Xv _ (Xw c h.1).2 ⟨jx,λx hx=>nomatch hx⟩))
theorem fQ:∀{l m:xy},l.Nodup->(∀x∈l,x∈m)->l.length<=m.length
 | [],_,_,_=>jX _
 | x :: l,m,hn,hs=>by
  have hx:x∈m:=hs x 'j';rw[j5]at hn;have:=fQ (l:=l) (m:=m.erase x) hn.2 λy hy=>(List.mem_erase_of_ne (λe:y=x=>hn.1 (e ▸ hy))).mpr (hs y (jS _ hy));rw[List.length_erase_of_mem hx]at this;have:0 < m.length:=List.length_pos_of_mem hx;rw[jP];omega
def Xx(f:xy)(cs:List Ex):xy:=cs.foldl (λf c=>c.nms.foldl JO f) f
theorem pi:∀(cs:List Ex) {f:xy},(∀c∈cs,c.over p)->(f.Nodup/\∀x∈f,p x)->(Xx f cs).Nodup/\∀x∈Xx f cs,p x
 | [],_,_,h=>h
 | c :: cs,f,hc,h=>pi cs (λx hx=>hc x (jS _ hx)) (Xv _ (Xw c (hc c 'j')).2 h)
def AF(f:xy)(cs:List Ex)(c:Ex):Xx f (cs ++ [c])=c.nms.foldl JO (Xx f cs):=by
 unfold Xx;rw[qH];rfl
def cz(a:Str):¬ltS a a:=List.lt_irrefl _
def Z4(x:Str):xy->xy
 | []=>[x]
 | y :: r=>if x=y then y :: r else if decide (x.cps.toList < y.cps.toList)=true then x :: y :: r else y :: Z4 x r
def srt(l:xy):xy:=l.foldr Z4 []
theorem fR:∀{l:xy},k∈Z4 x l↔k=x\/k∈l
 | []=>by simp[Z4]
 | y :: r=>by
  unfold Z4;split
  . rename_i h;subst h;simp
  . split
    . simp
    . rw[jL,fR (l:=r),jL];exact⟨λh=>h.elim (λh => .inr (.inl h)) λh=>h.elim .inl λh => .inr (.inr h),λh=>h.elim (λh => .inr (.inl h)) λh=>h.elim .inl λh => .inr (.inr h)⟩
theorem pj:∀{l:xy},l.Pairwise ltS->(Z4 x l).Pairwise ltS
 | [],_=>List.pairwise_singleton _ _
 | y :: r,h=>by
  obtain⟨h1,h2⟩:=kZ.mp h;unfold Z4;split
  . exact h
  . rename_i ne;split
    . rename_i lt;have lt:ltS x y:=x5 lt;exact kZ.mpr ⟨λk hk=>(jL.mp hk).elim (λe=>e ▸ lt) λhk=>ba lt (h1 k hk),h⟩
    . rename_i nl;have lt:ltS y x:=eZ ne λz=>nl (qm z);exact kZ.mpr ⟨λk hk=>(fR.mp hk).elim (λe=>e ▸ lt) λhk=>h1 k hk,pj h2⟩
theorem Qy:∀{l:xy},k∈srt l↔k∈l
 | []=>Iff.rfl
 | x :: l=>by
  show k∈Z4 x (srt l)↔_;rw[fR,Qy (l:=l),jL]
theorem QU:∀l:xy,(srt l).Pairwise ltS
 | []=>List.Pairwise.nil
 | _ :: l=>pj (QU l)
theorem pk:∀{l m:xy},l.Pairwise ltS->m.Pairwise ltS->(∀k,k∈l↔k∈m)->l=m
 | [],[],_,_,_=>rfl
 | [],b :: m,_,_,h=>absurd ((h b).mpr (jb ..)) (λz=>nomatch z)
 | a :: l,[],_,_,h=>absurd ((h a).mp (jb ..)) (λz=>nomatch z)
 | a :: l,b :: m,hl,hm,h=>by
  obtain⟨l1,l2⟩:=kZ.mp hl;obtain⟨m1,m2⟩:=kZ.mp hm
  have e:a=b:=by
   rcases jL.mp ((h a).mp (jb ..)) with e | ha
   . exact e
   rcases jL.mp ((h b).mpr (jb ..)) with e | hb
   . exact e.symm
   exact absurd (ba (m1 a ha) (l1 b hb)) (cz _)
  subst e;refine qP (a :: ·) (pk l2 m2 λk=>⟨λhk=>?_,λhk=>?_⟩)
  . rcases jL.mp ((h k).mp (jS _ hk)) with e | z
    . exact absurd (l1 k hk) (e ▸ cz _)
    . exact z
  . rcases jL.mp ((h k).mpr (jS _ hk)) with e | z
    . exact absurd (m1 k hk) (e ▸ cz _)
    . exact z
def cA(pw:ss.Pairwise ltS)(m:∀k,k∈ss↔k∈l):ss=srt l:=pk pw (QU l) λk=>(m k).trans Qy.symm
def Zo{l:xy}(h:l.Pairwise ltS):l.Nodup:=List.nodup_iff_pairwise_ne.mpr (h.imp fun {a b} h e=>by rw[e]at h;exact cz _ h)
def kM(ks:xy)(f:Str->V):List (Key×V):=ks.map λx=>((Sum.inr x:Key),f x)
def AG(h:∀x∈ks,f x=g x):kM ks f=kM ks g:=j9 λx hx=>by rw[h x hx]
theorem pA(f:Str->V)(x:Str):∀ks:xy,((kM ks f).any λkv=>decide (kv.1=Sum.inr x))=decide (x∈ks)
 | []=>rfl
 | a :: r=>by
  show(decide ((Sum.inr a:Key)=Sum.inr x) || (kM r f).any λkv=>decide (kv.1=Sum.inr x))=_;rw[pA f x r,Bool.eq_iff_iff];simp only[Bool.or_eq_true,decide_eq_true_eq,Sum.inr.injEq,jL];exact⟨λh=>h.imp Eq.symm id,λh=>h.imp Eq.symm id⟩
theorem pC(f:Str->V)(x:Str):∀ks:xy,Q4 (kM ks f) (Sum.inr x)=if x∈ks then some (f x) else none
 | []=>rfl
 | a :: r=>by
  have ih:=pC f x r;unfold Q4 kM at ih ⊢;rw[jf,kJ]
  by_cases e:a=x
  . subst e;simp
  . have:decide ((Sum.inr a:Key)=Sum.inr x)=false:=qk λz=>e (Sum.inr.inj z);rw[this];dsimp only;rw[ih]
    by_cases m:x∈r
    . rw[qh m,qh (jS _ m)]
    . rw[qg m,qg λz=>(jL.mp z).elim (λz=>e z.symm) m]
def Y2(ks:xy)(x:Str):xy:=if x∈ks then ks else ks ++ [x]
theorem AH:y∈Y2 ks x↔y∈ks\/y=x:=by
 unfold Y2;split
 . rename_i h;exact⟨.inl,λz=>z.elim id λe=>e ▸ h⟩
 . simp
def AI(ks:xy)(f:Str->V)(x:Str)(v:V):JP (kM ks f) (Sum.inr x) v=kM (Y2 ks x) λy=>if y=x then v else f y:=by
 unfold JP Y2;rw[pA]
 by_cases m:x∈ks
 . rw[qh (qm m),qh m];show List.map _ (List.map _ ks)=List.map _ ks;rw[kK];refine j9 λy _=>?_
   by_cases e:y=x
   . subst e;simp
   . simp[e]
 . rw[qg (by simp[m]),qg m];show List.map _ ks ++ [_]=List.map _ (ks ++ [x]);rw[jo];congr 1
   . refine j9 λy hy=>?_;dsimp only;rw[qg (λe:y=x=>m (by rw[<- e];exact hy))]
   . simp
def unS(ks ms:xy):xy:=ms.foldl Y2 ks
theorem pD:∀{ms ks:xy}{y:Str},y∈unS ks ms↔y∈ks\/y∈ms
 | [],ks,y=>by simp[unS]
 | m :: ms,ks,y=>by
  show y∈unS (Y2 ks m) ms↔_;rw[pD,AH,jL,or_assoc]
def Ex.rds:Ex->xy
 | .num _=>[]
 | .nam x=>[x]
 | .un a=>a.rds
 | .bi _ a b=>a.rds ++ b.rds
 | .pick c a b=>c.rds ++ (a.rds ++ b.rds)
theorem AJ:x∈JO f n↔x∈f\/x=n:=by
 unfold JO;split
 . rename_i h;exact⟨.inl,λz=>z.elim id λe=>e ▸ h⟩
 . simp
theorem Zp:∀(l:xy) {f:xy},x∈l.foldl JO f↔x∈f\/x∈l
 | [],f=>by simp
 | n :: l,f=>by rw[List.foldl_cons,Zp l,AJ,jL,or_assoc]
theorem Z5:∀e:Ex,x∈e.nms↔x∈e.rds
 | .num _=>Iff.rfl
 | .nam _=>Iff.rfl
 | .un a=>by show x∈a.nms.foldl JO []↔x∈a.rds;rw[Zp,Z5 a];simp
 | .bi s a b=>by show x∈b.nms.foldl JO (a.nms.foldl JO [])↔x∈a.rds ++ b.rds;rw[Zp,Zp,Z5 a,Z5 b];simp
 | .pick c a b=>by show x∈b.nms.foldl JO (a.nms.foldl JO (c.nms.foldl JO []))↔x∈c.rds ++ (a.rds ++ b.rds);rw[Zp,Zp,Zp,Z5 a,Z5 b,Z5 c];simp[or_assoc]
theorem Xy:∀e:Ex,e.over p↔∀x∈e.rds,p x
 | .num _=>⟨λ_ x hx=>(nomatch hx),λ_=>trivial⟩
 | .nam y=>⟨λh x hx=>(by
  have:x=y:=by simpa [Ex.rds] using hx
  rw[this];exact h),λh=>h y (by simp[Ex.rds])⟩
 | .un a=>Xy a
 | .bi s a b=>by
  show a.over p/\b.over p↔∀x∈a.rds ++ b.rds,p x;rw[Xy a,Xy b];exact⟨λh x hx=>(jO.mp hx).elim (h.1 x) (h.2 x),λh=>⟨λx hx=>h x (jZ _ hx),λx hx=>h x (jN _ hx)⟩⟩
 | .pick c a b=>by
  show c.over p/\a.over p/\b.over p↔∀x∈c.rds ++ (a.rds ++ b.rds),p x;rw[Xy c,Xy a,Xy b];exact⟨λh x hx=>(jO.mp hx).elim (h.1 x) λhx=>(jO.mp hx).elim (h.2.1 x) (h.2.2 x),λh=>⟨λx hx=>h x (jZ _ hx),λx hx=>h x (jN _ (jZ _ hx)),λx hx=>h x (jN _ (jN _ hx))⟩⟩
def Xz(e:Ex):Prop:=e.ok/\e.high < 10/\e.rds.length<=12
def pE(h:Xz e):e.nms.length<=12:=by
 have o:e.over (λn=>n∈e.rds):=(Xy e).mpr λ_ h=>h;obtain⟨h1,h2⟩:=Xw e o;exact jh (fQ h1 h2) h.2.2
local macro_rules | `(tactic| walk_at "sd") => `(tactic| (try dsimp only); first | decide | omega | assumption | (refine ⟨?_, ?_⟩ <;> first | decide | omega | assumption) | (refine ⟨?_, ?_, ?_⟩ <;> first | decide | omega | assumption))
local macro_rules | `(tactic| walk_at "rd1") => `(tactic| first
 | refine⟨_,rfl,?_⟩
 | refine⟨_,_,rfl,rfl,?_⟩
 | refine⟨_,_,rfl,?_⟩
 | refine .inl ⟨_,_,rfl,rfl,?_⟩
 | refine .inr (.inl ⟨_,_,rfl,rfl,?_⟩)
 | refine .inr (.inr (.inl ⟨_,_,rfl,rfl,?_⟩))
 | refine .inl ⟨_,rfl,?_⟩
 | refine .inr ⟨_,rfl,?_⟩
 | refine⟨rfl,?_⟩
 | (refine And.intro ?sd ?_;(case sd=>walk_at "sd"))
 | (refine' .inr (.inl ⟨_,_,_,_,rfl,rfl,?hs,?ha,?_⟩);(case hs=>assumption);(case ha=>rfl))
 | (refine'⟨_,_,_,rfl,?hs,?hk,?_⟩;(case hs=>assumption);(case hk=>decide)))
local macro_rules | `(tactic| walk_at "rd") => `(tactic| repeat (walk_at "rd1"))
local macro_rules | `(tactic| walk_at "mk") => `(tactic| repeat' (first
 | exact mk_str
 | exact mk_int
 | exact mk_varS rfl
 | exact mk_var rfl (by assumption)
 | exact mks_nil
 | refine mks_cons ?_ ?_
 | refine mk_tup ?_ ?_
 | refine mk_lst ?_ ?_
 | exact mkS_lit 'f'
 | exact mkS_var rfl (by assumption)
 | apply mk_addS
 | apply mkS_add
 | refine mk_cat ?_ ?_ ?_
 | exact few100 (Nat.le_of_ble_eq_true rfl)
 | (show _<=sizeLine;decide)))
section
variable {P:J1}{w:J2}{K:xt}{mg:xq}{base:Heap}
def fU:Sp:=λvs H Q _=>∃a b,vs=[.int a,.int b]/\Q (.int (G a b)) H
def AK(B:Bl mg)(F:Fn K mg "divisor" bq ["one", "other"]):Def P w K mg base "divisor" 1 ["one", "other"] fU:=by
 refine F.ok ZX (λvs H Q E h=>?_) (λf xD A outer s H vs Q E hr h=>?_)
 . obtain⟨a,b,rfl,_⟩:=h;rfl
 obtain⟨a,b,rfl,q⟩:=h
 refine⟨_,(@J7 _ _ _ _ _ (Jg (i:=0) ZX.nd rfl 'b' (Qk iT rfl B.abs PyProof.Rows.boot_abs (J4 (pv 0) J6)))
  (@J7 _ _ _ _ _ (Jg (i:=1) ZX.nd rfl 'b' (Qk iT rfl B.abs PyProof.Rows.boot_abs (J4 (pv 1) J6)))
  (@J7 _ _ _ _ _ (iD PassesOwn.never (Jo Xo (pv 1) J5 (Jk _)) (@J7 _ _ _ _ _ (Jg (i:=2) ZX.nd rfl 'b' (J9 JH (pv 0) (pv 1)))
  (@J7 _ _ _ _ _ (Jg (i:=0) ZX.nd rfl 'b' (pv 1))
  (@Jc _ _ _ (Jg (i:=1) ZX.nd rfl 'b' (pv 2))))))
  (@Jc _ _ _ (Ji (pv 0)))))),?_⟩
 walk_at "rd"
 refine iJ (λσ H'=>H'=H/\∃x y r,σ=[some (.int x),some (.int y),r]/\0<=x/\0<=y/\G x y=G a b)
  (λσ _=>match σ with | [_,some (.int y),_]=>y.toNat | _=>0) ?_ ?_ ?_
 . exact⟨rfl,_,_,_,rfl,oV a,oV b,Ar a b⟩
 . rintro σ H' ⟨rfl,x,y,r,rfl,hx,hy,e⟩;walk_at "rd";refine XQ (λc=>?_) (λc=>?_)
   . have hy':0 < y:=by omega
     refine⟨_,rfl,_,rfl,_,_,rfl,rfl,hy',?_⟩;walk_at "rd";have h1:=qF x c;have h2:=ke x hy';refine⟨⟨rfl,_,_,_,rfl,hy,h1,(oZ hx hy').trans e⟩,?_⟩;show(x % y).toNat < y.toNat;omega
   . walk_at "rd";have:=oY hx c;rw[e]at this;show Q (.int x) H';rw[<- this];exact q
 . rintro σ H' R R' m ⟨v,e,h⟩;refine⟨v,e,?_⟩;obtain⟨i,j,e1,e2,k,e3,h⟩:=h;exact⟨i,j,e1,e2,k,e3,m _ _ h⟩
end
section
variable {P:J1}{w:J2}{K:xt}{mg:xq}{base:Heap}{CS CW:J0}
def pF:Sp:=λvs H Q _=>∃i,vs=[.int i]/\Q (.bl true) H
def AL(B:Bl mg)(F:Fn K mg "is_whole" br ["thing"]):Def P w K mg base "is_whole" 1 ["thing"] pF:=by
 refine F.ok Ab (λvs H Q E h=>?_) (λf xD A outer s H vs Q E hr h=>?_)
 . obtain⟨i,rfl,_⟩:=h;rfl
 obtain⟨i,rfl,q⟩:=h;refine⟨_,(@Jc _ _ _ (Ji (iw (Qk (mq K rfl) rfl B.isinstance PyProof.Rows.boot_isinstance (J4 (pv 0) (J4 (iu (v := .ty "int") rfl B.int PyProof.Rows.boot_int rfl) J6))) (dA (u5 (Qk (mq K rfl) rfl B.isinstance PyProof.Rows.boot_isinstance (J4 (pv 0) (J4 (iu (v := .ty "bool") rfl B.bool PyProof.Rows.boot_bool rfl) J6)))))))),?_⟩;refine⟨_,rfl,_,_,.type "int",true,rfl,rfl,.of (.int i),rfl,_,rfl,Yt ?_⟩;refine⟨_,rfl,_,_,.type "int",false,rfl,rfl,.of (.int i),rfl,_,rfl,?_⟩;exact q
def fV(K:xt):Sp:=λvs H Q _=>∃t b,vs=[.int t,.int b]/\b≠0/\b.natAbs < 2 ^ 8000/\∀p H',Same H H'->IsD K H' (dF (Rat.divInt t b)) (.ref p)->Q (.ref p) H'
def AM(B:Bl mg)(F:Fn K mg "fraction" bt ["top", "bottom"])(cB:Def P w K mg base "is_whole" 1 ["thing"] pF)(Y3:Def P w K mg base "divisor" 1 ["one", "other"] fU) :
 Def P w K mg base "fraction" 2 ["top", "bottom"] (fV K):=by
 refine F.ok fJ (λvs H Q E h=>?_) (λf xD A outer s H vs Q E hr h=>?_)
 . obtain⟨t,b,rfl,_⟩:=h;rfl
 obtain⟨t,b,rfl,hb,hz,q⟩:=h
 refine⟨_,(@J7 _ _ _ _ _ (Js (PW.pt (tV (du (av (Jh cB hr rfl (J4 (pv 0) J6)))) (tR (du (av (Jh cB hr rfl (J4 (pv 1) J6))))))) (@Jc _ _ _ iB) Ju)
  (@J7 _ _ _ _ _ (Js (Jo (JK.or (Jx.or (JL.or (JN K rfl hr.units)))) (pv 1) J5 (Jk _)) (@Jc _ _ _ iB) Ju)
  (@J7 _ _ _ _ _ (Jg (i:=2) fJ.nd rfl 'b' (Jh Y3 hr rfl (J4 (pv 0) (J4 (pv 1) J6))))
  (@J7 _ _ _ _ _ (Js (Jo Yq (pv 1) J5 (Jk _)) (@Jc _ _ _ (Jg (i:=2) fJ.nd rfl 'b' (um uq (pv 2)))) Ju)
  (@Jc _ _ _ (Ji (JV (J4 (J9 aH (pv 0) (pv 2)) (J4 (J9 aH (pv 1) (pv 2)) J6))))))))),?_⟩
 walk_at "rd";refine Jt (λc=>absurd c hb) (λ_=>?_);walk_at "rd";have fr:=cv (t:=t) hb;have gl:=fM (a:=t) hb;have g0:=Zn (a:=t) hb;have gz:(G t b).natAbs < 2 ^ 8000:=by omega
 have gz':(-(G t b)).natAbs < 2 ^ 8000:=by omega
 unfold sg at fr;refine Jt (λc=>?_) (λc=>?_)
 . rw[qh c]at fr;walk_at "rd";refine⟨⟨by omega,Z3 gz' 'f'⟩,?_⟩;walk_at "rd";refine⟨⟨by omega,Z3 gz' 'f'⟩,(by show 2<=sizeLine;decide),λp hp=>q p _ (Ja hp _) ?_⟩;unfold dF;rw[<- fr.1,<- fr.2];exact YX J8
 . rw[qg c]at fr;walk_at "rd";refine⟨⟨by omega,Z3 gz 'f'⟩,?_⟩;walk_at "rd";refine⟨⟨by omega,Z3 gz 'f'⟩,(by show 2<=sizeLine;decide),λp hp=>q p _ (Ja hp _) ?_⟩;unfold dF;rw[<- fr.1,<- fr.2];exact YX J8
def fX(K:xt):Sp:=λvs H Q _=>∃x y r s,vs=[x,y]/\IsD K H (dF r) x/\IsD K H (dF s) y/\sz r/\sz s/\∀p H',Same H H'->IsD K H' (dF (r + s)) (.ref p)->Q (.ref p) H'
def AN(B:Bl mg)(F:Fn K mg "plus" bu ["one", "other"])(Y3:Def P w K mg base "divisor" 1 ["one", "other"] fU)(Zq:Def P w K mg base "fraction" 2 ["top", "bottom"] (fV K)):Def P w K mg base "plus" 3 ["one", "other"] (fX K):=by
 refine F.ok YR (λvs H Q E h=>?_) (λf xD A outer s H vs Q E hr h=>?_)
 . obtain⟨x,y,r,s,rfl,_⟩:=h;rfl
 obtain⟨x,y,r,s,rfl,hx,hy,zr,zs,q⟩:=h;obtain⟨a,rfl,qa⟩:=QT hx;obtain⟨b,rfl,qb⟩:=QT hy;have zd:((r.den:Int)).natAbs < 2 ^ 2000:=by have:=zr.2;omega
 have ze:((s.den:Int)).natAbs < 2 ^ 2000:=by have:=zs.2;omega
 have dr:=Qf r;have ds:=Qf s;have al:=AB r s;have g0:=Zn (a:=(r.den:Int)) (b:=(s.den:Int)) 'd';have gl:=fM (a:=(r.den:Int)) (b:=(s.den:Int)) 'd';have gz:(G (r.den:Int) (s.den:Int)).natAbs < 2 ^ 2000:=by omega
 have oz:((r.den:Int) / G (r.den:Int) (s.den:Int)).natAbs < 2 ^ 2000:=js (Int.natAbs_ediv_le_natAbs ..) zd;have uz:((s.den:Int) / G (r.den:Int) (s.den:Int)).natAbs < 2 ^ 2000:=js (Int.natAbs_ediv_le_natAbs ..) ze
 refine⟨_,(@J7 _ _ _ _ _ (Jg (i:=2) YR.nd rfl 'b' (Jh Y3 hr rfl (J4 (Jf (Je K rfl) (pv 0) J5 (λ_ _=>rfl)) (J4 (Jf (Je K rfl) (pv 1) J5 (λ_ _=>rfl)) J6))))
  (@J7 _ _ _ _ _ (Jg (i:=3) YR.nd rfl 'b' (J9 Q5 (Jf (Je K rfl) (pv 0) J5 (λ_ _=>rfl)) (pv 2)))
  (@J7 _ _ _ _ _ (Jg (i:=4) YR.nd rfl 'b' (J9 Q5 (Jf (Je K rfl) (pv 1) J5 (λ_ _=>rfl)) (pv 2)))
  (@J7 _ _ _ _ _ (Jg (i:=5) YR.nd rfl 'b' (Jh Zq hr rfl (J4 (J9 (JB.or (JI.or (JJ.or (JM K rfl)))) (J9 Q3 (Jf (Je K rfl) (pv 0) J5 (λ_ _=>rfl)) (pv 4)) (J9 Q3 (Jf (Je K rfl) (pv 1) J5 (λ_ _=>rfl)) (pv 3))) (J4 (pv 2) J6))))
  (@Jc _ _ _ (Ji (JV (J4 (Jf (Je K rfl) (pv 5) J5 (λ_ _=>rfl)) (J4 (J9 Q3 (J9 Q3 (Jf (Je K rfl) (pv 5) J5 (λ_ _=>rfl)) (pv 3)) (pv 4)) J6))))))))),?_⟩
 walk_at "rd";refine⟨⟨g0,Z3 gz 'f'⟩,?_⟩;walk_at "rd";refine⟨⟨g0,Z3 gz 'f'⟩,?_⟩;walk_at "rd";refine⟨Q8 zr.1 uz 'f',?_⟩;walk_at "rd";refine⟨Q8 zs.1 oz 'f',?_⟩;walk_at "rd";intro p H' sm d;obtain⟨_,e,qp⟩:=QT d;cases e;have pz:=(cw (t:=r.num * ((s.den:Int) / G (r.den:Int) (s.den:Int)) + s.num * ((r.den:Int) / G (r.den:Int) (s.den:Int))) (b:=G (r.den:Int) (s.den:Int)) 'd').2;generalize Rat.divInt (r.num * ((s.den:Int) / G (r.den:Int) (s.den:Int)) + s.num * ((r.den:Int) / G (r.den:Int) (s.den:Int))) (G (r.den:Int) (s.den:Int))=v at al pz qp d;have vz:((v.den:Int)).natAbs < 2 ^ 2000:=by omega
 have vo:((v.den:Int) * ((r.den:Int) / G (r.den:Int) (s.den:Int))).natAbs < 2 ^ 4000:=by
  rw[Int.natAbs_mul];have:=Nat.mul_lt_mul'' vz oz
  rwa [<- Nat.pow_add]at this
 walk_at "rd";refine⟨Q8 vz oz 'f',?_⟩;walk_at "rd";refine⟨Q8 vo uz 'f',(by show 2<=sizeLine;decide),λp2 hp2=>q p2 _ (sm.trans (Ja hp2 _)) ?_⟩;unfold dF;rw[<- al.1,<- al.2];exact YX J8
def pG(K:xt):Sp:=λvs H Q _=>∃x y r s,vs=[x,y]/\IsD K H (dF r) x/\IsD K H (dF s) y/\sz r/\sz s/\∀p H',Same H H'->H p=none->IsD K H' (dF (r * s)) (.ref p)->Q (.ref p) H'
def AO(B:Bl mg)(F:Fn K mg "times" bv ["one", "other"])(Zq:Def P w K mg base "fraction" 2 ["top", "bottom"] (fV K)):Def P w K mg base "times" 3 ["one", "other"] (pG K):=by
 refine F.ok fK (λvs H Q E h=>?_) (λf xD A outer s H vs Q E hr h=>?_)
 . obtain⟨x,y,r,s,rfl,_⟩:=h;rfl
 obtain⟨x,y,r,s,rfl,hx,hy,zr,zs,q⟩:=h;obtain⟨a,rfl,qa⟩:=QT hx;obtain⟨b,rfl,qb⟩:=QT hy;have zd:((r.den:Int)).natAbs < 2 ^ 2000:=by have:=zr.2;omega
 have ze:((s.den:Int)).natAbs < 2 ^ 2000:=by have:=zs.2;omega
 have dr:=Qf r;have ds:=Qf s;have al:=AA r s;have big:(2:Nat) ^ 2000<=2 ^ 8000:=kj 'f' 'f'
 refine⟨_,(@J7 _ _ _ _ _ (Jg (i:=2) fK.nd rfl 'b' (Jh Zq hr rfl (J4 (Jf (Je K rfl) (pv 0) J5 (λ_ _=>rfl)) (J4 (Jf (Je K rfl) (pv 1) J5 (λ_ _=>rfl)) J6))))
  (@J7 _ _ _ _ _ (Jg (i:=3) fK.nd rfl 'b' (Jh Zq hr rfl (J4 (Jf (Je K rfl) (pv 1) J5 (λ_ _=>rfl)) (J4 (Jf (Je K rfl) (pv 0) J5 (λ_ _=>rfl)) J6))))
  (@Jc _ _ _ (Ji (JV (J4 (J9 Q3 (Jf (Je K rfl) (pv 2) J5 (λ_ _=>rfl)) (Jf (Je K rfl) (pv 3) J5 (λ_ _=>rfl))) (J4 (J9 Q3 (Jf (Je K rfl) (pv 2) J5 (λ_ _=>rfl)) (Jf (Je K rfl) (pv 3) J5 (λ_ _=>rfl))) J6))))))),?_⟩
 walk_at "rd";intro p H' sm d;obtain⟨_,e,qp⟩:=QT d;cases e;have qa:=sm.tupq qa;have qb:=sm.tupq qb;walk_at "rd";intro p2 H2 sm2 d2;obtain⟨_,e,qp2⟩:=QT d2;cases e;have qp:=sm2.tupq qp;have l1:=cw (t:=r.num) (b:=(s.den:Int)) 'd';have l2:=cw (t:=s.num) (b:=(r.den:Int)) 'd';generalize Rat.divInt r.num (s.den:Int)=u at al l1 qp;generalize Rat.divInt s.num (r.den:Int)=v at al l2 qp2;have zrn:=zr.1;have zsn:=zs.1;have u1:u.num.natAbs < 2 ^ 2000:=by omega
 have u2:((u.den:Int)).natAbs < 2 ^ 2000:=by omega
 have v1:v.num.natAbs < 2 ^ 2000:=by omega
 have v2:((v.den:Int)).natAbs < 2 ^ 2000:=by omega
 walk_at "rd";refine⟨Q8 u1 v1 'f',?_⟩;walk_at "rd";refine⟨Q8 u2 v2 'f',(by show 2<=sizeLine;decide),λp3 hp3=>q p3 _ ((sm.trans sm2).trans (Ja hp3 _)) ((sm.trans sm2).free hp3) ?_⟩;unfold dF;rw[<- al.1,<- al.2];exact YX J8
def QH(r:xA×Rat):D := .tup [.tup (r.1.map D.int),dF r.2]
def JW(ns:xA)(ps:xA):xA:=ps.map λj=>ns.getD j.toNat 0
def cC(K:xt):Sp:=λvs H Q _=>∃(v p:J0) (ns ps:xA),vs=[.ref v,.ref p]/\SqT K H v (ns.map V.int)/\SqL K H p (ps.map V.int)/\(∀j∈ps,0<=j/\j < ns.length)/\ps.length<=100 /\
 ∀t H',H t=none->Same H H'->H' t=some (.tup ((JW ns ps).map V.int))->Q (.ref t) H'
def AQ{ix:xz}{wi:TI}{te:TE}{r:List V->Hp->VK->Prop}{D:Ends}(h:wi σ H (Qg ix te σ λx H1=>r [x] H1 D.rt)):dB (tCB r (Jy (QF ix wi X4 te) JR)) D σ H:=h
def AR(B:Bl mg)(F:Fn K mg "chosen" bA ["values", "places"]):Def P w K mg base "chosen" 1 ["values", "places"] (cC K):=by
 refine F.ok Ae (λvs H Q E h=>?_) (λf xD A outer s H vs Q E hr h=>?_)
 . obtain⟨v,p,ns,ps,rfl,_⟩:=h;rfl
 obtain⟨v,p,ns,ps,rfl,qv,qp,hj,hl,q⟩:=h;refine⟨_,(@Jc _ _ _ (Ji (QD (aN K rfl) rfl B.tuple PyProof.Rows.boot_tuple (J4 (QQ (CompOk.of (x := "place") (M:=["values"]) (ix:=[0]) rfl rfl (by decide +kernel) (by decide +kernel) rfl ⟨rfl,trivial⟩ 'g' ⟨⟨rfl,rfl,rfl,rfl⟩,trivial⟩) rfl (by decide +kernel) (Qi (pv 1)) (λ_ _ _ _ _=>Xp) (λ_ _ _ _ _=>(Jf (Je K rfl) (pv 1) (pv 0) (λ_ _=>rfl)))) J6)))),?_⟩;refine AQ ?_;refine⟨_,rfl,p,rfl,⟨_,qp⟩,?_⟩;refine mf (K:=K) (xs:=ps.map V.int) ((JW ns ps).map D.int) qp (by unfold JW;simp) (by rw[jA];exact kE (ZF 'd')) (Yw _) (λi x d H' R hx hd sm hR=>?_) (λl H' sm dl=>?_)
 . unfold JW at hd;rw[jF]at hx;rw[jF,jF]at hd
   cases en:ps[i]? with
   | none=>rw[en]at hx;cases hx
   | some j =>
    rw[en]at hx hd
    cases hx;cases hd
    obtain⟨j0,j1⟩:=hj j (jq en)
    have hat:atI (ns.map V.int) j=some (.int (ns.getD j.toNat 0)):=by
     have e:j=((j.toNat:Nat):Int):=by omega
     have hlt:j.toNat < ns.length:=by omega
     conv=>lhs;rw[e]
     refine Qb ?_;rw[jF,jC hlt];simp[List.getD,hlt]
    exact⟨_,rfl,_,rfl,.inr (.inl ⟨v,_,_,_,rfl,rfl,sm.tupq qv,hat,hR _ _ (Same.refl _) rfl⟩)⟩
 . obtain⟨l',ys,e,ql,dd⟩:=dl
   cases e
   rw[Zh dd]at ql;exact⟨l,_,rfl,.inl ⟨ql,λt ht=>q t _ (sm.free ht) (sm.trans (Ja ht _)) J8⟩⟩
def Qc(acc:List (xA×Rat))(k:xA):Option Rat:=(acc.find? λp=>decide (p.1=k)).map (·.2)
def JU{β:Type}(acc:List (xA×β))(k:xA)(x:β):List (xA×β):=if (acc.any λp=>decide (p.1=k))=true then acc.map (λp=>if p.1=k then(p.1,x) else p) else acc ++ [(k,x)]
def JG(acc:List (xA×Rat))(k:xA)(r:Rat):List (xA×Rat):=JU acc k (match Qc acc k with | some s=>s + r | none=>r)
def gath(ps:xA)(rs:List (xA×Rat)):List (xA×Rat):=rs.foldl (λacc r=>JG acc (JW r.1 ps) r.2) []
def pH{β:Type}(acc:List (xA×β))(k:xA)(x:β):(JU acc k x).length<=acc.length + 1:=by
 unfold JU;split
 . rw[jA];omega
 . rw[jI];exact jD _
def pI(ps:xA)(rs:List (xA×Rat))(r:xA×Rat):gath ps (rs ++ [r])=JG (gath ps rs) (JW r.1 ps) r.2:=by unfold gath;rw[qH];rfl
def fY(ps:xA)(rs:List (xA×Rat)):(gath ps rs).length<=rs.length:=by
 have:∀(rs acc:List (xA×Rat)),(rs.foldl (λacc r=>JG acc (JW r.1 ps) r.2) acc).length<=acc.length + rs.length:=λrs=>by
  induction rs with
  | nil=>intro acc;exact jD _
  | cons r rs ih =>
   intro acc;have h1:=ih (JG acc (JW r.1 ps) r.2);have h2:(JG acc (JW r.1 ps) r.2).length<=acc.length + 1:=pH _ _ _;rw[List.foldl_cons,jP];omega
 have:=this rs [];simpa [gath] using this
def cD{a b:xA}:(a.map (Sum.inl:Int->Key)=b.map Sum.inl)↔a=b:=⟨λz=>(List.map_inj_right (λ_ _ h=>Sum.inl.inj h)).mp z,λz=>by rw[z]⟩
def AS(ks:List (xA×V))(k:xA):((kz ks).any λkv=>decide (kv.1=k.map Sum.inl))=ks.any λkv=>decide (kv.1=k):=by
 show((ks.map λkv=>((kv.1.map Sum.inl,kv.2):List Key×V)).any _)=_;rw[List.any_map];congr 1
 funext kv
 exact decide_eq_decide.mpr cD
def fZ(ks:List (xA×V))(k:xA)(v:V):JP (kz ks) (k.map Sum.inl) v=kz (JU ks k v):=by
 unfold JP JU;rw[AS];split
 . show(ks.map λkv=>((kv.1.map Sum.inl,kv.2):List Key×V)).map _=(ks.map _).map _;rw[kK,kK];refine j9 λkv _=>?_;show(if kv.1.map Sum.inl=k.map Sum.inl then _ else _)=((if kv.1=k then(kv.1,v) else kv).1.map Sum.inl,(if kv.1=k then(kv.1,v) else kv).2)
   by_cases z:kv.1=k
   . rw[qh (cD.mpr z),qh z]
   . rw[qg (λh=>z (cD.mp h)),qg z]
 . show kz ks ++ _=(ks ++ [(k,v)]).map _;rw[jo];rfl
abbrev Acc(K:xt)(H:Hp):List (xA×Rat)->List (xA×V)->Prop:=Paired λp q=>p.1=q.1/\IsD K H (dF p.2) q.2
theorem Acc.mono(m:∀r v,IsD K H (dF r) v->IsD K H' (dF r) v):∀{acc:List (xA×Rat)}{ks:List (xA×V)},Acc K H acc ks->Acc K H' acc ks
 | _,_,.nil => .nil
 | _,_,.cons h t => .cons ⟨h.1,m _ _ h.2⟩ (Acc.mono m t)
theorem Acc.val(k:xA):∀{acc:List (xA×Rat)}{ks:List (xA×V)},Acc K H acc ks->(Qc acc k=none/\Q4 (kz ks) (k.map Sum.inl)=none)\/∃r v,Qc acc k=some r/\Q4 (kz ks) (k.map Sum.inl)=some v/\IsD K H (dF r) v
 | _,_,.nil => .inl ⟨rfl,rfl⟩
 | p :: acc,q :: ks,.cons h t=>by
  by_cases z:p.1=k
  . refine .inr ⟨p.2,q.2,?_,?_,h.2⟩
    . unfold Qc;rw[kJ,qm z];rfl
    . exact aE (by show q.1.map Sum.inl=k.map Sum.inl;rw[<- h.1,z])
  . have e1:Qc (p :: acc) k=Qc acc k:=by unfold Qc;rw[kJ,qk z]
    have e2:Q4 (kz (q :: ks)) (k.map Sum.inl)=Q4 (kz ks) (k.map Sum.inl):=aF (by show ¬q.1.map Sum.inl=k.map Sum.inl;rw[<- h.1];exact λy=>z (cD.mp y));rw[e1,e2];exact Acc.val k t
theorem Acc.any(k:xA):∀{acc:List (xA×Rat)}{ks:List (xA×V)},Acc K H acc ks->(acc.any λp=>decide (p.1=k))=ks.any λp=>decide (p.1=k)
 | _,_,.nil=>rfl
 | p :: acc,q :: ks,.cons h t=>by rw[qI,qI,Acc.any k t,h.1]
theorem Acc.map(d:IsD K H (dF x) v):∀{acc:List (xA×Rat)}{ks:List (xA×V)},Acc K H acc ks->Acc K H (acc.map λp=>if p.1=k then(p.1,x) else p) (ks.map λp=>if p.1=k then(p.1,v) else p)
 | _,_,.nil => .nil
 | p :: acc,q :: ks,.cons h t=>by
  rw[jf,jf];refine .cons ?_ (Acc.map d t)
  by_cases z:p.1=k
  . rw[qh z,qh (by rw[<- h.1];exact z)];exact⟨h.1,d⟩
  . rw[qg z,qg (by rw[<- h.1];exact z)];exact h
theorem g7{α β:Type}{F:α->β->Prop}{x:α}{y:β}(h:F x y):∀{l:List α}{m:List β},Paired F l m->Paired F (l ++ [x]) (m ++ [y])
 | _,_,.nil => .cons h .nil
 | _,_,.cons g t => .cons g (g7 h t)
def Acc.set(a:Acc K H acc ks)(d:IsD K H (dF x) v):Acc K H (JU acc k x) (JU ks k v):=by
 unfold JU;rw[a.any k];split
 . exact a.map d
 . exact g7 ⟨rfl,d⟩ a
def pJ{α β:Type}{F:α->β->Prop}{m m':List β}(h:m'.Perm m):∀{l:List α},Paired F l m->∃l',l'.Perm l/\Paired F l' m':=by
 induction h with
 | nil=>intro l t;exact⟨l,.refl _,t⟩
 | cons x _ ih =>
  intro l t
  cases t with
  | cons g t =>
   obtain⟨l',h1,h2⟩:=ih t;exact⟨_ :: l',h1.cons _,.cons g h2⟩
 | swap x y _ =>
  intro l t
  cases t with
  | cons g t =>
   cases t with
   | cons g2 t=>exact⟨_,.swap _ _ _,.cons g2 (.cons g t)⟩
 | trans _ _ ih1 ih2 =>
  intro l t;obtain⟨l1,h1,t1⟩:=ih2 t;obtain⟨l2,h2,t2⟩:=ih1 t1;exact⟨l2,h2.trans h1,t2⟩
theorem g8{α β:Type}{G:α->β->Prop}:∀{l:List (xA×α)}{m:List (xA×β)},Paired (λp q=>p.1=q.1/\G p.2 q.2) l m->l.map (·.1)=m.map (·.1)
 | _,_,.nil=>rfl
 | _,_,.cons h t=>by rw[jf,jf,h.1,g8 t]
theorem cE:∀ns:xA,IsDs K H (ns.map D.int) (ns.map V.int)
 | []=>rfl
 | _ :: ns=>⟨_,_,rfl,rfl,cE ns⟩
theorem cF:∀{ds:List D}{xs:List V},xs.length=ds.length->(∀(i:Nat) (x:V) (d:D),xs[i]? = some x->ds[i]? = some d->IsD K H d x)->IsDs K H ds xs
 | [],[],_,_=>rfl
 | d :: ds,x :: xs,hl,k=>⟨x,xs,rfl,k 0 x d rfl rfl,cF (by simpa using hl) λi y e h1 h2=>k (i + 1) y e (by simpa using h1) (by simpa using h2)⟩
def AT(e:H d=some (.dT ks))(h:SqT K H p xs):SqT K (upd H d o) p xs:=by
 rcases h with (h | ⟨u,h⟩) | h
 . exact .inl (.inl (by rw[Jb λz=>by rw[z,e]at h;cases h];exact h))
 . exact .inl (.inr ⟨u,by rw[Jb λz=>by rw[z,e]at h;cases h];exact h⟩)
 . exact .inr h
def g9(e:H d=some (.dT ks))(r:Rat)(v:V)(h:IsD K H (dF r) v):IsD K (upd H d o) (dF r) v:=by
 obtain⟨p,rfl,q⟩:=QT h;exact⟨p,_,rfl,AT e q,_,_,rfl,rfl,_,_,rfl,rfl,rfl⟩
def pK(K:xt):Sp:=λvs H Q _=>∃(a p:J0) (xs:List V) (rs:List (xA×Rat)) (ps:xA),vs=[.ref a,.ref p]/\SqL K H a xs/\IsDs K H (rs.map QH) xs/\SqL K H p (ps.map V.int)/\(∀r∈rs,∀j∈ps,0<=j/\j < r.1.length)/\ps.length<=100/\rs.length<=900/\(∀r∈rs,sz r.2)/\(∀i,∀g∈gath ps (rs.take i),sz g.2) /\
 ∀l H' (qs:List (xA×Rat)),Same H H'->H l=none->qs.Perm (gath ps rs)->qs.Pairwise (λp q=>HT.lexLt p.1 q.1=true)->IsD K H' (.lst (qs.map QH)) (.ref l)->Q (.ref l) H'
def AU(B:Bl mg)(XA:Def P w K mg base "chosen" 1 ["values", "places"] (cC K))(Y4:Def P w K mg base "plus" 3 ["one", "other"] (fX K))(F:Fn K mg "gathered" bC ["rows", "places"]):Def P w K mg base "gathered" 4 ["rows", "places"] (pK K):=by
 refine F.ok YT (λvs H Q E h=>?_) (λf xD A outer s H vs Q E hr h=>?_)
 . obtain⟨a,p,xs,rs,ps,rfl,_⟩:=h;rfl
 obtain⟨a,p,xs,rs,ps,rfl,qa,dxs,qp,hj,hl,h63,hz,hzg,q⟩:=h;have xl:=dxs.length;rw[jA]at xl
 refine⟨_,(@J7 _ _ _ _ _ (Jg (i:=2) YT.nd rfl 'b' eC)
  (@J7 _ _ _ _ _ (Zc PassesOwn.never rfl (Qi (pv 0)) (QZ rfl (JZ (JD (i:=3) YT.nd rfl 'b') (JZ (JD (i:=4) YT.nd rfl 'b') QY))) (@J7 _ _ _ _ _ (Jg (i:=5) YT.nd rfl 'b' (Jh XA hr rfl (J4 (pv 3) (J4 (pv 1) J6))))
  (@Jc _ _ _ (eA (Xm hr) (pv 2) (pv 5) (Yn (Jo (mx (Xm hr)) (pv 5) (pv 2) 'g') (Jh Y4 hr rfl (J4 (e9 (Xm hr) (pv 2) (pv 5) (λ_ _=>rfl)) (J4 (pv 4) J6))) (pv 4)) rfl))))
  (@Jc _ _ _ (Ji (nj rfl (nh hr) rfl B.sorted PyProof.Rows.boot_sorted (pv 2)))))),?_⟩
 intro d hd;have s0:Same H (upd H d (.dT [])):=Ja hd _;refine⟨_,rfl,a,rfl,⟨xs,s0.seq qa⟩,?_⟩;refine X1 (K:=K) (xs:=xs) (λi σ H'=>Same H H'/\∃ks c3 c4 c5,σ=[some (.ref a),some (.ref p),some (.ref d),c3,c4,c5]/\H' d=some (.dT (kz ks))/\Acc K H' (gath ps (rs.take i)) ks) ⟨s0,[],none,none,none,rfl,J8,.nil⟩ (λi σ H' _ h=>h.1.seq qa) ?_ ?_
 . rintro i x σ H' hx ⟨sm,ks,c3,c4,c5,rfl,ed,ac⟩;have hi:i < rs.length:=by have:=(jJ.mp hx).1;omega
   obtain⟨y,ey,dy⟩:=dxs.get (i:=i) (d:=QH rs[i]) (by rw[jF,jC hi];rfl);obtain rfl:x=y:=by rw[hx]at ey;exact Option.some.inj ey
   obtain⟨t,zs,rfl,qt,v1,_,rfl,d1,v2,_,rfl,d2,rfl⟩:=dy;obtain⟨t1,ys,rfl,q1,dys⟩:=d1;rw[Zh dys]at q1;have tk:rs.take (i + 1)=rs.take i ++ [rs[i]]:=jt hi;have hzi:=hz _ (jl hi);have hza:=hzg i;have gl:=fY ps (rs.take i);rw[jT]at gl;have kl:=ac.length;rw[tk,pI];refine⟨t,_,rfl,sm.tupq qt,rfl,_,_,rfl,_,_,rfl,rfl,?_⟩;refine⟨_,rfl,_,rfl,t1,p,_,ps,rfl,sm.tupq q1,sm.seq qp,hj _ (jl hi),hl,λt2 H2 n2 s2 e2=>?_⟩;have ed2:=s2 _ _ ed;have ac2:Acc K H2 _ _:=ac.mono λr v h=>h.same s2;have d2':IsD K H2 (dF rs[i].2) v2:=d2.same (sm.trans s2);have kt:H2 t2=some (.tup (((JW rs[i].1 ps).map (Sum.inl:Int->Key)).map kV)):=by rw[X6];exact e2
   have get:=DGet.t ed2 kt;have lz:(kz ks).length < sizeLine:=by rw[jA];exact ZF 'd'
   have nx:∀(x:Rat) (v':V) (H3:Hp),Same H2 H3->IsD K H3 (dF x) v'->Same H (upd H3 d (.dT (JP (kz ks) ((JW rs[i].1 ps).map Sum.inl) v')))/\(upd H3 d (.dT (JP (kz ks) ((JW rs[i].1 ps).map Sum.inl) v'))) d=some (.dT (kz (JU ks (JW rs[i].1 ps) v'))) /\
    Acc K (upd H3 d (.dT (JP (kz ks) ((JW rs[i].1 ps).map Sum.inl) v'))) (JU (gath ps (rs.take i)) (JW rs[i].1 ps) x) (JU ks (JW rs[i].1 ps) v'):=λx v' H3 s3 dv=>by
    refine⟨XR hd ((sm.trans s2).trans s3),by rw[J8,fZ],?_⟩;exact((ac2.mono λr v h=>h.same s3).set dv).mono (g9 (s3 _ _ ed2))
   unfold JG;refine⟨_,rfl,_,rfl,d,_,rfl,get,_,rfl,?_⟩;rcases ac2.val (JW rs[i].1 ps) with ⟨e3,e4⟩ | ⟨r,v,e3,e4,dr⟩
   . rw[e3];rw[e4]at get ⊢;refine ZG ⟨_,rfl,_,rfl,_,rfl,d,_,rfl,DPut.t ed2 kt lz,?_⟩;obtain⟨b1,b2,b3⟩:=nx rs[i].2 v2 H2 (Same.refl _) d2';exact⟨b1,_,_,_,_,rfl,b2,b3⟩
   . rw[e3];rw[e4]at get ⊢
     have zr:sz r:=by
      unfold Qc at e3
      cases ef:(gath ps (rs.take i)).find? λp=>decide (p.1=JW rs[i].1 ps) with
      | none=>rw[ef]at e3;cases e3
      | some g =>
       rw[ef]at e3
       cases e3
       exact hza g (List.mem_of_find?_eq_some ef)
     refine Yt ⟨_,rfl,_,rfl,d,v,rfl,get,_,rfl,v,v2,r,rs[i].2,rfl,dr,d2',zr,hzi,λp3 H3 s3 d3=>⟨_,rfl,_,rfl,d,_,rfl,DPut.t (s3 _ _ ed2) (s3 _ _ kt) lz,?_⟩⟩;obtain⟨b1,b2,b3⟩:=nx (r + rs[i].2) (.ref p3) H3 s3 d3;exact⟨b1,_,_,_,_,rfl,b2,b3⟩
 . rintro σ H' ⟨sm,ks,c3,c4,c5,rfl,ed,ac⟩;rw[xl,jk]at ac;have gl:=fY ps rs;have kl:=ac.length;refine⟨_,rfl,d,ks,rfl,ed,by omega,λH2 l qs xs' pm pw s2 nl e2 ln pr=>?_⟩;obtain⟨acc',h1,h2⟩:=pJ pm ac;have hk:acc'.map (·.1)=qs.map (·.1):=g8 (G:=λr v=>IsD K H' (dF r) v) h2;have al:=h2.length;refine q l H2 acc' (sm.trans s2) (sm.free nl) h1 ?_ ⟨l,xs',rfl,.of e2,cF (by rw[jA];omega) λi x d' e1 e3=>?_⟩
   . have:(qs.map (·.1)).Pairwise λa b=>HT.lexLt a b=true:=kT.mpr pw;rw[<- hk]at this;exact kT.mp this
   . rw[jF]at e3
     cases ea:acc'[i]? with
     | none=>rw[ea]at e3;cases e3
     | some kr =>
      rw[ea]at e3
      cases e3
      obtain⟨kv,e4,e5,e6⟩:=ZW h2 ea;obtain⟨pp,b,rfl,e7,e8⟩:=pr i x kv e1 e4;exact⟨pp,_,rfl,.of e7,_,_,rfl,⟨b,_,rfl,.of e8,by rw[<- e5];exact cE _⟩,_,_,rfl,e6.same s2,rfl⟩
def plc(ns ss:xy):xA:=ss.map λn=>((ns.idxOf n:Nat):Int)
def cG(K:xt):Sp:=λvs H Q _=>∃(v s:J0) (ns ss:xy),vs=[.ref v,.ref s]/\TupZ H v (ns.map V.str)/\(SqL K H s (ss.map V.str)\/SqT K H s (ss.map V.str))/\(∀n∈ss,n∈ns)/\ss.length<=100 /\
 ∀l H',Same H H'->H' l=some (.lst ((plc ns ss).map V.int))->Q (.ref l) H'
def cH(m n:Str):eqV (.str m) (.str n)=decide (m=n):=by show(m == n)=_;exact Bool.beq_eq_decide_eq ..
def AV(B:Bl mg)(F:Fn K mg "places_of" bB ["names", "some"]):Def P w K mg base "places_of" 1 ["names", "some"] (cG K):=by
 refine F.ok Af (λvs H Q E h=>?_) (λf xD A outer s H vs Q E hr h=>?_)
 . obtain⟨v,p,ns,ss,rfl,_⟩:=h;rfl
 obtain⟨v,p,ns,ss,rfl,qv,qp,hj,hl,q⟩:=h;refine⟨_,(@Jc _ _ _ (Ji (QQ (CompOk.of (x := "name") (M:=["names"]) (ix:=[0]) rfl rfl (by decide +kernel) (by decide +kernel) rfl ⟨rfl,trivial⟩ 'g' ⟨⟨rfl,rfl,rfl,rfl⟩,trivial⟩) rfl (by decide +kernel) (y8 (pv 1)) (λ_ _ _ _ _=>Xp) (λ_ _ _ _ _=>(nw PySem.F.slot_tuple_index PySem.F.type_tuple_index (nk K rfl) (pv 1) (J4 (pv 0) J6)))))),?_⟩;refine we ?_
 have item:∀(i:Nat) (x:V) (d:D) (H':Hp) (R:VK),(ss.map V.str)[i]? = some x->((plc ns ss).map D.int)[i]? = some d->Same H H'->(∀y H2,Same H' H2->IsD K H2 d y->R y H2)->∃n,x = .str n/\∃(hn:ns.idxOf n < ns.length),d = .int ((ns.idxOf n:Nat):Int):=λi x d H' R hx hd sm hR=>by
  unfold plc at hd;rw[jF]at hx;rw[jF,jF]at hd
  cases en:ss[i]? with
  | none=>rw[en]at hx;cases hx
  | some n =>
   rw[en]at hx hd
   cases hx;cases hd
   exact⟨n,rfl,jv.mpr (hj n (jq en)),rfl⟩
 have eqs:∀(n:Str) (hn:ns.idxOf n < ns.length),eqV ((ns.map V.str)[ns.idxOf n]'(by rw[jA];exact hn)) (.str n)=true/\∀m (hm:m < (ns.map V.str).length),m < ns.idxOf n->eqV ((ns.map V.str)[m]) (.str n)=false:=λn hn=>by
  refine⟨?_,λm hm hmj=>?_⟩
  . rw[kG,cH,List.getElem_idxOf hn];exact qm rfl
  . rw[kG,cH];refine qk λz=>?_;have:=List.not_of_lt_findIdx (p:=(· == n)) (xs:=ns) (i:=m) (by simpa [List.idxOf] using hmj);simp[z]at this
 rcases qp with qp | qp
 . refine⟨_,rfl,p,rfl,.inl ⟨⟨_,qp⟩,?_⟩⟩;refine eL (K:=K) (xs:=ss.map V.str) ((plc ns ss).map D.int) qp (by unfold plc;simp) (by rw[jA];exact kE (ZF 'd')) (Yw _) (λi x d H' R hx hd sm hR=>?_) (λl H' ys sm e dl=>?_)
   . obtain⟨n,rfl,hn,rfl⟩:=item i x d H' R hx hd sm hR;obtain⟨e1,e2⟩:=eqs n hn;exact⟨_,rfl,v,_,rfl,qv.same sm,_,rfl,v,ns.map V.str,.str n,ns.idxOf n,by rw[jA];exact hn,rfl,rfl,sm.tupq qv.sq,rfl,XV _,e1,e2,hR _ _ (Same.refl _) rfl⟩
   . rw[Zh dl]at e;exact q l _ sm e
 . refine⟨_,rfl,p,rfl,.inr ⟨⟨_,qp⟩,?_⟩⟩;refine mh (K:=K) (xs:=ss.map V.str) ((plc ns ss).map D.int) qp (by unfold plc;simp) (by rw[jA];exact kE (ZF 'd')) (Yw _) (λi x d H' R hx hd sm hR=>?_) (λl H' ys sm e dl=>?_)
   . obtain⟨n,rfl,hn,rfl⟩:=item i x d H' R hx hd sm hR;obtain⟨e1,e2⟩:=eqs n hn;exact⟨_,rfl,v,_,rfl,qv.same sm,_,rfl,v,ns.map V.str,.str n,ns.idxOf n,by rw[jA];exact hn,rfl,rfl,sm.tupq qv.sq,rfl,XV _,e1,e2,hR _ _ (Same.refl _) rfl⟩
   . rw[Zh dl]at e;exact q l _ sm e
def AW{c:Prop}[Decidable c]{t u:TS}{R:St->Hp->Prop}{rt:VK}{bk ct:St->Hp->Prop}(Pj:St->Hp->Prop)(h:∀xE H',Pj xE H'->R xE H')
 (h1:c->∀R',(∀xE H',Pj xE H'->R' xE H')->t ⟨R',rt,bk,ct⟩ σ H) (h2:¬c->∀R',(∀xE H',Pj xE H'->R' xE H')->u ⟨R',rt,bk,ct⟩ σ H):if decide c=true then t ⟨R,rt,bk,ct⟩ σ H else u ⟨R,rt,bk,ct⟩ σ H :=
 Jt (λhc=>h1 hc R h) λhc=>h2 hc R h
def cI(K:xt)(d:Nat):Sp:=λvs H Q _=>∃(e:Ex) (x:V) (nm:xy),vs=[x]/\e.ok/\e.over (λn=>n∈nm)/\nm.length<=100/\e.high < d/\IsD K H (dE e) x/\∀p H',H p=none->Same H H'->H' p=some (.lst (e.nms.map V.str))->Q (.ref p) H'
def AX(d:Nat)(B:Bl mg)(F:Fn K mg "names_in" YK ["e"])(YY:Def P w K mg base "names_in" (d + 2) ["e"] (cI K d)):Def P w K mg base "names_in" (d + 3) ["e"] (cI K (d + 1)):=by
 have hjk:d + 2<=d + 2:=jD _;refine F.ok YS (λvs H Q E h=>?_) (λf xD A outer s H vs Q E hr h=>?_)
 . obtain⟨e,x,nm,rfl,_⟩:=h;rfl
 obtain⟨e,x,nm,rfl,ho,hv,h100,hh,dx,q⟩:=h
 refine⟨_,(@J7 _ _ _ _ _ (Js (Jo (JK.or (Jx.or (JL.or (JN K rfl hr.units)))) (Jf (Je K rfl) (pv 0) J5 (λ_ _=>rfl)) Jl (Jk _)) (@Jc _ _ _ (Ji (Qw J6))) Ju)
  (@J7 _ _ _ _ _ (Js (Jo (JK.or (Jx.or (JL.or (JN K rfl hr.units)))) (Jf (Je K rfl) (pv 0) J5 (λ_ _=>rfl)) Jl (Jk _)) (@Jc _ _ _ (Ji (Qw (J4 (Jf (Je K rfl) (pv 0) J5 (λ_ _=>rfl)) J6)))) Ju)
  (@J7 _ _ _ _ _ (Jg (i:=1) YS.nd rfl 'b' (Qw J6))
  (@J7 _ _ _ _ _ (Zc PassesOwn.never rfl (iG (QP ((XS K rfl).or (XT K rfl)) (pv 0) (QE J5) X3)) (JD (i:=2) YS.nd rfl 'b') (@Jc _ _ _ (Zc PassesOwn.never rfl (Qi (Jh YY hr rfl (J4 (pv 2) J6) (hjk:=hjk))) (JD (i:=3) YS.nd rfl 'b') (@Jc _ _ _ (Js (Jo (iS.or (mj K rfl)) (pv 3) (pv 1) 'g') (@Jc _ _ _ (Qa (XM PySem.F.plainAttrs_list PySem.F.slot_list_append PySem.F.type_list_append Zf (pv 1) (J4 (pv 3) J6)))) Ju)))))
  (@Jc _ _ _ (Ji (pv 1))))))),?_⟩
 have big:(1000:Nat) < sizeLine:=by decide
 rcases Ex.node2 _ e ho hv with ⟨n,rfl⟩ | ⟨n,rfl⟩ | ⟨sg,cs,rfl,hl,hc⟩
 . obtain⟨t,xs,rfl,qt,_,_,rfl,rfl,_,_,rfl,rfl,rfl⟩:=dx;walk_at "rd";exact λp hp=>q p _ hp (Ja hp _) J8
 . obtain⟨t,xs,rfl,qt,_,_,rfl,rfl,_,_,rfl,rfl,rfl⟩:=dx;walk_at "rd";exact⟨by show 1<=sizeLine;decide,λp hp=>q p _ hp (Ja hp _) J8⟩
 . have md:=(AC hl (λ_=>0)).1;rw[md]at dx;obtain⟨t,xs,rfl,qt,y,ys,rfl,ey,dys⟩:=dx;obtain rfl:y = .str sg.str:=ey;have xM:atI (.str sg.str :: ys) 0=some (.str sg.str):=Qb (j:=0) rfl;have yl:=dys.length;rw[jA]at yl;refine⟨_,rfl,.inr (.inl ⟨t,_,_,_,rfl,rfl,qt,xM,.inr (.inl ⟨_,_,rfl,rfl,_,rfl,Jt (λc=>absurd c (pc sg)) λ_=>nxt ?_⟩)⟩)⟩;refine⟨_,rfl,.inr (.inl ⟨t,_,_,_,rfl,rfl,qt,xM,.inr (.inl ⟨_,_,rfl,rfl,_,rfl,Jt (λc=>absurd c (ph sg)) λ_=>nxt ?_⟩)⟩)⟩;refine⟨by show 0<=sizeLine;decide,λpf hpf=>?_⟩;have s0:Same H (upd H pf (.lst [])):=Ja hpf _;have t0:(upd H pf (.lst [])) pf=some (.lst []):=J8;obtain⟨H0,eH0⟩:∃H0,H0=upd H pf (.lst []):=⟨_,rfl⟩;rw[<- eH0]at s0 t0;rw[<- eH0]
   have one:¬(HT.sIx (V.str sg.str :: ys).length 0 (some 1)=0/\HT.sIx (V.str sg.str :: ys).length (V.str sg.str :: ys).length none=(V.str sg.str :: ys).length):=λh=>by
    have:=h.1;simp[HT.sIx]at this
   refine⟨_,rfl,_,rfl,.inr ⟨t,_,rfl,s0.tupq qt,one,λp1 hp1=>⟨p1,rfl,⟨_,.of J8⟩,?_⟩⟩⟩;have ecut:JT (V.str sg.str :: ys) (some 1) none=ys:=eI _ 1;rw[ecut];have s1:Same H0 (upd H0 p1 (.tup ys)):=Ja hp1 _;have inN:∀i,(Xx [] (cs.take i)).Nodup/\∀x∈Xx [] (cs.take i),x∈nm:=λi=>pi (p:=λn=>n∈nm) _ (λc hc'=>(hc c (jm hc')).2.1) ⟨jx,λx hx=>nomatch hx⟩
   refine ul (K:=K) (xs:=ys) (λi σ H'=>Same H H'/\SqT K H' p1 ys/\H' pf=some (.lst ((Xx [] (cs.take i)).map V.str))/\∃c2 c3,σ=[some (.ref t),some (.ref pf),c2,c3])
    ⟨s0.trans s1,.of J8,s1 _ _ t0,none,none,rfl⟩ (λi σ H' _ h=>h.2.1) ?_ ?_
   . rintro i x σ H' hx ⟨sm,q1,eF,c2,c3,rfl⟩;have hi:i < cs.length:=by have:=(jJ.mp hx).1;omega
     obtain⟨y,ey,dy⟩:=dys.get (i:=i) (d:=dE cs[i]) (by rw[jF,jC hi];rfl);obtain rfl:x=y:=by rw[hx]at ey;exact Option.some.inj ey
     obtain⟨c1,c2',c3'⟩:=hc _ (jl hi);have tk:cs.take (i + 1)=cs.take i ++ [cs[i]]:=jt hi;refine⟨_,rfl,cs[i],x,nm,rfl,c1,c2',h100,by omega,dy.same sm,λp2 H2 hp2 s2 e2=>⟨p2,rfl,⟨_,.of e2⟩,?_⟩⟩;obtain⟨f,ef⟩:∃f,f=Xx [] (cs.take i):=⟨_,rfl⟩;have inF:=inN i;rw[<- ef]at inF eF;have inC:=Xw _ c2'
     refine X1 (K:=K) (xs:=cs[i].nms.map V.str) (λj σ H3=>Same H H3/\SqT K H3 p1 ys/\H3 pf=some (.lst (((cs[i].nms.take j).foldl JO f).map V.str))/\H3 p2=some (.lst (cs[i].nms.map V.str))/\∃c3,σ=[some (.ref t),some (.ref pf),some x,c3])
      ⟨sm.trans s2,s2.tupq q1,s2 _ _ eF,e2,c3,rfl⟩ (λj σ H3 _ h => .of h.2.2.2.1) ?_ ?_
     . rintro j z σ H3 hz ⟨sm3,q3,e3,f3,c3,rfl⟩;have hj:j < cs[i].nms.length:=by have:=(jJ.mp hz).1;rwa [jA]at this
       rw[jF,jC hj]at hz;obtain rfl:z = .str cs[i].nms[j]:=(Option.some.inj hz).symm;obtain⟨n,en⟩:∃n,n=cs[i].nms[j]:=⟨_,rfl⟩;have tj:cs[i].nms.take (j + 1)=cs[i].nms.take j ++ [n]:=by rw[en];exact jt hj
       rw[<- en];obtain⟨g,eg⟩:∃g,g=(cs[i].nms.take j).foldl JO f:=⟨_,rfl⟩;have inG:g.Nodup/\∀x∈g,x∈nm:=by rw[eg];exact Xv (p:=λn=>n∈nm) _ (λx hx=>inC.2 x (jm hx)) inF
       have lg:=fQ inG.1 inG.2;have eg':(cs[i].nms.take (j + 1)).foldl JO f=JO g n:=by rw[tj,qH,<- eg];rfl
       rw[<- eg]at e3;refine⟨_,rfl,_,rfl,.inr ⟨pf,_,rfl,.inl (.of e3),rfl,XV _,_,rfl,?_⟩⟩;show if (!inV (.str n) (g.map V.str))=true then _ else _;rw[Yx];refine XQ (λc=>?_) (λc=>?_)
       . refine⟨_,rfl,.inl ⟨rfl,_,.of e3⟩,_,rfl,pf,_,_,rfl,rfl,e3,by rw[jA];omega,?_⟩;refine⟨XR hpf sm3,SqT.updL e3 q3,?_,?_,_,rfl⟩
         . rw[J8,eg'];unfold JO;rw[qg c,jo];rfl
         . rw[Jb (λz=>by rw[z]at hp2;rw[hp2]at eF;cases eF)];exact f3
       . refine nxt ⟨sm3,q3,?_,f3,_,rfl⟩;rw[e3,eg'];unfold JO;rw[qh c]
     . rintro σ H3 ⟨sm3,q3,e3,f3,c3,rfl⟩;refine⟨sm3,q3,?_,_,_,rfl⟩;rw[jA,jk]at e3;rw[e3,tk,AF,<- ef]
   . rintro σ H' ⟨sm,q1,eF,c2,c3,rfl⟩;rw[yl,jk]at eF;refine⟨_,rfl,q pf H' hpf sm ?_⟩;rw[AD hl];exact eF
theorem pL(B:Bl mg)(F:Fn K mg "names_in" YK ["e"]):∀d,Def P w K mg base "names_in" (d + 2) ["e"] (cI K d)
 | 0=>by
  refine F.ok YS (λvs H Q E h=>?_) (λf xD A outer s H vs Q E hr h=>?_)
  . obtain⟨e,x,nm,rfl,_⟩:=h;rfl
  . obtain⟨e,x,nm,rfl,_,_,_,hh,_⟩:=h;exact absurd hh (qE _)
 | d + 1=>AX d B F (pL B F d)
def hd(s:Sg)(ns:xA):Bool:=match s,ns with
 | .neg,[a]=>decide (a=0)
 | .lt,[a,b]=>decide (a < b)
 | .eq,[a,b]=>decide (a=b)
 | .conj,[a,b]=>decide (a≠0) && decide (b≠0)
 | _,[a,b]=>decide (a≠0) || decide (b≠0)
 | _,_=>false
def AY:Sg->Bool
 | .add=>false | .sub=>false | .pick=>false | _=>true
def pM(K:xt):Sp:=λvs H Q _=>∃(s:Sg) (p:J0) (ns:xA),vs=[.str s.str,.ref p]/\SqL K H p (ns.map V.int)/\ns.length=s.many/\AY s=true/\Q (.bl (hd s ns)) H
def AZ(B:Bl mg)(F:Fn K mg "holds" bw ["sign", "numbers"]):Def P w K mg base "holds" 1 ["sign", "numbers"] (pM K):=by
 refine F.ok Ac (λvs H Q E h=>?_) (λf xD A outer s H vs Q E hr h=>?_)
 . obtain⟨s,p,ns,rfl,_⟩:=h;rfl
 obtain⟨sg,p,ns,rfl,hS,hl,hh,q⟩:=h
 refine⟨_,(@J7 _ _ _ _ _ (Js (Jo (JK.or (Jx.or (JL.or (JN K rfl hr.units)))) (pv 0) Jl (Jk _)) (@Jc _ _ _ (Ji (X2 (JK.or (Jx.or (JL.or (JN K rfl hr.units)))) (Jf (Je K rfl) (pv 1) J5 (λ_ _=>rfl)) J5 (Jk _)))) Ju)
  (@J7 _ _ _ _ _ (Js (Jo (JK.or (Jx.or (JL.or (JN K rfl hr.units)))) (pv 0) Jl (Jk _)) (@Jc _ _ _ (Ji (X2 Yq (Jf (Je K rfl) (pv 1) J5 (λ_ _=>rfl)) (Jf (Je K rfl) (pv 1) J5 (λ_ _=>rfl)) (Jk _)))) Ju)
  (@J7 _ _ _ _ _ (Js (Jo (JK.or (Jx.or (JL.or (JN K rfl hr.units)))) (pv 0) Jl (Jk _)) (@Jc _ _ _ (Ji (X2 (JK.or (Jx.or (JL.or (JN K rfl hr.units)))) (Jf (Je K rfl) (pv 1) J5 (λ_ _=>rfl)) (Jf (Je K rfl) (pv 1) J5 (λ_ _=>rfl)) (Jk _)))) Ju)
  (@J7 _ _ _ _ _ (Js (Jo (JK.or (Jx.or (JL.or (JN K rfl hr.units)))) (pv 0) Jl (Jk _)) (@Jc _ _ _ (Ji (iw (X2 (Xo.or (XN.or (XO.or (XU K rfl hr.units)))) (Jf (Je K rfl) (pv 1) J5 (λ_ _=>rfl)) J5 (Jk _)) (dA (X2 (Xo.or (XN.or (XO.or (XU K rfl hr.units)))) (Jf (Je K rfl) (pv 1) J5 (λ_ _=>rfl)) J5 (Jk _)))))) Ju)
  (@Jc _ _ _ (Ji (tZ (X2 (Xo.or (XN.or (XO.or (XU K rfl hr.units)))) (Jf (Je K rfl) (pv 1) J5 (λ_ _=>rfl)) J5 (Jk _)) (dA (X2 (Xo.or (XN.or (XO.or (XU K rfl hr.units)))) (Jf (Je K rfl) (pv 1) J5 (λ_ _=>rfl)) J5 (Jk _)))))))))),?_⟩
 have xM:∀{a:Int}{r:xA},ns=a :: r->atI (ns.map V.int) 0=some (.int a):=λe=>by rw[e];exact Qb (j:=0) rfl
 have at1:∀{a b:Int}{r:xA},ns=a :: b :: r->atI (ns.map V.int) 1=some (.int b):=λe=>by rw[e];exact Qb (j:=1) rfl
 cases sg with
 | add=>cases hh
 | sub=>cases hh
 | pick=>cases hh
 | neg =>
  match ns,hl with
  | [a],_ =>
   walk_at "rd";exact .inl ⟨p,_,_,_,rfl,rfl,hS,xM rfl,.inl ⟨_,_,rfl,rfl,q⟩⟩
 | lt =>
  obtain⟨a,b,rfl⟩:=Xd hl;walk_at "rd";exact .inl ⟨p,_,_,_,rfl,rfl,hS,xM rfl,_,rfl,.inl ⟨p,_,_,_,rfl,rfl,hS,at1 rfl,_,_,rfl,rfl,q⟩⟩
 | eq =>
  obtain⟨a,b,rfl⟩:=Xd hl;walk_at "rd";exact .inl ⟨p,_,_,_,rfl,rfl,hS,xM rfl,_,rfl,.inl ⟨p,_,_,_,rfl,rfl,hS,at1 rfl,.inl ⟨_,_,rfl,rfl,q⟩⟩⟩
 | conj =>
  obtain⟨a,b,rfl⟩:=Xd hl;walk_at "rd";refine .inl ⟨p,_,_,_,rfl,rfl,hS,xM rfl,.inl ⟨_,_,rfl,rfl,_,rfl,XQ (λc=>?_) (λc=>?_)⟩⟩
  . have e:hd .conj [a,b] = !decide (b=0):=by show(decide (a≠0) && decide (b≠0))=_;simp[c]
    rw[e]at q;exact⟨_,rfl,.inl ⟨p,_,_,_,rfl,rfl,hS,at1 rfl,.inl ⟨_,_,rfl,rfl,q⟩⟩⟩
  . have e:hd .conj [a,b]=false:=by show(decide (a≠0) && decide (b≠0))=_;simp[c]
    rw[e]at q;exact q
 | disj =>
  obtain⟨a,b,rfl⟩:=Xd hl;walk_at "rd";refine .inl ⟨p,_,_,_,rfl,rfl,hS,xM rfl,.inl ⟨_,_,rfl,rfl,_,rfl,XQ (λc=>?_) (λc=>?_)⟩⟩
  . have e:hd .disj [a,b]=true:=by show(decide (a≠0) || decide (b≠0))=_;simp[c]
    rw[e]at q;exact q
  . have e:hd .disj [a,b] = !decide (b=0):=by show(decide (a≠0) || decide (b≠0))=_;simp[c]
    rw[e]at q;exact⟨_,rfl,.inl ⟨p,_,_,_,rfl,rfl,hS,at1 rfl,.inl ⟨_,_,rfl,rfl,q⟩⟩⟩
def gb(K:xt):Sp:=λvs H Q _=>∃(s:Sg) (p:J0) (ns:xA),vs=[.str s.str,.ref p]/\SqL K H p (ns.map V.int)/\ns.length=s.many/\Q (.int (rkL s ns)) H
def B0(B:Bl mg)(F:Fn K mg "reckoned" bz ["sign", "numbers"])(gf:Def P w K mg base "holds" 1 ["sign", "numbers"] (pM K)):Def P w K mg base "reckoned" 2 ["sign", "numbers"] (gb K):=by
 refine F.ok Ad (λvs H Q E h=>?_) (λf xD A outer s H vs Q E hr h=>?_)
 . obtain⟨s,p,ns,rfl,_⟩:=h;rfl
 obtain⟨sg,p,ns,rfl,hS,hl,q⟩:=h
 refine⟨_,(@J7 _ _ _ _ _ (Js (Jo (JK.or (Jx.or (JL.or (JN K rfl hr.units)))) (pv 0) Jl (Jk _)) (@Jc _ _ _ (Ji (J9 (JB.or (JI.or (JJ.or (JM K rfl)))) (Jf (Je K rfl) (pv 1) J5 (λ_ _=>rfl)) (Jf (Je K rfl) (pv 1) J5 (λ_ _=>rfl))))) Ju)
  (@J7 _ _ _ _ _ (Js (Jo (JK.or (Jx.or (JL.or (JN K rfl hr.units)))) (pv 0) Jl (Jk _)) (@Jc _ _ _ (Ji (J9 Yp (Jf (Je K rfl) (pv 1) J5 (λ_ _=>rfl)) (Jf (Je K rfl) (pv 1) J5 (λ_ _=>rfl))))) Ju)
  (@J7 _ _ _ _ _ (Js (Jo (JK.or (Jx.or (JL.or (JN K rfl hr.units)))) (pv 0) Jl (Jk _)) (@Jc _ _ _ (Ji (Yn (Jo (Xo.or (XN.or (XO.or (XU K rfl hr.units)))) (Jf (Je K rfl) (pv 1) J5 (λ_ _=>rfl)) J5 (Jk _)) (Jf (Je K rfl) (pv 1) J5 (λ_ _=>rfl)) (Jf (Je K rfl) (pv 1) J5 (λ_ _=>rfl))))) Ju)
  (@Jc _ _ _ (Ji (Yn (av (Jh gf hr rfl (J4 (pv 0) (J4 (pv 1) J6)))) J5 J5)))))),?_⟩
 have xM:∀{a:Int}{r:xA},ns=a :: r->atI (ns.map V.int) 0=some (.int a):=λe=>by rw[e];exact Qb (j:=0) rfl
 have at1:∀{a b:Int}{r:xA},ns=a :: b :: r->atI (ns.map V.int) 1=some (.int b):=λe=>by rw[e];exact Qb (j:=1) rfl
 have at2:∀{a b c:Int}{r:xA},ns=a :: b :: c :: r->atI (ns.map V.int) 2=some (.int c):=λe=>by rw[e];exact Qb (j:=2) rfl
 have fin:∀(b:Bool),rkL sg ns=b2n b->if b=true then Q (.int 1) H else Q (.int 0) H:=λb e=>by
  rw[e]at q
  cases b with
  | true=>exact Yt q
  | false=>exact ZG q
 cases sg with
 | add =>
  obtain⟨a,b,rfl⟩:=Xd hl;walk_at "rd";exact .inl ⟨p,_,_,_,rfl,rfl,hS,xM rfl,_,rfl,.inl ⟨p,_,_,_,rfl,rfl,hS,at1 rfl,.inl ⟨_,_,rfl,rfl,q⟩⟩⟩
 | sub =>
  obtain⟨a,b,rfl⟩:=Xd hl;walk_at "rd";exact .inl ⟨p,_,_,_,rfl,rfl,hS,xM rfl,_,rfl,.inl ⟨p,_,_,_,rfl,rfl,hS,at1 rfl,_,_,rfl,rfl,q⟩⟩
 | pick =>
  match ns,hl with
  | [a,b,c],_ =>
   walk_at "rd";refine .inl ⟨p,_,_,_,rfl,rfl,hS,xM rfl,.inl ⟨_,_,rfl,rfl,_,rfl,XQ (λz=>?_) (λz=>?_)⟩⟩
   . have e:rkL .pick [a,b,c]=b:=qh z;rw[e]at q;exact⟨_,rfl,.inl ⟨p,_,_,_,rfl,rfl,hS,at1 rfl,q⟩⟩
   . have e:rkL .pick [a,b,c]=c:=qg (λh=>h z);rw[e]at q;exact⟨_,rfl,.inl ⟨p,_,_,_,rfl,rfl,hS,at2 rfl,q⟩⟩
 | neg =>
  match ns,hl with
  | [a],_ =>
   walk_at "rd";exact⟨.neg,p,[a],rfl,hS,rfl,rfl,_,rfl,fin _ rfl⟩
 | lt =>
  obtain⟨a,b,rfl⟩:=Xd hl;walk_at "rd";exact⟨.lt,p,[a,b],rfl,hS,rfl,rfl,_,rfl,fin _ rfl⟩
 | eq =>
  obtain⟨a,b,rfl⟩:=Xd hl;walk_at "rd";exact⟨.eq,p,[a,b],rfl,hS,rfl,rfl,_,rfl,fin _ rfl⟩
 | conj =>
  obtain⟨a,b,rfl⟩:=Xd hl;walk_at "rd";exact⟨.conj,p,[a,b],rfl,hS,rfl,rfl,_,rfl,fin _ rfl⟩
 | disj =>
  obtain⟨a,b,rfl⟩:=Xd hl;walk_at "rd";exact⟨.disj,p,[a,b],rfl,hS,rfl,rfl,_,rfl,fin _ rfl⟩
def cJ(K:xt)(d:Nat):Sp:=λvs H Q _=>∃(e:Ex) (x:V) (pb:J0) (kvs:List (Key×V)) (ρ:Str->Int),vs=[x,.ref pb]/\e.ok/\e.over (λn=>Q4 kvs (.inr n)=some (.int (ρ n)))/\e.high < d/\IsD K H (dE e) x/\H pb=some (.dK kvs)/\∀H',Same H H'->Q (.int (ev ρ e)) H'
def B1(d:Nat)(B:Bl mg)(F:Fn K mg "value" YJ ["e", "book"])(Y5:Def P w K mg base "reckoned" 2 ["sign", "numbers"] (gb K))(YZ:Def P w K mg base "value" (d + 2) ["e", "book"] (cJ K d)):Def P w K mg base "value" (d + 3) ["e", "book"] (cJ K (d + 1)):=by
 have hjk:d + 2<=d + 2:=jD _;have hj_reckoned:2<=d + 2:=by omega
 refine F.ok oN (λvs H Q E h=>?_) (λf xD A outer s H vs Q E hr h=>?_)
 . obtain⟨e,x,pb,kvs,ρ,rfl,_⟩:=h;rfl
 obtain⟨e,x,pb,kvs,ρ,rfl,ho,hv,hh,dx,hB,q⟩:=h
 refine⟨_,(@J7 _ _ _ _ _ (Js (Jo (JK.or (Jx.or (JL.or (JN K rfl hr.units)))) (Jf (Je K rfl) (pv 0) J5 (λ_ _=>rfl)) Jl (Jk _)) (@Jc _ _ _ (Ji (Jf (Je K rfl) (pv 0) J5 (λ_ _=>rfl)))) Ju)
  (@J7 _ _ _ _ _ (Js (Jo (JK.or (Jx.or (JL.or (JN K rfl hr.units)))) (Jf (Je K rfl) (pv 0) J5 (λ_ _=>rfl)) Jl (Jk _)) (@Jc _ _ _ (Ji (e9 (Xm hr) (pv 1) (Jf (Je K rfl) (pv 0) J5 (λ_ _=>rfl)) (λ_ _=>rfl)))) Ju)
  (@Jc _ _ _ (Ji (Jh Y5 hr rfl (J4 (Jf (Je K rfl) (pv 0) J5 (λ_ _=>rfl)) (J4 (QQ (CompOk.of (x := "part") (M:=["book"]) (ix:=[1]) rfl rfl (by decide +kernel) (by decide +kernel) rfl ⟨rfl,trivial⟩ 'g' ⟨⟨rfl,rfl,rfl,rfl⟩,trivial⟩) rfl (by decide +kernel) (iG (QP ((XS K rfl).or (XT K rfl)) (pv 0) (QE J5) X3)) (λ_ _ _ _ _=>Xp) (λ_ _ _ _ _=>(Jh YZ hr rfl (J4 (pv 0) (J4 (pv 1) J6)) (hjk:=hjk)))) J6)) (hjk:=hj_reckoned)))))),?_⟩
 rcases Ex.node ρ _ e ho hv with ⟨n,rfl⟩ | ⟨n,rfl⟩ | ⟨sg,cs,ed,ee,hl,hc⟩
 . obtain⟨t,xs,rfl,qt,_,_,rfl,rfl,_,_,rfl,rfl,rfl⟩:=dx;walk_at "rd";exact q H (Same.refl _)
 . obtain⟨t,xs,rfl,qt,_,_,rfl,rfl,_,_,rfl,rfl,rfl⟩:=dx;walk_at "rd";have e:some (V.int (ρ n))=Q4 kvs (.inr n):=Eq.symm hv;exact⟨pb,_,rfl,.inl ⟨kvs,.inr n,.inl hB,rfl,e⟩,q H (Same.refl _)⟩
 . rw[ed]at dx;obtain⟨t,xs,rfl,qt,y,ys,rfl,ey,dys⟩:=dx;obtain rfl:y = .str sg.str:=ey;have xM:atI (.str sg.str :: ys) 0=some (.str sg.str):=Qb (j:=0) rfl;refine⟨_,rfl,.inr (.inl ⟨t,_,_,_,rfl,rfl,qt,xM,.inr (.inl ⟨_,_,rfl,rfl,_,rfl,Jt (λc=>absurd c (pc sg)) λ_=>nxt ?_⟩)⟩)⟩;refine⟨_,rfl,.inr (.inl ⟨t,_,_,_,rfl,rfl,qt,xM,.inr (.inl ⟨_,_,rfl,rfl,_,rfl,Jt (λc=>absurd c (ph sg)) λ_=>nxt ?_⟩)⟩)⟩;refine⟨_,rfl,.inr (.inl ⟨t,_,_,_,rfl,rfl,qt,xM,?_⟩)⟩;refine wg ?_
   have one:¬(HT.sIx (V.str sg.str :: ys).length 0 (some 1)=0/\HT.sIx (V.str sg.str :: ys).length (V.str sg.str :: ys).length none=(V.str sg.str :: ys).length):=λh=>by
    have:=h.1;simp[HT.sIx]at this
   refine⟨_,rfl,_,rfl,.inr ⟨t,_,rfl,qt,one,λp1 hp1=>⟨p1,rfl,⟨_,.of J8⟩,?_⟩⟩⟩;have ecut:JT (V.str sg.str :: ys) (some 1) none=ys:=eI _ 1;rw[ecut];have s1:Same H (upd H p1 (.tup ys)):=Ja hp1 _;have yl:=dys.length;rw[jA]at yl;have lm:cs.length<=3:=by rw[hl];cases sg<;>decide
   refine mh (K:=K) (xs:=ys) ((cs.map (ev ρ)).map D.int) (.of J8) (by simp[yl]) (by rw[yl];exact kE (ZF 'd')) (Yw _) (λi x z H' R hx hd sm hR=>?_) (λp2 H2 zs sm2 e2 dz=>?_)
   . have hi:i < cs.length:=by have:=(jJ.mp hx).1;omega
     obtain⟨y,ey,dy⟩:=dys.get (i:=i) (d:=dE cs[i]) (by rw[jF,jC hi];rfl);obtain rfl:x=y:=by rw[hx]at ey;exact Option.some.inj ey
     rw[jF,jF,jC hi]at hd;obtain rfl:z=D.int (ev ρ cs[i]):=(Option.some.inj hd).symm;obtain⟨c1,c2,c3⟩:=hc _ (jl hi);exact⟨_,rfl,_,rfl,cs[i],x,pb,kvs,ρ,rfl,c1,c2,by omega,dy.same (s1.trans sm),(s1.trans sm) _ _ hB,λxF sm''=>hR _ _ sm'' rfl⟩
   . rw[Zh dz]at e2;refine⟨sg,p2,cs.map (ev ρ),rfl,.of e2,by rw[jA];exact hl,?_⟩;rw[<- ee];exact q _ (s1.trans sm2)
theorem pN(B:Bl mg)(F:Fn K mg "value" YJ ["e", "book"])(Y5:Def P w K mg base "reckoned" 2 ["sign", "numbers"] (gb K)):∀d,Def P w K mg base "value" (d + 2) ["e", "book"] (cJ K d)
 | 0=>by
  refine F.ok oN (λvs H Q E h=>?_) (λf xD A outer s H vs Q E hr h=>?_)
  . obtain⟨e,x,pb,kvs,ρ,rfl,_⟩:=h;rfl
  . obtain⟨e,x,pb,kvs,ρ,rfl,_,_,hh,_⟩:=h;exact absurd hh (qE _)
 | d + 1=>B1 d B F Y5 (pN B F Y5 d)
def pO{c:TT}{t u v:TS}{D:Ends}(Pj:St->Hp->Prop)(h:∀R:St->Hp->Prop,(∀xE H',Pj xE H'->R xE H')->c σ H λb H'=>if b=true then t { D with nx:=R } σ H' else u { D with nx:=R } σ H')(k:∀xE H',Pj xE H'->v D xE H'):XI (iA c t u) v D σ H:=h _ k
def SmA(a:J0)(H H':Hp):Prop:=∀b u,b≠a->H b=some u->H' b=some u
def SmA.of(h:Same H H'):SmA a H H':=λb u _ q=>h b u q
def SmA.trans(h:SmA a H H')(h':SmA a H' xF):SmA a H xF:=λb u n q=>h' b u n (h b u n q)
structure SAd where
 g:J0
 dx:J0
 nt:J0
 sd:J0
def fS(γ:SAd)(m:Int):List (Str×V):=[("most",.int m),("shares",.ref γ.sd),("names",.ref γ.nt)]
structure SAt (K:xt) (CS:J0) (H:Hp) (γ:SAd) (m:Int) (ns:xy) (acc:List (xA×Rat)):Prop where
 ins:H γ.g=some (.ins CS γ.dx (fS γ m))
 nm:TupZ H γ.nt (ns.map V.str)
 dct:∃ks,H γ.sd=some (.dT (kz ks))/\Acc K H acc ks
theorem SAt.same(h:SAt K CS H γ m ns acc)(s:Same H H'):SAt K CS H' γ m ns acc:=by
 obtain⟨h1,h2,ks,h3,h4⟩:=h;exact⟨s _ _ h1,h2.same s,ks,s _ _ h3,h4.mono λr v d=>d.same s⟩
def B2(γ:SAd)(m:Int):(fS γ m).lookup ("most" : Str)=some (.int m):=rfl
def Z6(γ:SAd)(m:Int):(fS γ m).lookup ("shares" : Str)=some (.ref γ.sd):=rfl
def Qo(γ:SAd)(m:Int):(fS γ m).lookup ("names" : Str)=some (.ref γ.nt):=rfl
def Xe(K:xt)(CS:J0):Sp:=λvs H Q _=>∃(γ:SAd) (m:Int) (ns:xy) (acc:List (xA×Rat)) (t:J0) (v:xA) (sv:V) (q:Rat),vs=[.ref γ.g,.ref t,sv]/\SAt K CS H γ m ns acc/\H t=some (.tup (v.map V.int))/\IsD K H (dF q) sv/\sz q/\(∀g∈acc,sz g.2)/\acc.length<=900 /\
 ((JG acc v q).length:Int)<=m/\∀H',SmA γ.sd H H'->SAt K CS H' γ m ns (JG acc v q)->Q .non H'
theorem B3(B:Bl mg)(xI:Cls K CS)(n1:NoAttr K CS "most")(n2:NoAttr K CS "shares")(Y4:Def P w K mg base "plus" 3 ["one", "other"] (fX K))(F:MFn K CS "add" "Gathering.add" cf ["self", "numbers", "share"]):DefM P w K mg base CS "add" 4 ["self", "numbers", "share"] (Xe K CS):=by
 refine F.ok3 oU (λvs H Q E h=>?_) (λf xD A outer s H vs Q E hr h=>?_)
 . obtain⟨γ,m,ns,acc,t,v,sv,q,rfl,_⟩:=h;rfl
 obtain⟨γ,m,ns,acc,t,v,sv,q,rfl,sa,ht,dq,zq,za,l9,fit,k0⟩:=h
 refine⟨_,(@J7 _ _ _ _ _ (Js (Jo (mx (Xm hr)) (pv 1) (JF (pv 0) rfl) 'g') (@Jc _ _ _ (Jg (i:=2) oU.nd rfl 'b' (Jh Y4 hr rfl (J4 (e9 (Xm hr) (JF (pv 0) rfl) (pv 1) (λ_ _=>rfl)) (J4 (pv 2) J6))))) Ju)
  (@J7 _ _ _ _ _ (eA (Xm hr) (JF (pv 0) rfl) (pv 1) (pv 2) rfl)
  (@Jc _ _ _ (Js (Jo dG (Qk zX rfl B.len PySem.boot_len (J4 (JF (pv 0) rfl) J6)) (JF (pv 0) rfl) (Jk _)) (@Jc _ _ _ zI) Ju)))),?_⟩
 obtain⟨h1,h2,ks,h3,ac⟩:=id sa;have kl:=ac.length;have kt:H t=some (.tup ((v.map (Sum.inl:Int->Key)).map kV)):=by rw[X6];exact ht
 have get:=DGet.t h3 kt;have lz:(kz ks).length < sizeLine:=by rw[jA];exact ZF 'd'
 refine pO (λxE H'=>Same H H'/\∃(x:Rat) (sv':V),xE=[some (.ref γ.g),some (.ref t),some sv']/\IsD K H' (dF x) sv'/\JU acc v x=JG acc v q) (λR hR=>?_) ?_
 . refine⟨_,rfl,_,rfl,γ.g,CS,γ.dx,_,_,rfl,h1,xI,n2,Z6 γ m,γ.sd,_,rfl,get,_,rfl,?_⟩;rcases ac.val v with ⟨e3,e4⟩ | ⟨r,vv,e3,e4,dr⟩
   . rw[e4];exact ZG (hR _ _ ⟨Same.refl _,q,sv,rfl,dq,by unfold JG;rw[e3]⟩)
   . rw[e4]at get ⊢
     have zr:sz r:=by
      unfold Qc at e3
      cases ef:acc.find? λp=>decide (p.1=v) with
      | none=>rw[ef]at e3;cases e3
      | some g =>
       rw[ef]at e3
       cases e3
       exact za g (List.mem_of_find?_eq_some ef)
     refine Yt ⟨_,rfl,γ.g,CS,γ.dx,_,_,rfl,h1,xI,n2,Z6 γ m,_,rfl,γ.sd,vv,rfl,get,_,rfl,vv,sv,r,q,rfl,dr,dq,zr,zq,λp3 H3 s3 d3=>hR _ _ ⟨s3,r + q,.ref p3,rfl,d3,by unfold JG;rw[e3]⟩⟩
 . rintro xE H' ⟨sm,x,sv',rfl,dx',es⟩;have h3':=sm _ _ h3;have ne1:γ.g≠γ.sd:=QN h1 h3 (λz=>by cases z)
   obtain⟨b2,ac2⟩:(upd H' γ.sd (.dT (JP (kz ks) (v.map Sum.inl) sv'))) γ.sd=some (.dT (kz (JU ks v sv')))/\Acc K (upd H' γ.sd (.dT (JP (kz ks) (v.map Sum.inl) sv'))) (JG acc v q) (JU ks v sv'):=by
    refine⟨by rw[J8,fZ],?_⟩;rw[<- es];exact((ac.mono λr v h=>h.same sm).set dx').mono (g9 h3')
   refine⟨_,rfl,_,rfl,γ.g,CS,γ.dx,_,_,rfl,sm _ _ h1,xI,n2,Z6 γ m,_,rfl,γ.sd,_,rfl,DPut.t h3' (sm _ _ kt) lz,?_⟩;have s2:SmA γ.sd H (upd H' γ.sd (.dT (JP (kz ks) (v.map Sum.inl) sv'))):=λb u n h=>by rw[Jb n];exact sm b u h
   have nt:γ.nt≠γ.sd:=by
    obtain⟨o,e,_⟩:=h2;exact QN e h3 (λz=>by cases z)
   have sa2:SAt K CS (upd H' γ.sd (.dT (JP (kz ks) (v.map Sum.inl) sv'))) γ m ns (JG acc v q):=⟨by rw[Jb ne1];exact sm _ _ h1,by
    obtain⟨o,e,d⟩:=h2;exact⟨o,by rw[Jb nt];exact sm _ _ e,d⟩,_,b2,ac2⟩
   have l2:=ac2.length;generalize upd H' γ.sd (.dT (JP (kz ks) (v.map Sum.inl) sv'))=H2 at b2 s2 sa2 ⊢;refine⟨_,rfl,γ.g,CS,γ.dx,_,_,rfl,sa2.ins,xI,n2,Z6 γ m,γ.sd,_,rfl,b2,_,rfl,γ.g,CS,γ.dx,_,_,rfl,sa2.ins,xI,n1,B2 γ m,_,_,rfl,rfl,_,rfl,Jt (λc=>?_) (λc=>?_)⟩
   . rw[jA,<- l2]at c;exact absurd c 'd'
   . rw[jA,<- l2]at c;exact nxt (k0 H2 s2 sa2)
def pP(CS:J0):Sp:=λvs H Q _=>∃(g dx:J0) (m:Int),vs=[.ref g,.int m]/\H g=some (.ins CS dx []) /\
 ∀(sd:J0) (H':Hp),SmA g H H'->H sd=none->H' g=some (.ins CS dx [("most",.int m),("shares",.ref sd)])->H' sd=some (.dT [])->sd≠g->Q .non H'
def B4(B:Bl mg)(xI:Cls K CS)(n1:NoAttr K CS "most")(n2:NoAttr K CS "shares")(F:CFn K mg "Gathering" CGa "__init__" "Gathering.__init__" bR ["self", "most"]):DefC P w K mg base "Gathering" CGa "__init__" 1 ["self", "most"] (pP CS):=by
 refine F.ok3 Ak (λvs H Q E h=>?_) (λf xD A outer s H vs Q E hr h=>?_)
 . obtain⟨g,dx,m,rfl,_⟩:=h;rfl
 obtain⟨g,dx,m,rfl,hg,q⟩:=h
 refine⟨_,(@J7 _ _ _ _ _ (ZC (pv 0) (pv 1) rfl)
  (@Jc _ _ _ (ZC (pv 0) eC rfl))),?_⟩
 refine⟨_,rfl,_,rfl,g,CS,dx,_,rfl,hg,xI,n1,(by show 0 < 1000;decide),?_⟩;refine λsd f1=>?_;have ne:sd≠g:=λz=>by rw[z,J8]at f1;cases f1
 refine⟨_,rfl,g,CS,dx,_,rfl,(by rw[Jb ne.symm];exact J8),xI,n2,(by show 1 < 1000;decide),?_⟩;have e1:H sd=none:=by rw[Jb ne]at f1;exact f1
 refine q sd _ (λb u n h=>?_) e1 J8 (by rw[Jb ne];exact J8) ne;rw[Jb n,Jb (Jv h e1),Jb n];exact h
def XB(K:xt)(CS:J0):Sp:=λvs H Q _=>∃(g dx nt:J0) (m:Int) (ns:xy),vs=[.ref g,.ref nt,.int m]/\H g=some (.ins CS dx [])/\TupZ H nt (ns.map V.str) /\
 ∀(sd:J0) (H':Hp),SmA g H H'->H sd=none->SAt K CS H' ⟨g,dx,nt,sd⟩ m ns []->Q .non H'
def B5(B:Bl mg)(xI:Cls K CS)(n3:NoAttr K CS "names")(DC_Gathering:DefC P w K mg base "Gathering" CGa "__init__" 1 ["self", "most"] (pP CS))(F:Fun K "__init__" "StateList.__init__" bS f fd):FnOk P w K mg base (CXD P w) 2 f fd ["self", "names", "most"] (XB K CS):=by
 refine F.ok3 Am (λvs H Q E h=>?_) (λxD A outer s H vs Q E hr h=>?_)
 . obtain⟨g,dx,nt,m,ns,rfl,_⟩:=h;rfl
 obtain⟨g,dx,nt,m,ns,rfl,hg,hz,q⟩:=h
 refine⟨_,(@J7 _ _ _ _ _ (Qa (zY DC_Gathering hr rfl Jz (J4 (pv 0) (J4 (pv 2) J6))))
  (@Jc _ _ _ (ZC (pv 0) (pv 1) rfl))),?_⟩
 refine⟨_,rfl,_,rfl,g,dx,m,rfl,hg,λsd H1 s1 f1 e1 e2 ne=>?_⟩;refine⟨_,rfl,_,rfl,g,CS,dx,_,rfl,e1,xI,n3,(by show 2 < 1000;decide),?_⟩;refine q sd _ (λb u n h=>by rw[Jb n];exact s1 b u n h) f1 ⟨J8,?_,[],by rw[Jb ne];exact e2,.nil⟩;obtain⟨o,e,d⟩:=hz;have ng:nt≠g:=QN e hg (λz=>by cases z);exact⟨o,by rw[Jb ng];exact s1 _ _ ng e,d⟩
def B6{nt:J0}{m:Int}{ns:xy}{H:Hp}{Q:VK}{E:XK}(z:TupZ H nt (ns.map V.str))(k:∀(γ:SAd) (H':Hp),γ.nt=nt->Same H H'->H γ.g=none->H γ.sd=none->SAt K CS H' γ m ns []->Q (.ref γ.g) H') :
 ∀x dx,H x=none->H dx=none->dx≠x->XB K CS (.ref x :: ([.ref nt,.int m] ++ [])) (upd (upd H dx (.own x)) x (.ins CS dx [])) (λv H2=>v = .non/\Q (.ref x) H2) E:=by
 intro x dx fx fdx ne;have sA:Same H (upd (upd H dx (.own x)) x (.ins CS dx [])):=(Ja fdx _).trans (Ja (by rw[Jb ne.symm];exact fx) _);refine⟨x,dx,nt,m,ns,rfl,J8,z.same sA,λsd H' s1 f1 sa=>⟨rfl,?_⟩⟩
 have f2:H sd=none:=by
  cases e:H sd with
  | none=>rfl
  | some u=>rw[sA _ _ e]at f1;cases f1
 exact k ⟨x,dx,nt,sd⟩ H' rfl (λb u h=>s1 b u (Jv h fx) (sA b u h)) fx f2 sa
def pQ(ha:H a=some (.tup xs))(k:∀p H',Same H H'->H' p=some (.tup (JT xs lo hi))->Q (.ref p) H'):oB K (.ref a) lo hi H Q :=
 ⟨a,xs,rfl,.of ha,λw=>k a H (Same.refl _) (by rw[oJ w];exact ha),λ_ p hp=>k p _ (Ja hp _) J8⟩
def pR(ha:H a=some (.tup xs))(hb:H b=some (.tup ys))(hz:xs.length + ys.length<=sizeLine)(k:∀p H',Same H H'->H' p=some (.tup (xs ++ ys))->Q (.ref p) H'):ny K (.ref a) (.ref b) H Q :=
 ⟨a,b,xs,ys,rfl,rfl,.of ha,.of hb,hz,λe=>k b H (Same.refl _) (by rw[e];exact hb),λ_ e=>k a H (Same.refl _) (by rw[e,ju];exact ha),λ_ p hp=>k p _ (Ja hp _) J8⟩
def repl{α:Type}(l:List α)(i:Nat)(x:α):List α:=l.take i ++ [x] ++ l.drop (i + 1)
def gh(K:xt):Sp:=λvs H Q _=>∃(a:J0) (i:Nat) (x:V) (xs:List V),vs=[.ref a,.int (i:Nat),x]/\i<=xs.length/\xs.length<=1000 /\
 ((TupZ H a xs/\∀p H',Same H H'->TupZ H' p (repl xs i x)->Q (.ref p) H')\/(H a=some (.tup xs)/\∀p H',Same H H'->H' p=some (.tup (repl xs i x))->Q (.ref p) H'))
def B7(B:Bl mg)(F:Fn K mg "replaced" bD ["some", "place", "one"]):Def P w K mg base "replaced" 1 ["some", "place", "one"] (gh K):=by
 refine F.ok Ag (λvs H Q E h=>?_) (λf xD A outer s H vs Q E hr h=>?_)
 . obtain⟨a,i,x,xs,rfl,_⟩:=h;rfl
 obtain⟨a,i,x,xs,rfl,hi,l9,md⟩:=h;refine⟨_,(@Jc _ _ _ (Ji (J9 (JB.or (eV.or (eU K rfl))) (J9 (JB.or (eV.or (eU K rfl))) (QP (oK.or (oC K rfl)) (pv 0) X3 (QE (pv 1))) (fI (@zS _ _ _ _ _ (pv 2) rfl) (@zR _ _ _ _ _ (pv 2) rfl))) (QP (oK.or (oC K rfl)) (pv 0) (QE (J9 (JB.or (eV.or (eU K rfl))) (pv 1) J5)) X3)))),?_⟩;have big:(10000:Nat) < sizeLine:=by decide
 have c1:JT xs none (some ((i:Nat):Int))=xs.take i:=Yu xs i;have c2:JT xs (some (((i:Nat):Int) + 1)) none=xs.drop (i + 1):=eI xs (i + 1);have lt:(xs.take i).length<=1000:=by rw[jT];omega
 have ld:(xs.drop (i + 1)).length<=1000:=by rw[jr];omega
 have lm:(xs.take i ++ [x]).length<=1001:=by rw[jI,List.length_singleton];omega
 rcases md with ⟨z,k⟩ | ⟨z,k⟩
 . refine⟨_,rfl,_,rfl,_,rfl,.inl ⟨a,xs,rfl,z,λp1 H1 s1 z1=>?_⟩⟩;rw[c1]at z1;refine .inl ⟨_,rfl,by show 1<=sizeLine;decide,λp2 o n2 d2=>?_⟩;have s2:=Ja n2 (.frz o (.tup [x]));refine .inr (.inl ⟨p1,p2,_,_,rfl,rfl,z1.same s2,⟨o,J8,d2⟩,by show(xs.take i).length + 1<=_;omega,λp3 H3 s3 z3=>?_⟩);refine⟨_,rfl,_,rfl,.inl ⟨_,_,rfl,rfl,_,rfl,.inl ⟨a,xs,rfl,z.same (s1.trans (s2.trans s3)),λp4 H4 s4 z4=>?_⟩⟩⟩;rw[c2]at z4;exact .inr (.inl ⟨p3,p4,_,_,rfl,rfl,z3.same s4,z4,by omega,λp5 H5 s5 z5=>k p5 H5 (s1.trans (s2.trans (s3.trans (s4.trans s5)))) z5⟩)
 . refine⟨_,rfl,_,rfl,_,rfl,.inr (pQ z λp1 H1 s1 z1=>?_)⟩;rw[c1]at z1;refine .inr ⟨_,rfl,by show 1<=sizeLine;decide,λp2 n2=>?_⟩;have s2:=Ja n2 (.tup [x]);refine .inr (.inr (pR (s2 _ _ z1) J8 (by show(xs.take i).length + 1<=_;omega) λp3 H3 s3 z3=>?_));refine⟨_,rfl,_,rfl,.inl ⟨_,_,rfl,rfl,_,rfl,.inr (pQ ((s1.trans (s2.trans s3)) _ _ z) λp4 H4 s4 z4=>?_)⟩⟩;rw[c2]at z4;exact .inr (.inr (pR (s4 _ _ z3) z4 'd' λp5 H5 s5 z5=>k p5 H5 (s1.trans (s2.trans (s3.trans (s4.trans s5)))) z5))
def pU{ns:xy}{n:Str}(hn:ns.idxOf n < ns.length):eqV ((ns.map V.str)[ns.idxOf n]'(by rw[jA];exact hn)) (.str n)=true/\∀m (hm:m < (ns.map V.str).length),m < ns.idxOf n->eqV ((ns.map V.str)[m]) (.str n)=false:=by
 refine⟨?_,λm hm hmj=>?_⟩
 . rw[kG,cH,List.getElem_idxOf hn];exact qm rfl
 . rw[kG,cH];refine qk λz=>?_;have:=List.not_of_lt_findIdx (p:=(· == n)) (xs:=ns) (i:=m) (by simpa [List.idxOf] using hmj);simp[z]at this
def gj(K:xt)(CS:J0):Sp:=λvs H Q _=>∃(γ:SAd) (m:Int) (ns:xy) (acc:List (xA×Rat)) (n:Str),vs=[.ref γ.g,.str n]/\SAt K CS H γ m ns acc/\Q (.int (ns.idxOf n:Nat)) H
def B8(B:Bl mg)(xI:Cls K CS)(n3:NoAttr K CS "names")(F:MFn K CS "place_for" "StateList.place_for" bT ["self", "name"]):DefM P w K mg base CS "place_for" 1 ["self", "name"] (gj K CS):=by
 refine F.ok3 An (λvs H Q E h=>?_) (λf xD A outer s H vs Q E hr h=>?_)
 . obtain⟨γ,m,ns,acc,n,rfl,_⟩:=h;rfl
 obtain⟨γ,m,ns,acc,n,rfl,sa,q⟩:=h;refine⟨_,(@Jc _ _ _ (Ji (Yn (Jo (mi K rfl) (pv 1) (JF (pv 0) rfl) 'g') (nw PySem.F.slot_tuple_index PySem.F.type_tuple_index (nk K rfl) (JF (pv 0) rfl) (J4 (pv 1) J6)) (Qk (Zi K rfl) rfl B.len PySem.boot_len (J4 (JF (pv 0) rfl) J6))))),?_⟩;have qz:=sa.nm;refine⟨_,rfl,_,rfl,γ.g,CS,γ.dx,_,_,rfl,sa.ins,xI,n3,Qo γ m,γ.nt,_,rfl,.inr qz.sq,rfl,XV _,_,rfl,?_⟩;show if inV (.str n) (ns.map V.str)=true then _ else _;rw[Yx];refine Jt (λc=>?_) (λc=>?_)
 . have hn:=jv.mpr c;obtain⟨e1,e2⟩:=pU hn;exact⟨_,rfl,γ.g,CS,γ.dx,_,_,rfl,sa.ins,xI,n3,Qo γ m,γ.nt,_,rfl,qz,_,rfl,γ.nt,ns.map V.str,.str n,ns.idxOf n,by rw[jA];exact hn,rfl,rfl,qz.sq,rfl,XV _,e1,e2,q⟩
 . have e:ns.idxOf n=ns.length:=List.idxOf_eq_length c;rw[e]at q;refine⟨_,rfl,γ.g,CS,γ.dx,_,_,rfl,sa.ins,xI,n3,Qo γ m,_,_,rfl,.inr ⟨_,qz.sq,rfl⟩,?_⟩;rw[jA];exact q
theorem pV(f:Str->V):∀(ms ks:xy),Xn (kM ks f) (kM ms f)=kM (unS ks ms) f
 | [],_=>rfl
 | m :: ms,ks=>by
  show Xn (JP (kM ks f) (Sum.inr m) (f m)) (kM ms f)=_;rw[AI,AG (g:=f) λy _=>by split;rename_i h;rw[h];rfl,pV f ms];rfl
def bk(ns:xy)(v:xA):Str->Int:=λx=>v.getD (ns.idxOf x) 0
def wn(es:List Ex):xy:=es.flatMap Ex.nms
def B9{es:List Ex}{i:Nat}{e:Ex}(h:es[i]? = some e):wn (es.take (i + 1))=wn (es.take i) ++ e.nms:=by
 unfold wn;rw[k9,h,List.flatMap_append];simp
def pW(h:∀e∈es,Xz e):(wn es).length<=12 * es.length:=by
 unfold wn
 induction es with
 | nil=>exact jD _
 | cons e es ih =>
  rw[List.flatMap_cons,jI,jP];have h1:=pE (h e 'j');have h2:=ih λx hx=>h x (jS _ hx);omega
def VRow(K:xt)(ns:xy)(es:List Ex)(H:Hp)(p:xA×Rat)(y:V):Prop:=∃(r t u:J0) (sv:V),y = .ref r/\H r=some (.tup [.ref t,sv,.ref u])/\H t=some (.tup (p.1.map V.int))/\IsD K H (dF p.2) sv/\H u=some (.tup ((es.map (ev (bk ns p.1))).map V.int))
theorem VRow.same(h:VRow K ns es H p y)(s:Same H H'):VRow K ns es H' p y:=by
 obtain⟨r,t,u,sv,h1,h2,h3,h4,h5⟩:=h;exact⟨r,t,u,sv,h1,s _ _ h2,s _ _ h3,h4.same s,s _ _ h5⟩
def a6:JW v (plc ns ss)=ss.map (bk ns v):=by
 unfold JW plc bk;rw[kK];exact j9 λx _=>by simp
def NoT(H:Hp)(a:J0):Prop:=(∀xs,H a≠some (.tup xs))/\∀o xs,H a≠some (.frz o (.tup xs))
def pX(e:H a=some (.lst xs)):NoT H a:=⟨λ_ z=>(by rw[e]at z;cases z),λ_ _ z=>(by rw[e]at z;cases z)⟩
def QI(e:H a=some (.dT kvs)):NoT H a:=⟨λ_ z=>(by rw[e]at z;cases z),λ_ _ z=>(by rw[e]at z;cases z)⟩
def gk(e:H a=some (.frz o (.dT kvs))):NoT H a:=⟨λ_ z=>(by rw[e]at z;cases z),λ_ _ z=>(by rw[e]at z;cases z)⟩
theorem NoT.tup{H:Hp}{a b:J0}{u:HO}{xs:List V}(n:NoT H a)(h:H b=some (.tup xs)):upd H a u b=some (.tup xs):=by rw[Jb (λz=>n.1 xs (by rw[<- z];exact h))];exact h
def NoT.tz(n:NoT H a)(h:TupZ H b xs):TupZ (upd H a u) b xs:=by
 obtain⟨o,e,d⟩:=h;exact⟨o,by rw[Jb (λz=>n.2 o xs (by rw[<- z];exact e))];exact e,d⟩
def NoT.sq(n:NoT H a)(h:SqT K H b xs):SqT K (upd H a u) b xs:=by
 rcases h with (h | ⟨o,h⟩) | h
 . exact .inl (.inl (n.tup h))
 . exact .inl (.inr ⟨o,by rw[Jb (λz=>n.2 o xs (by rw[<- z];exact h))];exact h⟩)
 . exact .inr h
theorem NoT.dF(n:NoT H a)(h:IsD K H (dF r) v):IsD K (upd H a u) (Fd.dF r) v:=by
 obtain⟨p,rfl,q⟩:=QT h;exact⟨p,_,rfl,n.sq q,_,_,rfl,rfl,_,_,rfl,rfl,rfl⟩
def VRow.no(n:NoT H a)(h:VRow K ns es H p y):VRow K ns es (upd H a u) p y:=by
 obtain⟨r,t,u,sv,h1,h2,h3,h4,h5⟩:=h;exact⟨r,t,u,sv,h1,n.tup h2,n.tup h3,n.dF h4,n.tup h5⟩
def SqL.noL(n1:∀ys,H a≠some (.lst ys))(n2:∀o ys,H a≠some (.frz o (.lst ys)))(h:SqL K H b xs):SqL K (upd H a u) b xs:=by
 rcases h with (h | ⟨o,h⟩) | h
 . exact .inl (.inl (by rw[Jb (λz=>n1 xs (by rw[<- z];exact h))];exact h))
 . exact .inl (.inr ⟨o,by rw[Jb (λz=>n2 o xs (by rw[<- z];exact h))];exact h⟩)
 . exact .inr h
mutual
theorem Ba{H:Hp}{a:J0}{u:HO}(n:NoT H a)(n1:∀ys,H a≠some (.lst ys))(n2:∀o ys,H a≠some (.frz o (.lst ys))):∀(d:D) (v:V),IsD K H d v->IsD K (upd H a u) d v
 | .tup l,v,h=>by
  obtain⟨p,xs,e,q,ds⟩:=h;exact⟨p,xs,e,n.sq q,Y6 n n1 n2 l xs ds⟩
 | .lst l,v,h=>by
  obtain⟨p,xs,e,q,ds⟩:=h;exact⟨p,xs,e,SqL.noL n1 n2 q,Y6 n n1 n2 l xs ds⟩
 | .int _,v,h=>h
 | .str _,v,h=>h
 | .bl _,v,h=>h
 | .non,v,h=>h
theorem Y6{H:Hp}{a:J0}{u:HO}(n:NoT H a)(n1:∀ys,H a≠some (.lst ys))(n2:∀o ys,H a≠some (.frz o (.lst ys))):∀(ds:List D) (vs:List V),IsDs K H ds vs->IsDs K (upd H a u) ds vs
 | [],_,h=>h
 | d :: ds,vs,h=>by
  obtain⟨x,r,e,h1,h2⟩:=h;exact⟨x,r,e,Ba n n1 n2 d x h1,Y6 n n1 n2 ds r h2⟩
end
def a7(s:Same H H')(f:H' p=none):H p=none:=by
 cases e:H p with
 | none=>rfl
 | some u=>rw[s _ _ e]at f;cases f
def Bb(h:wi σ H (Qg ix te σ λx H1=>r [x] H1 Q)):tCB r (Jy (QF ix wi X4 te) JR) σ H Q:=h
def gm{i:Nat}(h:(kz ks)[i]? = some kv):∃kw,ks[i]? = some kw/\kv=(kw.1.map Sum.inl,kw.2):=by
 rw[jF]at h;obtain⟨kw,h1,h2⟩:=jj.mp h;exact⟨kw,h1,h2.symm⟩
theorem Acc.at:∀{acc:List (xA×Rat)}{ks:List (xA×V)},Acc K H acc ks->∀{i:Nat}{kw:xA×V},ks[i]? = some kw->∃q,acc[i]? = some (kw.1,q)/\IsD K H (dF q) kw.2
 | _,_,.nil,i,kw,h=>by simp at h
 | p :: _,_,.cons h t,0,kw,e=>by
  have e:=Option.some.inj e;subst e;exact⟨p.2,qP some (Prod.ext h.1 rfl),h.2⟩
 | _,_,.cons h t,i + 1,kw,e=>Acc.at t (i:=i) e
def Bc{α β:Type}{F:α->β->Prop}{l:List α}{m:List β}{x:α}{y:β}(h:Paired F l m)(g:F x y):Paired F (l ++ [x]) (m ++ [y]):=g7 g h
def a8(K:xt)(CS:J0):Sp:=λvs H Q _=>∃(γ:SAd) (m:Int) (ns:xy) (acc:List (xA×Rat)) (la:J0) (xs:List V) (es:List Ex),vs=[.ref γ.g,.ref la]/\SAt K CS H γ m ns acc/\SqL K H la xs/\IsDs K H (es.map dE) xs/\es.length<=8/\(∀e∈es,Xz e/\∀n∈e.nms,n∈ns)/\(∀p∈acc,p.1.length=ns.length)/\acc.length<=900 /\
 ∀(l:J0) (H':Hp) (ys:List V),Same H H'->H l=none->H' l=some (.lst ys)->Paired (VRow K ns es H') acc ys->Q (.ref l) H'
def Be(B:Bl mg)(xI:Cls K CS)(n2:NoAttr K CS "shares")(n3:NoAttr K CS "names")(YY:Def P w K mg base "names_in" 12 ["e"] (cI K 10))(XC:Def P w K mg base "places_of" 1 ["names", "some"] (cG K))(XA:Def P w K mg base "chosen" 1 ["values", "places"] (cC K))(YZ:Def P w K mg base "value" 12 ["e", "book"] (cJ K 10))(F:MFn K CS "valued" "StateList.valued" bU ["self", "es"]):DefM P w K mg base CS "valued" 13 ["self", "es"] (a8 K CS):=by
 refine F.ok3 Z2 (λvs H Q E h=>?_) (λf xD A outer s H vs Q E hr h=>?_)
 . obtain⟨γ,m,ns,acc,la,xs,es,rfl,_⟩:=h;rfl
 obtain⟨γ,m,ns,acc,la,xs,es,rfl,sa,ql,ids,l8,eo,vl,l9,q⟩:=h
 refine⟨_,(@J7 _ _ _ _ _ (Jg (i:=2) Z2.nd rfl 'b' (Qw J6))
  (@J7 _ _ _ _ _ (X9 (Qi (pv 1)) (JD (i:=3) Z2.nd rfl 'b') (@Jc _ _ _ (Qa (XM PySem.F.plainAttrs_list PySem.F.slot_list_extend PySem.F.type_list_extend zU (pv 2) (J4 (Jh YY hr rfl (J4 (pv 3) J6)) J6)))))
  (@J7 _ _ _ _ _ (Jg (i:=4) Z2.nd rfl 'b' (Jh XC hr rfl (J4 (JF (pv 0) rfl) (J4 (pv 2) J6))))
  (@J7 _ _ _ _ _ (Jg (i:=5) Z2.nd rfl 'b' (Qw J6))
  (@J7 _ _ _ _ _ (fG (X9 (fE (JF (pv 0) rfl)) (QZ rfl (JZ (JD (i:=6) Z2.nd rfl 'b') (JZ (JD (i:=7) Z2.nd rfl 'b') QY))) (@J7 _ _ _ _ _ (Jg (i:=8) Z2.nd rfl 'b' (zG K rfl rfl rfl B.dict PyProof.Rows.boot_dict rfl B.zip PyProof.Rows.boot_zip (J4 (pv 2) (J4 (Jh XA hr rfl (J4 (pv 6) (J4 (pv 4) J6))) J6))))
  (@Jc _ _ _ (Qa (XM PySem.F.plainAttrs_list PySem.F.slot_list_append PySem.F.type_list_append Zf (pv 5) (J4 (JV (J4 (pv 6) (J4 (pv 7) (J4 (QD (aN K rfl) rfl B.tuple PyProof.Rows.boot_tuple (J4 (QQ (CompOk.of (x := "e") (M:=["book"]) (ix:=[8]) rfl rfl (by decide +kernel) (by decide +kernel) rfl ⟨rfl,trivial⟩ 'g' ⟨⟨rfl,rfl,rfl,rfl⟩,trivial⟩) rfl (by decide +kernel) (Qi (pv 1)) (λ_ _ _ _ _=>Xp) (λ_ _ _ _ _=>(Jh YZ hr rfl (J4 (pv 0) (J4 (pv 1) J6))))) J6)) J6)))) J6)))))))
  (@Jc _ _ _ (Ji (pv 5)))))))),?_⟩
 have big:(10000:Nat) < sizeLine:=by decide
 have xl:=ids.length;rw[jA]at xl;refine⟨by show 0<=sizeLine;decide,λwl fw=>?_⟩;have s1:=Ja fw (.lst []);refine⟨_,rfl,la,rfl,⟨_,s1.seq ql⟩,X1 (K:=K) (xs:=xs) (λi σ H'=>Same H H'/\∃c3,σ=[some (.ref γ.g),some (.ref la),some (.ref wl),c3,none,none,none,none,none]/\H' wl=some (.lst ((wn (es.take i)).map V.str))) ⟨s1,none,rfl,J8⟩ (λi σ H' _ h=>h.1.seq ql) ?_ ?_⟩
 . rintro i x σ H' hx ⟨sm,c3,rfl,hw⟩;have hi:i < es.length:=by have:=(jJ.mp hx).1;omega
   obtain⟨y,ey,dy⟩:=ids.get (i:=i) (d:=dE es[i]) (by rw[jF,jC hi];rfl);obtain rfl:x=y:=by rw[hx]at ey;exact Option.some.inj ey
   obtain⟨o1,o2,o3⟩:=(eo _ (jl hi)).1;have o4:=pE ⟨o1,o2,o3⟩;refine⟨_,rfl,.inl ⟨rfl,_,.of hw⟩,_,rfl,es[i],x,es[i].rds,rfl,o1,(Xy _).mpr λ_ h=>h,by omega,o2,dy.same sm,λp H2 np s2 ep=>?_⟩;have l1:=pW (es:=es.take i) λe he=>(eo e (jm he)).1;rw[jT]at l1;refine⟨wl,p,_,_,rfl,rfl,s2 _ _ hw,.of ep,by rw[jA,jA];omega,?_⟩;exact⟨XR fw (sm.trans s2),_,rfl,by rw[J8,B9 (jC hi),jo]⟩
 rintro σ H1 ⟨sm1,c3,rfl,hw⟩;rw[xl,jk]at hw;have lw:=pW (es:=es) λe he=>(eo e he).1
 have wsub:∀n∈wn es,n∈ns:=λn hn=>by
  obtain⟨e,he,hn⟩:=List.mem_flatMap.mp hn;exact(eo e he).2 n hn
 have sa1:=sa.same sm1;refine⟨_,rfl,γ.g,CS,γ.dx,_,_,rfl,sa1.ins,xI,n3,Qo γ m,_,rfl,γ.nt,wl,ns,wn es,rfl,sa1.nm,.inl (.of hw),wsub,by omega,λpl H2 s2 hpl=>?_⟩;dsimp only[Jm,List.set];refine⟨by show 0<=sizeLine;decide,λfl ff=>?_⟩;have s3:=Ja ff (.lst []);have sm3:=sm1.trans (s2.trans s3);have ff0:H fl=none:=a7 (sm1.trans s2) ff;obtain⟨ks,h3,ac⟩:=sa.dct;have kl:=ac.length;have hfl:upd H2 fl (.lst []) fl=some (.lst []):=J8;have hpl3:=s3 _ _ hpl;have hw3:=(s2.trans s3) _ _ hw;dsimp only[Jm,List.set];generalize upd H2 fl (.lst [])=H3 at s3 sm3 hfl hpl3 hw3 ⊢;have sa3:=sa.same sm3;have nfl:fl≠γ.sd:=(Jv h3 ff0).symm;have npl:pl≠γ.sd:=QN hpl3 (sm3 _ _ h3) (λz=>by cases z);have nwl:wl≠γ.sd:=QN hw3 (sm3 _ _ h3) (λz=>by cases z);have fpl:pl≠fl:=Jv hpl ff;have fwl:wl≠fl:=Jv (s2 _ _ hw) ff;refine⟨γ.sd,kz ks,sm3 _ _ h3,?_⟩;refine⟨_,rfl,γ.g,CS,γ.dx,_,_,rfl,sa3.ins,xI,n2,Z6 γ m,γ.sd,kz ks,rfl,sm3 _ _ h3,λo=>?_⟩
 refine fH (kvs:=kz ks) (λi σ H'=>Same (upd H γ.sd (.frz o (.dT (kz ks)))) H'/\H' pl=some (.lst ((plc ns (wn es)).map V.int))/\H' wl=some (.lst ((wn es).map V.str))/\∃(c6 c7 c8:Option V) (ys:List V),σ=[some (.ref γ.g),some (.ref la),some (.ref wl),c3,some (.ref pl),some (.ref fl),c6,c7,c8]/\H' fl=some (.lst ys)/\Paired (VRow K ns es H') (acc.take i) ys)
  ⟨λb u hb=>?_,by rw[Jb npl];exact hpl3,by rw[Jb nwl];exact hw3,none,none,none,[],rfl,by rw[Jb nfl];exact hfl,.nil⟩ (λi σ H' _ h=>h.1 _ _ J8) ?_ ?_
 . by_cases z:b=γ.sd
   . rw[z,J8]at hb ⊢;exact hb
   . rw[Jb z]at hb ⊢;exact sm3 _ _ hb
 . rintro i kv p t σ H' hkv ⟨sm,hpl',hwl',c6,c7,c8,ys,rfl,hfl',pr⟩ np ht;obtain⟨kw,hkw,rfl⟩:=gm hkv;obtain⟨q0,eacc,dq⟩:=ac.at hkw;have hi:=(jJ.mp eacc).1;have vlen:=vl _ (jq eacc);dsimp only at vlen;rw[X6]at ht;have dq':IsD K H' (dF q0) kw.2:=(NoT.dF (QI h3) dq).same sm;refine⟨p,_,rfl,.of J8,rfl,_,_,rfl,_,_,rfl,rfl,?_⟩;have s4:=Ja np (.tup [.ref t,kw.2]);have np':p≠fl:=(Jv hfl' np).symm;refine⟨_,rfl,_,rfl,_,rfl,t,pl,kw.1,plc ns (wn es),rfl,.of (s4 _ _ ht),.of (s4 _ _ hpl'),λj hj=>?_,by unfold plc;rw[jA];omega,λt2 H4 n2' s5 e5=>?_⟩
   . obtain⟨x,hx,rfl⟩:=jW.mp hj;have:=jv.mpr (wsub x hx);omega
   rw[a6]at e5;have s6:=s4.trans s5;refine⟨wl,t2,(wn es).map Sum.inr,((wn es).map (bk ns kw.1)).map V.int,rfl,.inr (.of (by rw[kK];exact s6 _ _ hwl')),.of e5,by rw[jA,jA,jA],by rw[jA];omega,λbp nb=>?_⟩
   have ebk:Xn [] (((wn es).map Sum.inr).zip (((wn es).map (bk ns kw.1)).map V.int))=kM (unS [] (wn es)) λx => .int (bk ns kw.1 x):=by
    have:((wn es).map (Sum.inr:Str->Key)).zip (((wn es).map (bk ns kw.1)).map V.int)=kM (wn es) λx => .int (bk ns kw.1 x):=by
     unfold kM;rw[kK,List.zip_map'];rfl
    rw[this];exact pV (λx => .int (bk ns kw.1 x)) (wn es) []
   rw[ebk];have s7:=Ja nb (.dK (kM (unS [] (wn es)) λx => .int (bk ns kw.1 x)));have hbp:upd H4 bp (.dK (kM (unS [] (wn es)) λx => .int (bk ns kw.1 x))) bp=_:=J8;dsimp only[Jm,List.set];generalize upd H4 bp (.dK (kM (unS [] (wn es)) λx => .int (bk ns kw.1 x)))=H5 at s7 hbp ⊢;have s8:=s6.trans s7
   have la5:SqL K H5 la xs:=by
    have h1:SqL K (upd H γ.sd (.frz o (.dT (kz ks)))) la xs:=SqL.noL (λys z=>by rw[h3]at z;cases z) (λob ys z=>by rw[h3]at z;cases z) ql;exact(sm.trans s8).seq h1
   have ids5:IsDs K H5 (es.map dE) xs:=(Y6 (QI h3) (λys z=>by rw[h3]at z;cases z) (λob ys z=>by rw[h3]at z;cases z) (es.map dE) xs ids).same (sm.trans s8);refine⟨_,rfl,.inl ⟨rfl,_,.of (s8 _ _ hfl')⟩,_,rfl,_,rfl,Bb ⟨_,rfl,la,rfl,⟨_,la5⟩,?_⟩⟩;refine mf (K:=K) (xs:=xs) ((es.map (ev (bk ns kw.1))).map D.int) la5 (by rw[jA,jA];omega) 'd' (Yw _) (λj x d H6 R hx hd s9 hR=>?_) (λl H6 s9 dl=>?_)
   . have hj:j < es.length:=by have:=(jJ.mp hx).1;omega
     obtain⟨y,ey,dy⟩:=ids5.get (i:=j) (d:=dE es[j]) (by rw[jF,jC hj];rfl);obtain rfl:x=y:=by rw[hx]at ey;exact Option.some.inj ey
     rw[jF,jF,jC hj]at hd
     cases hd
     obtain⟨o1,o2,o3⟩:=(eo _ (jl hj)).1;refine⟨_,rfl,_,rfl,es[j],x,bp,_,bk ns kw.1,rfl,o1,(Xy _).mpr λn hn=>?_,o2,dy.same s9,s9 _ _ hbp,λH7 s10=>hR _ _ s10 rfl⟩;have hw':n∈unS [] (wn es):=pD.mpr (.inr (List.mem_flatMap.mpr ⟨_,jl hj,(Z5 _).mpr hn⟩));rw[pC,qh hw']
   . obtain⟨l',zs,e,ql',dd⟩:=dl
     cases e
     rw[Zh dd]at ql';refine⟨l,_,rfl,.inl ⟨ql',λu nu=>?_⟩⟩;have s11:=Ja nu (.tup ((es.map (ev (bk ns kw.1))).map V.int));refine⟨by show 3<=sizeLine;decide,λr nr=>?_⟩;have s12:=Ja nr (.tup [.ref t,kw.2,.ref u]);have s13:=s8.trans (s9.trans (s11.trans s12));have hfl2:=s13 _ _ hfl';have row:VRow K ns es (upd (upd H6 u (.tup ((es.map (ev (bk ns kw.1))).map V.int))) r (.tup [.ref t,kw.2,.ref u])) (kw.1,q0) (.ref r):=⟨r,t,u,kw.2,rfl,J8,s13 _ _ ht,dq'.same s13,s12 _ _ J8⟩;have yl:=pr.length;rw[jT]at yl;refine⟨fl,_,_,rfl,rfl,hfl2,by omega,?_⟩;generalize upd (upd H6 u _) r _=H8 at s13 hfl2 row ⊢;refine⟨XR (by rw[Jb nfl];exact ff0) (sm.trans s13),by rw[Jb fpl];exact s13 _ _ hpl',by rw[Jb fwl];exact s13 _ _ hwl',_,_,_,_,rfl,J8,?_⟩;have tk:acc.take (i + 1)=acc.take i ++ [(kw.1,q0)]:=by rw[k9,eacc];rfl
     rw[tk];exact Bc (Paired.mapP pr λa y h=>(h.same s13).no (pX hfl2)) (row.no (pX hfl2))
 . rintro σ H' ⟨sm,hpl',hwl',c6,c7,c8,ys,rfl,hfl',pr⟩;rw[show(kz ks).length=acc.length by rw[jA,kl],jk]at pr;have hz:=sm _ _ J8;refine⟨o,hz,?_⟩
   have sF:Same H (upd H' γ.sd (.dT (kz ks))):=λb u hb=>by
    by_cases z:b=γ.sd
    . rw[z,J8];rw[z,h3]at hb;exact hb
    . rw[Jb z];exact sm b u (by rw[Jb z];exact hb)
   exact⟨_,rfl,q fl _ ys sF ff0 (by rw[Jb nfl];exact hfl') (Paired.mapP pr λa y h=>h.no (gk hz))⟩
def gaR(acc l:List (xA×Rat)):List (xA×Rat):=l.foldl (λa p=>JG a p.1 p.2) acc
def pY{acc l:List (xA×Rat)}{i:Nat}{p:xA×Rat}(h:l[i]? = some p):gaR acc (l.take (i + 1))=JG (gaR acc (l.take i)) p.1 p.2:=by
 unfold gaR;rw[k9,h,qH];rfl
def Bf{β:Type}(acc:List (xA×β))(k:xA)(x:β):acc.length<=(JU acc k x).length:=by
 unfold JU;split
 . rw[jA];exact jD _
 . rw[jI];omega
theorem gn:∀(l acc:List (xA×Rat)),acc.length<=(gaR acc l).length
 | [],acc=>jD _
 | p :: l,acc=>jh (Bf acc p.1 _) (gn l (JG acc p.1 p.2))
def Z7(acc l m:List (xA×Rat)):gaR acc (l ++ m)=gaR (gaR acc l) m:=qH ..
def Bg(acc l:List (xA×Rat))(i:Nat):(gaR acc (l.take i)).length<=(gaR acc l).length:=by
 conv=>rhs;rw[<- je i l,Z7]
 exact gn _ _
theorem Z8:∀(l acc:List (xA×Rat)),(gaR acc l).length<=acc.length + l.length
 | [],acc=>jD _
 | p :: l,acc=>by
  have h1:=Z8 l (JG acc p.1 p.2);have h2:(JG acc p.1 p.2).length<=acc.length + 1:=pH acc p.1 _;rw[jP];show(gaR (JG acc p.1 p.2) l).length<=_;omega
structure AddOk (M:Int) (acc l:List (xA×Rat)):Prop where
 z1:∀p∈l,sz p.2
 z2:∀i,∀g∈gaR acc (l.take i),sz g.2
 few:acc.length + l.length<=900
 fit:((gaR acc l).length:Int)<=M
def gp{γ:SAd}{m:Int}{ns:xy}{acc l:List (xA×Rat)}{i:Nat}{v:xA}{q:Rat}{sv:V}{Q:VK}{E:XK}(ok:AddOk m acc l)(e:l[i]? = some (v,q))(sa:SAt K CS H γ m ns (gaR acc (l.take i)))(ht:H t=some (.tup (v.map V.int)))(dq:IsD K H (dF q) sv)
 (k:∀H',SmA γ.sd H H'->SAt K CS H' γ m ns (gaR acc (l.take (i + 1)))->Q .non H'):Xe K CS [.ref γ.g,.ref t,sv] H Q E:=by
 have h1:=Z8 (l.take i) acc;have hi:=(jJ.mp e).1;rw[jT]at h1;have few:=ok.few;have e2:=pY (acc:=acc) e;have ft:=Bg acc l (i + 1);have fit:=ok.fit;rw[e2]at k ft;exact⟨γ,m,ns,_,t,v,sv,q,rfl,sa,ht,dq,ok.z1 _ (jq e),ok.z2 i,by omega,by dsimp only at ft;omega,λH' s1 s2=>k H' s1 s2⟩
def SmA.sq(n:NoT H a)(s:SmA a H H')(h:SqT K H b xs):SqT K H' b xs:=by
 rcases h with (h | ⟨o,h⟩) | h
 . exact .inl (.inl (s _ _ (λz=>n.1 xs (by rw[<- z];exact h)) h))
 . exact .inl (.inr ⟨o,s _ _ (λz=>n.2 o xs (by rw[<- z];exact h)) h⟩)
 . exact .inr h
theorem SmA.dF(n:NoT H a)(s:SmA a H H')(h:IsD K H (dF r) v):IsD K H' (Fd.dF r) v:=by
 obtain⟨p,rfl,q⟩:=QT h;exact⟨p,_,rfl,SmA.sq n s q,_,_,rfl,rfl,_,_,rfl,rfl,rfl⟩
def SAt.no(n:NoT H a)(g:γ.g≠a)(s:γ.sd≠a)(h:SAt K CS H γ m ns acc):SAt K CS (upd H a u) γ m ns acc:=by
 obtain⟨h1,h2,ks,h3,h4⟩:=h;exact⟨by rw[Jb g];exact h1,n.tz h2,ks,by rw[Jb s];exact h3,h4.mono λr v d=>n.dF d⟩
def Qz(f:H a=none)(s:Same H H1)(s':SmA a H1 H2):Same H H2:=λb u h=>s' b u (Jv h f) (s b u h)
def pZ(s:Same H H')(e:H a=some u):Same (upd H a f) (upd H' a f):=λb o h=>by
 by_cases z:b=a
 . rw[z,J8]at h ⊢;exact h
 . rw[Jb z]at h ⊢;exact s b o h
def Bh(s:Same (upd H a f) H')(e:H a=some u):Same H (upd H' a u):=λb o h=>by
 by_cases z:b=a
 . rw[z,J8];rw[z,e]at h;exact h
 . rw[Jb z];exact s b o (by rw[Jb z];exact h)
def Jj(ns' ns:xy)(w:List (xA×Rat)):List (xA×Rat):=w.map λp=>(ns.map (bk ns' p.1),p.2)
def gq(K:xt)(CS:J0):Sp:=λvs H Q _=>∃(γ δ:SAd) (m m':Int) (ns ns':xy) (acc w:List (xA×Rat)),vs=[.ref γ.g,.ref δ.g]/\SAt K CS H γ m ns acc/\SAt K CS H δ m' ns' w/\γ.sd≠δ.sd/\(∀n∈ns,n∈ns')/\ns.length<=100/\(∀p∈w,p.1.length=ns'.length)/\AddOk m acc (Jj ns' ns w) /\
 ∀H',SmA γ.sd H H'->SAt K CS H' γ m ns (gaR acc (Jj ns' ns w))->Q .non H'
def Bi(B:Bl mg)(xI:Cls K CS)(n2:NoAttr K CS "shares")(n3:NoAttr K CS "names")(XC:Def P w K mg base "places_of" 1 ["names", "some"] (cG K))(XA:Def P w K mg base "chosen" 1 ["values", "places"] (cC K))(Qs:DefM P w K mg base CS "add" 4 ["self", "numbers", "share"] (Xe K CS))(F:MFn K CS "add_states" "StateList.add_states" bV ["self", "others"]):DefM P w K mg base CS "add_states" 5 ["self", "others"] (gq K CS):=by
 refine F.ok3 ck (λvs H Q E h=>?_) (λf xD A outer s H vs Q E hr h=>?_)
 . obtain⟨γ,δ,m,m',ns,ns',acc,w,rfl,_⟩:=h;rfl
 obtain⟨γ,δ,m,m',ns,ns',acc,wt,rfl,sa,sb,nsd,sub,l1,vl,ok,q⟩:=h
 refine⟨_,(@J7 _ _ _ _ _ (Jg (i:=2) ck.nd rfl 'b' (Jh XC hr rfl (J4 (JF (pv 1) rfl) (J4 (JF (pv 0) rfl) J6))))
  (@Jc _ _ _ (fG (X9 (fE (JF (pv 1) rfl)) (QZ rfl (JZ (JD (i:=3) ck.nd rfl 'b') (JZ (JD (i:=4) ck.nd rfl 'b') QY))) (@Jc _ _ _ (Qa (JX Qs xI hr Jz (pv 0) (J4 (Jh XA hr rfl (J4 (pv 3) (J4 (pv 2) J6))) (J4 (pv 4) J6))))))))),?_⟩
 have lw:(Jj ns' ns wt).length=wt.length:=jA _;have few:=ok.few;refine⟨_,rfl,δ.g,CS,δ.dx,_,_,rfl,sb.ins,xI,n3,Qo δ m',_,rfl,γ.g,CS,γ.dx,_,_,rfl,sa.ins,xI,n3,Qo γ m,δ.nt,γ.nt,ns',ns,rfl,sb.nm,.inr sa.nm.sq,sub,l1,λpl H1 s1 hpl=>?_⟩;dsimp only[Jm,List.set];obtain⟨ks,h3,ac⟩:=sb.dct;have kl:=ac.length
 have npl:pl≠γ.sd:=by
  obtain⟨kg,hg,_⟩:=sa.dct;exact QN hpl (s1 _ _ hg) (λz=>by cases z)
 have npd:pl≠δ.sd:=QN hpl (s1 _ _ h3) (λz=>by cases z);have gd:γ.g≠δ.sd:=QN sa.ins h3 (λz=>by cases z);refine⟨δ.sd,kz ks,s1 _ _ h3,?_⟩;refine⟨_,rfl,δ.g,CS,δ.dx,_,_,rfl,s1 _ _ sb.ins,xI,n2,Z6 δ m',δ.sd,kz ks,rfl,s1 _ _ h3,λo=>?_⟩
 refine fH (kvs:=kz ks) (λi σ H'=>SmA γ.sd (upd H δ.sd (.frz o (.dT (kz ks)))) H'/\H' pl=some (.lst ((plc ns' ns).map V.int))/\∃(c3 c4:Option V),σ=[some (.ref γ.g),some (.ref δ.g),some (.ref pl),c3,c4]/\SAt K CS H' γ m ns (gaR acc ((Jj ns' ns wt).take i)))
  ⟨.of (pZ s1 h3),by rw[Jb npd];exact hpl,none,none,rfl,(sa.same s1).no (QI (s1 _ _ h3)) gd nsd⟩ (λi σ H' _ h=>h.1 _ _ nsd.symm J8) ?_ ?_
 . rintro i kv p t σ H' hkv ⟨sm,hpl',c3,c4,rfl,sg⟩ np ht;obtain⟨kw,hkw,rfl⟩:=gm hkv;obtain⟨q0,eacc,dq⟩:=ac.at hkw;have hi:=(jJ.mp eacc).1;have vlen:=vl _ (jq eacc);dsimp only at vlen;rw[X6]at ht;obtain⟨kg,hg,_⟩:=sa.dct;have nT:NoT (upd H δ.sd (.frz o (.dT (kz ks)))) γ.sd:=QI (by rw[Jb nsd];exact hg);have dq':IsD K H' (dF q0) kw.2:=sm.dF nT (NoT.dF (QI h3) dq);refine⟨p,_,rfl,.of J8,rfl,_,_,rfl,_,_,rfl,rfl,?_⟩;have s4:=Ja np (.tup [.ref t,kw.2]);have sg4:=sg.same s4;refine⟨_,rfl,γ.g,γ.dx,_,rfl,sg4.ins,rfl,_,rfl,_,rfl,t,pl,kw.1,plc ns' ns,rfl,.of (s4 _ _ ht),.of (s4 _ _ hpl'),λj hj=>?_,by unfold plc;rw[jA];exact l1,λt2 H4 n2' s5 e5=>?_⟩
   . obtain⟨x,hx,rfl⟩:=jW.mp hj;have:=jv.mpr (sub x hx);omega
   rw[a6]at e5;have s6:=s4.trans s5;have el:(Jj ns' ns wt)[i]? = some (ns.map (bk ns' kw.1),q0):=by unfold Jj;rw[jF,eacc];rfl
   refine⟨_,rfl,?_⟩;dsimp only[JR,ju];refine gp ok el (sg.same s6) e5 (dq'.same s6) λH5 s7 sg5=>?_;exact⟨sm.trans ((SmA.of s6).trans s7),s7 _ _ npl (s6 _ _ hpl'),_,_,rfl,sg5⟩
 . rintro σ H' ⟨sm,hpl',c3,c4,rfl,sg⟩;rw[show(kz ks).length=(Jj ns' ns wt).length by rw[jA,lw,kl],jk]at sg;have hz:=sm _ _ nsd.symm J8;refine⟨o,hz,q _ (λb u n h=>?_) (sg.no (gk hz) gd nsd)⟩
   by_cases z:b=δ.sd
   . rw[z,J8];rw[z,h3]at h;exact h
   . rw[Jb z];exact sm b u n (by rw[Jb z];exact h)
inductive Wr where
 | draw (x:Str) (os:List (Int×Rat)) | lett (x:Str) (e:Ex) | seen (e:Ex) | ifr (e:Ex) (a b:List Wr) | rnd (k:Nat) (a:List Wr) | call (x f:Str) (es:List Ex)
def dOs(os:List (Int×Rat)):List D:=os.map λo => .tup [.int o.1,dF o.2]
mutual
def dW:Wr->D
 | .draw x os => .tup [.str "draw",.str x,.lst (dOs os)]
 | .lett x e => .tup [.str "let",.str x,dE e]
 | .seen e => .tup [.str "seen",dE e]
 | .ifr e a b => .tup [.str "if",dE e,.lst (dWs a),.lst (dWs b)]
 | .rnd k a => .tup [.str "rounds",.int (k:Nat),.lst (dWs a)]
 | .call x f es => .tup [.str "call",.str x,.str f,.lst (es.map dE)]
def dWs:List Wr->List D
 | []=>[]
 | r :: l=>dW r :: dWs l
end
structure SL where
 ns:xy
 w:List (xA×Rat)
def drO(ns:xy)(x:Str)(os:List (Int×Rat))(p:xA×Rat):List (xA×Rat):=os.map λo=>(repl p.1 (ns.idxOf x) o.1,p.2 * o.2)
def Q2(ns:xy)(w:List (xA×Rat))(x:Str)(os:List (Int×Rat)):List (xA×Rat):=w.flatMap (drO ns x os)
def QJ(ns:xy)(w:List (xA×Rat))(x:Str)(e:Ex):List (xA×Rat):=w.map λp=>(repl p.1 (ns.idxOf x) (ev (bk ns p.1) e),p.2)
def Jn(ns:xy)(w:List (xA×Rat))(e:Ex):List (xA×Rat):=w.filter λp=>decide (ev (bk ns p.1) e≠0)
def Jw(ns:xy)(w:List (xA×Rat))(e:Ex):List (xA×Rat):=w.filter λp=>decide (ev (bk ns p.1) e=0)
structure SOk (S:SL):Prop where
 len:∀p∈S.w,p.1.length=S.ns.length
 few:S.w.length<=900
 nms:S.ns.length<=60
 z:∀p∈S.w,sz p.2
def a9{γ:SAd}{m:Int}{ns:xy}{acc l l1 l2:List (xA×Rat)}{v:xA}{q:Rat}{sv:V}{Q:VK}{E:XK}(ok:AddOk m acc l)(e:l=l1 ++ (v,q) :: l2)(sa:SAt K CS H γ m ns (gaR acc l1))(ht:H t=some (.tup (v.map V.int)))(dq:IsD K H (dF q) sv)
 (k:∀H',SmA γ.sd H H'->SAt K CS H' γ m ns (gaR acc (l1 ++ [(v,q)]))->Q .non H'):Xe K CS [.ref γ.g,.ref t,sv] H Q E:=by
 subst e;have e1:(l1 ++ (v,q) :: l2).take l1.length=l1:=by rw[ki (jD _),jk]
 have e2:(l1 ++ (v,q) :: l2)[l1.length]? = some (v,q):=by rw[jw (jD _),Nat.sub_self];rfl
 have e3:(l1 ++ (v,q) :: l2).take (l1.length + 1)=l1 ++ [(v,q)]:=by rw[k9,e1,e2];rfl
 refine gp ok e2 (by rw[e1];exact sa) ht dq λH' s1 s2=>k H' s1 (by rw[e3]at s2;exact s2)
def fW(pd rd:J0)(m:Int):List (Str×V):=[("parts",.ref pd),("most",.int m),("results",.ref rd)]
def WkAt(CW:J0)(H:Hp)(wa:J0)(m:Int):Prop:=∃dx pd rd,H wa=some (.ins CW dx (fW pd rd m))
def WkAt.same(h:WkAt CW H wa m)(s:Same H H'):WkAt CW H' wa m:=by
 obtain⟨dx,pd,rd,h⟩:=h;exact⟨dx,pd,rd,s _ _ h⟩
def Y7(pd rd:J0)(m:Int):(fW pd rd m).lookup ("most" : Str)=some (.int m):=rfl
def XD(K:xt)(CS CW:J0)(C:Wr->Int->SL->SL->Prop):Sp:=λvs H Q _=>∃(wa:J0) (m:Int) (x:V) (r:Wr) (γ:SAd) (S T:SL),vs=[.ref wa,x,.ref γ.g]/\WkAt CW H wa m/\IsD K H (dW r) x/\SAt K CS H γ m S.ns S.w/\SOk S/\C r m S T/\∀(δ:SAd) (H':Hp),Same H H'->SAt K CS H' δ m T.ns T.w->Q (.ref δ.g) H'
def gv(r:Wr)(m:Int)(S T:SL):Prop:=∃x os,r = .draw x os/\os.length<=100/\(∀o∈os,sz o.2)/\AddOk m [] (Q2 S.ns S.w x os)/\T=⟨repl S.ns (S.ns.idxOf x) x,gaR [] (Q2 S.ns S.w x os)⟩
def Q1{x:V}{l:List V}:atI (x :: l) 0=some x:=Qb (j:=0) rfl
def QK{x y:V}{l:List V}:atI (x :: y :: l) 1=some y:=Qb (j:=1) rfl
def cK{x y z:V}{l:List V}:atI (x :: y :: z :: l) 2=some z:=Qb (j:=2) rfl
def Bj{x y z u:V}{l:List V}:atI (x :: y :: z :: u :: l) 3=some u:=Qb (j:=3) rfl
def cL(ns:xy)(x:Str):ns.idxOf x<=ns.length:=by
 by_cases h:x∈ns
 . exact kE (jv.mpr h)
 . rw[List.idxOf_eq_length h];exact jD _
def cM{α β:Type}(f:α->β)(l:List α)(i:Nat)(x:α):(repl l i x).map f=repl (l.map f) i (f x):=by unfold repl;rw[jo,jo,List.map_take,List.map_drop];rfl
def Zr{sp:Sp}{dv:List V}{E:XK}{t:TA}{g:TG}{u:TS}{D:Ends}(h:ZE C sp dv E t σ H λx H1=>g x σ H1 (u D)):XI (X0 (ZE C sp dv E t) g) u D σ H:=h
def Zs(h1:∀R:VK,(∀p H1,Same H H1->TupZ H1 p (ns.map V.str)->R (.ref p) H1)->tg σ H R)(h2:∀(H1:Hp) (R:VK),Same H H1->R (.int m) H1->tm σ H1 R)
 (k:∀(γ:SAd) (H':Hp),Same H H'->H γ.g=none->H γ.sd=none->SAt K CS H' γ m ns []->Q (.ref γ.g) H'):ZE CS (XB K CS) [] E (Jy tg (Jy tm JR)) σ H Q :=
 h1 _ λp H1 s1 z=>h2 H1 _ s1 (B6 (Q:=Q) z λγ H' _ s2 fg fsd sa=>k γ H' (s1.trans s2) (a7 s1 fg) (a7 s1 fsd) sa)
def Bk(B:Bl mg)(xI:Cls K CS)(xP:Cls K CW)(n2:NoAttr K CS "shares")(n3:NoAttr K CS "names")(w2:NoAttr K CW "most")(Q6:NewC P w K mg base "StateList" CS 2 ["self", "names", "most"] (XB K CS))(gw:DefM P w K mg base CS "place_for" 1 ["self", "name"] (gj K CS))(Qs:DefM P w K mg base CS "add" 4 ["self", "numbers", "share"] (Xe K CS))(Z9:Def P w K mg base "replaced" 1 ["some", "place", "one"] (gh K))(gy:Def P w K mg base "times" 3 ["one", "other"] (pG K))
 (F:MFn K CW "walk_draw" "Walk.walk_draw" bX ["self", "row", "ahead"]):DefM P w K mg base CW "walk_draw" 5 ["self", "row", "ahead"] (XD K CS CW gv):=by
 refine F.ok3 Zm (λvs H Q E h=>?_) (λf xD A outer s H vs Q E hr h=>?_)
 . obtain⟨wa,m,x,r,γ,S,T,rfl,_⟩:=h;rfl
 obtain⟨wa,m,y,r,γ,S,T,rfl,wk,dy,sa,so,⟨x,os,rfl,l6,zo,ok,rfl⟩,q⟩:=h
 refine⟨_,(@J7 _ _ _ _ _ (Jg (i:=3) Zm.nd rfl 'b' (JX gw xI hr Jz (pv 2) (J4 (Jf (Je K rfl) (pv 1) J5 (λ_ _=>rfl)) J6)))
  (@J7 _ _ _ _ _ (Jg (i:=4) Zm.nd rfl 'b' (XY Q6 hr rfl Jz (J4 (Jh Z9 hr rfl (J4 (JF (pv 2) rfl) (J4 (pv 3) (J4 (Jf (Je K rfl) (pv 1) J5 (λ_ _=>rfl)) J6)))) (J4 (JF (pv 0) rfl) J6))))
  (@J7 _ _ _ _ _ (fG (X9 (fE (JF (pv 2) rfl)) (QZ rfl (JZ (JD (i:=5) Zm.nd rfl 'b') (JZ (JD (i:=6) Zm.nd rfl 'b') QY))) (@Jc _ _ _ (X9 (Qi (Jf (Je K rfl) (pv 1) J5 (λ_ _=>rfl))) (QZ rfl (JZ (JD (i:=7) Zm.nd rfl 'b') (JZ (JD (i:=8) Zm.nd rfl 'b') QY))) (@Jc _ _ _ (Qa (JX Qs xI hr Jz (pv 4) (J4 (Jh Z9 hr rfl (J4 (pv 5) (J4 (pv 3) (J4 (pv 7) J6)))) (J4 (Jh gy hr rfl (J4 (pv 6) (J4 (pv 8) J6))) J6)))))))))
  (@Jc _ _ _ (Ji (pv 4)))))),?_⟩
 have big:(10000:Nat) < sizeLine:=by decide
 obtain⟨wdx,pd,rd,hwa⟩:=wk;obtain⟨tr,ys,rfl,qr,_,_,rfl,rfl,_,_,rfl,rfl,_,_,rfl,⟨ol,zs,rfl,qo,dso⟩,rfl⟩:=dy;have zl:=dso.length;unfold dOs at zl;rw[jA]at zl;have nm60:=so.nms;have ix:=cL S.ns x;refine⟨_,rfl,γ.g,γ.dx,_,rfl,sa.ins,rfl,_,rfl,.inr (.inl ⟨tr,_,1,.str x,rfl,rfl,qr,QK,γ,m,S.ns,S.w,x,rfl,sa,?_⟩)⟩;dsimp only[Jm,List.set,L2.JS];refine Zr (Zs (ns:=repl S.ns (S.ns.idxOf x) x) (m:=m) (λR hR=>?_) (λH1 R s1 hR=>⟨_,rfl,wa,CW,wdx,_,_,rfl,s1 _ _ hwa,xP,w2,Y7 pd rd m,hR⟩) λδ H2 s12 fg0 fsd0 sd=>?_)
 . exact⟨_,rfl,γ.g,CS,γ.dx,_,_,rfl,sa.ins,xI,n3,Qo γ m,_,rfl,_,rfl,.inr (.inl ⟨tr,_,1,.str x,rfl,rfl,qr,QK,γ.nt,S.ns.idxOf x,.str x,S.ns.map V.str,rfl,by rw[jA];exact ix,by rw[jA];omega,.inl ⟨sa.nm,λp1 H1 s1 z1=>hR p1 H1 s1 (by rw[cM];exact z1)⟩⟩)⟩
 obtain⟨ks,h3,ac⟩:=sa.dct;have kl:=ac.length;have n1:δ.g≠γ.sd:=(Jv h3 fg0).symm;have n4:δ.sd≠γ.sd:=(Jv h3 fsd0).symm;dsimp only[Jm,List.set];refine⟨γ.sd,kz ks,s12 _ _ h3,?_⟩;refine⟨_,rfl,γ.g,CS,γ.dx,_,_,rfl,s12 _ _ sa.ins,xI,n2,Z6 γ m,γ.sd,kz ks,rfl,s12 _ _ h3,λo=>?_⟩;have nl1:∀ys,H γ.sd≠some (.lst ys):=λys z=>by rw[h3]at z;cases z
 have nl2:∀ob ys,H γ.sd≠some (.frz ob (.lst ys)):=λob ys z=>by rw[h3]at z;cases z
 have qr':SqT K (upd H γ.sd (.frz o (.dT (kz ks)))) tr _:=(QI h3).sq qr;have qo':SqL K (upd H γ.sd (.frz o (.dT (kz ks)))) ol zs:=SqL.noL nl1 nl2 qo;have do':IsDs K (upd H γ.sd (.frz o (.dT (kz ks)))) (dOs os) zs:=Y6 (QI h3) nl1 nl2 _ _ dso;have ac':Acc K (upd H γ.sd (.frz o (.dT (kz ks)))) S.w ks:=ac.mono λr v d=>(QI h3).dF d;have fF:(upd H γ.sd (.frz o (.dT (kz ks)))) δ.sd=none:=by rw[Jb n4];exact fsd0
 have eF:(upd H γ.sd (.frz o (.dT (kz ks)))) γ.sd=some (.frz o (.dT (kz ks))):=J8;have sF:Same (upd H γ.sd (.frz o (.dT (kz ks)))) (upd H2 γ.sd (.frz o (.dT (kz ks)))):=pZ s12 h3;have sdF:SAt K CS (upd H2 γ.sd (.frz o (.dT (kz ks)))) δ m (repl S.ns (S.ns.idxOf x) x) []:=sd.no (QI (s12 _ _ h3)) n1 n4;have back:∀{H':Hp},Same (upd H γ.sd (.frz o (.dT (kz ks)))) H'->Same H (upd H' γ.sd (.dT (kz ks))):=λs=>Bh s h3;generalize upd H γ.sd (.frz o (.dT (kz ks)))=Hf at qr' qo' do' ac' fF eF sF back ⊢;generalize upd H2 γ.sd (.frz o (.dT (kz ks)))=Hg at sF sdF ⊢
 refine fH (kvs:=kz ks) (λi σ H'=>Same Hf H'/\∃(c5 c6 c7 c8:Option V),σ=[some (.ref wa),some (.ref tr),some (.ref γ.g),some (.int (S.ns.idxOf x:Nat)),some (.ref δ.g),c5,c6,c7,c8]/\SAt K CS H' δ m (repl S.ns (S.ns.idxOf x) x) (gaR [] (Q2 S.ns (S.w.take i) x os)))
  ⟨sF,none,none,none,none,rfl,sdF⟩ (λi σ H' _ h=>h.1 _ _ eF) ?_ ?_
 . rintro i kv p t σ H' hkv ⟨sm,c5,c6,c7,c8,rfl,sg⟩ np ht;obtain⟨kw,hkw,rfl⟩:=gm hkv;obtain⟨q0,eacc,dq⟩:=ac'.at hkw;have hi:=(jJ.mp eacc).1;have hm:=jq eacc;have vlen:=so.len _ hm;have zq:=so.z _ hm;dsimp only at vlen zq;rw[X6]at ht;refine⟨p,_,rfl,.of J8,rfl,_,_,rfl,_,_,rfl,rfl,?_⟩;have s4:=Ja np (.tup [.ref t,kw.2]);have sm4:=sm.trans s4
   have tk:Q2 S.ns (S.w.take (i + 1)) x os=Q2 S.ns (S.w.take i) x os ++ drO S.ns x os (kw.1,q0):=by
    unfold Q2;rw[k9,eacc,List.flatMap_append];simp
   have whole:Q2 S.ns S.w x os=Q2 S.ns (S.w.take i) x os ++ (drO S.ns x os (kw.1,q0) ++ Q2 S.ns (S.w.drop (i + 1)) x os):=by
    have:Q2 S.ns S.w x os=Q2 S.ns (S.w.take (i + 1)) x os ++ Q2 S.ns (S.w.drop (i + 1)) x os:=by
     unfold Q2;rw[<- List.flatMap_append,je]
    rw[this,tk,jV]
   refine⟨_,rfl,.inr (.inl ⟨tr,_,2,.ref ol,rfl,rfl,sm4.tupq qr',cK,ol,rfl,⟨_,sm4.seq qo'⟩,?_⟩)⟩
   refine X1 (K:=K) (xs:=zs) (λj σ H5=>Same Hf H5/\H5 t=some (.tup (kw.1.map V.int))/\IsD K H5 (dF q0) kw.2/\∃(c7 c8:Option V),σ=[some (.ref wa),some (.ref tr),some (.ref γ.g),some (.int (S.ns.idxOf x:Nat)),some (.ref δ.g),some (.ref t),some kw.2,c7,c8]/\SAt K CS H5 δ m (repl S.ns (S.ns.idxOf x) x) (gaR [] (Q2 S.ns (S.w.take i) x os ++ (drO S.ns x os (kw.1,q0)).take j)))
    ⟨sm4,s4 _ _ ht,dq.same sm4,_,_,rfl,by rw[List.take_zero,ju];exact sg.same s4⟩ (λj σ H5 _ h=>h.1.seq qo') ?_ ?_
   . rintro j z σ H5 hz ⟨sm5,ht5,dq5,c7,c8,rfl,sg5⟩;have hj:j < os.length:=by have:=(jJ.mp hz).1;omega
     obtain⟨z',ez,dz⟩:=do'.get (i:=j) (d := .tup [.int os[j].1,dF os[j].2]) (by unfold dOs;rw[jF,jC hj];rfl);obtain rfl:z=z':=by rw[hz]at ez;exact Option.some.inj ez
     obtain⟨c,zz,rfl,qc,_,_,rfl,rfl,v2,_,rfl,d2,rfl⟩:=dz;refine⟨c,_,rfl,sm5.tupq qc,rfl,_,_,rfl,_,_,rfl,rfl,?_⟩;refine⟨_,rfl,δ.g,δ.dx,_,rfl,sg5.ins,rfl,_,rfl,_,rfl,_,rfl,t,S.ns.idxOf x,.int os[j].1,kw.1.map V.int,rfl,by rw[jA];omega,by rw[jA];omega,.inr ⟨ht5,λp6 H6 s6 e6=>?_⟩⟩;rw[<- cM]at e6;refine⟨_,rfl,_,rfl,kw.2,v2,q0,os[j].2,rfl,dq5.same s6,(d2.same sm5).same s6,zq,zo _ (jl hj),λp7 H7 s7 _ d7=>?_⟩;dsimp only[JR,ju]
     have item:drO S.ns x os (kw.1,q0)=(drO S.ns x os (kw.1,q0)).take j ++ (repl kw.1 (S.ns.idxOf x) os[j].1,q0 * os[j].2) :: (drO S.ns x os (kw.1,q0)).drop (j + 1):=by
      have hj':j < (drO S.ns x os (kw.1,q0)).length:=by unfold drO;rw[jA];exact hj
      have eg:(drO S.ns x os (kw.1,q0))[j]=(repl kw.1 (S.ns.idxOf x) os[j].1,q0 * os[j].2):=(jJ.mp (show(drO S.ns x os (kw.1,q0))[j]? = some (repl kw.1 (S.ns.idxOf x) os[j].1,q0 * os[j].2) by unfold drO;rw[jF,jC hj];rfl)).2;rw[<- eg,<- j4 hj',je]
     have tj:(drO S.ns x os (kw.1,q0)).take (j + 1)=(drO S.ns x os (kw.1,q0)).take j ++ [(repl kw.1 (S.ns.idxOf x) os[j].1,q0 * os[j].2)]:=by
      rw[k9];have:(drO S.ns x os (kw.1,q0))[j]? = some (repl kw.1 (S.ns.idxOf x) os[j].1,q0 * os[j].2):=by unfold drO;rw[jF,jC hj];rfl
      rw[this];rfl
     have s67:=s6.trans s7
     have spl:Q2 S.ns S.w x os=(Q2 S.ns (S.w.take i) x os ++ (drO S.ns x os (kw.1,q0)).take j) ++ (repl kw.1 (S.ns.idxOf x) os[j].1,q0 * os[j].2) :: ((drO S.ns x os (kw.1,q0)).drop (j + 1) ++ Q2 S.ns (S.w.drop (i + 1)) x os):=by
      rw[whole,jV,<- List.cons_append,<- jV ((drO S.ns x os (kw.1,q0)).take j),<- item]
     refine a9 ok spl (sg5.same s67) (s7 _ _ e6) d7 λH8 s8 sg8=>?_
     have nt:NoT H7 δ.sd:=by
      obtain⟨kd,hd,_⟩:=(sg5.same s67).dct;exact QI hd
     have ntt:t≠δ.sd:=λz=>nt.1 _ (by rw[<- z];exact s67 _ _ ht5);refine⟨Qz fF (sm5.trans s67) s8,s8 _ _ ntt (s67 _ _ ht5),s8.dF nt (dq5.same s67),_,_,rfl,?_⟩;rw[jV,<- tj]at sg8;exact sg8
   . rintro σ H5 ⟨sm5,ht5,dq5,c7,c8,rfl,sg5⟩;have e:(drO S.ns x os (kw.1,q0)).take zs.length=drO S.ns x os (kw.1,q0):=ji (by unfold drO;rw[jA];omega);rw[e,<- tk]at sg5;exact⟨sm5,_,_,_,_,rfl,sg5⟩
 . rintro σ H' ⟨sm,c5,c6,c7,c8,rfl,sg⟩;rw[show(kz ks).length=S.w.length by rw[jA,kl],jk]at sg;have hz:=sm _ _ eF;exact⟨o,hz,_,rfl,q δ _ (back sm) (sg.no (gk hz) n1 n4)⟩
def gA(r:Wr)(m:Int)(S T:SL):Prop:=∃x e,r = .lett x e/\Xz e/\(∀n∈e.nms,n∈S.ns)/\AddOk m [] (QJ S.ns S.w x e)/\T=⟨repl S.ns (S.ns.idxOf x) x,gaR [] (QJ S.ns S.w x e)⟩
def YI{α β:Type}{F:α->β->Prop}{l:List α}{m:List β}(h:Paired F l m){i:Nat}{y:β}(e:m[i]? = some y):∃x,l[i]? = some x/\F x y:=by
 induction h generalizing i with
 | nil=>simp at e
 | cons r _ ih =>
  cases i with
  | zero=>cases e;exact⟨_,rfl,r⟩
  | succ i=>exact ih (by simpa using e)
def VRow.sm(n:NoT H a)(s:SmA a H H')(h:VRow K ns es H p y):VRow K ns es H' p y:=by
 obtain⟨r,t,u,sv,h1,h2,h3,h4,h5⟩:=h;have go:∀{b:J0}{xs:List V},H b=some (.tup xs)->H' b=some (.tup xs):=fun {b xs} e=>s _ _ (λz=>n.1 xs (by rw[<- z];exact e)) e;exact⟨r,t,u,sv,h1,go h2,go h3,s.dF n h4,go h5⟩
def SAt.noT(h:SAt K CS H γ m ns acc):NoT H γ.sd:=by
 obtain⟨ks,e,_⟩:=h.dct;exact QI e
def Bm(B:Bl mg)(xI:Cls K CS)(xP:Cls K CW)(n3:NoAttr K CS "names")(w2:NoAttr K CW "most")(Q6:NewC P w K mg base "StateList" CS 2 ["self", "names", "most"] (XB K CS))(gw:DefM P w K mg base CS "place_for" 1 ["self", "name"] (gj K CS))(Qs:DefM P w K mg base CS "add" 4 ["self", "numbers", "share"] (Xe K CS))(Za:DefM P w K mg base CS "valued" 13 ["self", "es"] (a8 K CS))(Z9:Def P w K mg base "replaced" 1 ["some", "place", "one"] (gh K))
 (F:MFn K CW "walk_let" "Walk.walk_let" bZ ["self", "row", "ahead"]):DefM P w K mg base CW "walk_let" 14 ["self", "row", "ahead"] (XD K CS CW gA):=by
 refine F.ok3 ZZ (λvs H Q E h=>?_) (λf xD A outer s H vs Q E hr h=>?_)
 . obtain⟨wa,m,x,r,γ,S,T,rfl,_⟩:=h;rfl
 obtain⟨wa,m,y,r,γ,S,T,rfl,wk,dy,sa,so,⟨x,e,rfl,eo,en,ok,rfl⟩,q⟩:=h
 refine⟨_,(@J7 _ _ _ _ _ (Jg (i:=3) ZZ.nd rfl 'b' (JX gw xI hr Jz (pv 2) (J4 (Jf (Je K rfl) (pv 1) J5 (λ_ _=>rfl)) J6)))
  (@J7 _ _ _ _ _ (Jg (i:=4) ZZ.nd rfl 'b' (XY Q6 hr rfl Jz (J4 (Jh Z9 hr rfl (J4 (JF (pv 2) rfl) (J4 (pv 3) (J4 (Jf (Je K rfl) (pv 1) J5 (λ_ _=>rfl)) J6)))) (J4 (JF (pv 0) rfl) J6))))
  (@J7 _ _ _ _ _ (X9 (Qi (JX Za xI hr Jz (pv 2) (J4 (Qw (J4 (Jf (Je K rfl) (pv 1) J5 (λ_ _=>rfl)) J6)) J6))) (QZ rfl (JZ (JD (i:=5) ZZ.nd rfl 'b') (JZ (JD (i:=6) ZZ.nd rfl 'b') (JZ (JD (i:=7) ZZ.nd rfl 'b') QY)))) (@Jc _ _ _ (Qa (JX Qs xI hr Jz (pv 4) (J4 (Jh Z9 hr rfl (J4 (pv 5) (J4 (pv 3) (J4 (Jf (Je K rfl) (pv 7) J5 (λ_ _=>rfl)) J6)))) (J4 (pv 6) J6))))))
  (@Jc _ _ _ (Ji (pv 4)))))),?_⟩
 have big:(10000:Nat) < sizeLine:=by decide
 obtain⟨wdx,pd,rd,hwa⟩:=wk;obtain⟨tr,ys,rfl,qr,_,_,rfl,rfl,_,_,rfl,rfl,ye,_,rfl,de,rfl⟩:=dy;have nm60:=so.nms;have ix:=cL S.ns x;refine⟨_,rfl,γ.g,γ.dx,_,rfl,sa.ins,rfl,_,rfl,.inr (.inl ⟨tr,_,1,.str x,rfl,rfl,qr,QK,γ,m,S.ns,S.w,x,rfl,sa,?_⟩)⟩;dsimp only[Jm,List.set,L2.JS];refine Zr (Zs (ns:=repl S.ns (S.ns.idxOf x) x) (m:=m) (λR hR=>?_) (λH1 R s1 hR=>⟨_,rfl,wa,CW,wdx,_,_,rfl,s1 _ _ hwa,xP,w2,Y7 pd rd m,hR⟩) λδ H2 s12 fg0 fsd0 sd=>?_)
 . exact⟨_,rfl,γ.g,CS,γ.dx,_,_,rfl,sa.ins,xI,n3,Qo γ m,_,rfl,_,rfl,.inr (.inl ⟨tr,_,1,.str x,rfl,rfl,qr,QK,γ.nt,S.ns.idxOf x,.str x,S.ns.map V.str,rfl,by rw[jA];exact ix,by rw[jA];omega,.inl ⟨sa.nm,λp1 H1 s1 z1=>hR p1 H1 s1 (by rw[cM];exact z1)⟩⟩)⟩
 dsimp only[Jm,List.set];have sa2:=sa.same s12;refine⟨_,rfl,γ.g,γ.dx,_,rfl,sa2.ins,rfl,_,rfl,.inr (.inl ⟨tr,_,2,ye,rfl,rfl,s12.tupq qr,cK,by show 1<=sizeLine;decide,λel nel=>?_⟩)⟩;have s3:=Ja nel (.lst [ye]);refine⟨γ,m,S.ns,S.w,el,[ye],[e],rfl,sa2.same s3,.of J8,⟨ye,[],rfl,de.same (s12.trans s3),rfl⟩,by show 1<=8;decide,λe' he=>?_,so.len,so.few,λvl H4 yv s4 nvl hvl pr=>?_⟩
 . rw[jM.mp he];exact⟨eo,en⟩
 have s04:=s12.trans (s3.trans s4)
 have fsd4:δ.sd≠vl:=by
  obtain⟨kd,hd,_⟩:=(sd.same s3).dct;exact Jv hd nvl
 have yl:=pr.length
 refine⟨vl,rfl,⟨_,.of hvl⟩,X1 (K:=K) (xs:=yv) (λi σ H'=>SmA δ.sd H4 H'/\∃(c5 c6 c7:Option V),σ=[some (.ref wa),some (.ref tr),some (.ref γ.g),some (.int (S.ns.idxOf x:Nat)),some (.ref δ.g),c5,c6,c7]/\SAt K CS H' δ m (repl S.ns (S.ns.idxOf x) x) (gaR [] ((QJ S.ns S.w x e).take i)))
  ⟨.of (Same.refl _),none,none,none,rfl,sd.same (s3.trans s4)⟩ (λi σ H' _ h => .of (h.1 _ _ fsd4.symm hvl)) ?_ ?_⟩
 . rintro i z σ H' hz ⟨sm,c5,c6,c7,rfl,sg⟩;obtain⟨p,ep,vr⟩:=YI pr hz;have nT:NoT H4 δ.sd:=(sd.same (s3.trans s4)).noT;obtain⟨rr,t,u,sv,rfl,h1,h2,h3,h4⟩:=vr.sm nT sm;have vlen:=so.len _ (jq ep);refine⟨rr,_,rfl,.of h1,rfl,_,_,rfl,_,_,rfl,_,_,rfl,rfl,?_⟩;refine⟨_,rfl,δ.g,δ.dx,_,rfl,sg.ins,rfl,_,rfl,_,rfl,_,rfl,.inr (.inl ⟨u,_,0,.int (ev (bk S.ns p.1) e),rfl,rfl,.of h4,Q1,t,S.ns.idxOf x,.int (ev (bk S.ns p.1) e),p.1.map V.int,rfl,by rw[jA];omega,by rw[jA];omega,.inr ⟨h2,λp6 H6 s6 e6=>?_⟩⟩)⟩;rw[<- cM]at e6;refine⟨_,rfl,?_⟩;dsimp only[JR,ju];have el:(QJ S.ns S.w x e)[i]? = some (repl p.1 (S.ns.idxOf x) (ev (bk S.ns p.1) e),p.2):=by unfold QJ;rw[jF,ep];rfl
   refine gp ok el (sg.same s6) e6 (h3.same s6) λH7 s7 sg7=>?_;exact⟨sm.trans ((SmA.of s6).trans s7),_,_,_,rfl,sg7⟩
 . rintro σ H' ⟨sm,c5,c6,c7,rfl,sg⟩;have e2:(QJ S.ns S.w x e).take yv.length=QJ S.ns S.w x e:=ji (by unfold QJ;rw[jA];omega);rw[e2]at sg;exact⟨_,rfl,q δ H' (Qz fsd0 s04 sm) sg⟩
def gB(r:Wr)(m:Int)(S T:SL):Prop:=∃e,r = .seen e/\Xz e/\(∀n∈e.nms,n∈S.ns)/\AddOk m [] (Jn S.ns S.w e)/\T=⟨S.ns,gaR [] (Jn S.ns S.w e)⟩
def gC{α:Type}(f:α->Bool){l:List α}{i:Nat}{p:α}(h:l[i]? = some p):(l.take (i + 1)).filter f=(l.take i).filter f ++ (if f p=true then [p] else [])/\l.filter f=(l.take i).filter f ++ ((if f p=true then [p] else []) ++ (l.drop (i + 1)).filter f):=by
 have e:(l.take (i + 1)).filter f=(l.take i).filter f ++ (if f p=true then [p] else []):=by
  rw[k9,h,List.filter_append];congr 1
  cases z:f p<;>simp[z]
 refine⟨e,?_⟩;rw[<- jV,<- e,<- List.filter_append,je]
def Bn(B:Bl mg)(xI:Cls K CS)(xP:Cls K CW)(n3:NoAttr K CS "names")(w2:NoAttr K CW "most")(Q6:NewC P w K mg base "StateList" CS 2 ["self", "names", "most"] (XB K CS))(Qs:DefM P w K mg base CS "add" 4 ["self", "numbers", "share"] (Xe K CS))(Za:DefM P w K mg base CS "valued" 13 ["self", "es"] (a8 K CS))
 (F:MFn K CW "walk_seen" "Walk.walk_seen" cb ["self", "row", "ahead"]):DefM P w K mg base CW "walk_seen" 14 ["self", "row", "ahead"] (XD K CS CW gB):=by
 refine F.ok3 YU (λvs H Q E h=>?_) (λf xD A outer s H vs Q E hr h=>?_)
 . obtain⟨wa,m,x,r,γ,S,T,rfl,_⟩:=h;rfl
 obtain⟨wa,m,y,r,γ,S,T,rfl,wk,dy,sa,so,⟨e,rfl,eo,en,ok,rfl⟩,q⟩:=h
 refine⟨_,(@J7 _ _ _ _ _ (Jg (i:=3) YU.nd rfl 'b' (XY Q6 hr rfl Jz (J4 (JF (pv 2) rfl) (J4 (JF (pv 0) rfl) J6))))
  (@J7 _ _ _ _ _ (X9 (Qi (JX Za xI hr Jz (pv 2) (J4 (Qw (J4 (Jf (Je K rfl) (pv 1) J5 (λ_ _=>rfl)) J6)) J6))) (QZ rfl (JZ (JD (i:=4) YU.nd rfl 'b') (JZ (JD (i:=5) YU.nd rfl 'b') (JZ (JD (i:=6) YU.nd rfl 'b') QY)))) (@Jc _ _ _ (Js (Jo (Xo.or (XN.or (XO.or (XU K rfl hr.units)))) (Jf (Je K rfl) (pv 6) J5 (λ_ _=>rfl)) J5 (Jk _)) (@Jc _ _ _ (Qa (JX Qs xI hr Jz (pv 3) (J4 (pv 4) (J4 (pv 5) J6))))) Ju)))
  (@Jc _ _ _ (Ji (pv 3))))),?_⟩
 obtain⟨wdx,pd,rd,hwa⟩:=wk;obtain⟨tr,ys,rfl,qr,_,_,rfl,rfl,ye,_,rfl,de,rfl⟩:=dy;refine Zr (Zs (ns:=S.ns) (m:=m) (λR hR=>⟨_,rfl,γ.g,CS,γ.dx,_,_,rfl,sa.ins,xI,n3,Qo γ m,hR γ.nt H (Same.refl _) sa.nm⟩) (λH1 R s1 hR=>⟨_,rfl,wa,CW,wdx,_,_,rfl,s1 _ _ hwa,xP,w2,Y7 pd rd m,hR⟩) λδ H2 s12 fg0 fsd0 sd=>?_);dsimp only[Jm,List.set,L2.JS];have sa2:=sa.same s12;refine⟨_,rfl,γ.g,γ.dx,_,rfl,sa2.ins,rfl,_,rfl,.inr (.inl ⟨tr,_,1,ye,rfl,rfl,s12.tupq qr,QK,by show 1<=sizeLine;decide,λel nel=>?_⟩)⟩;have s3:=Ja nel (.lst [ye]);refine⟨γ,m,S.ns,S.w,el,[ye],[e],rfl,sa2.same s3,.of J8,⟨ye,[],rfl,de.same (s12.trans s3),rfl⟩,by show 1<=8;decide,λe' he=>?_,so.len,so.few,λvl H4 yv s4 nvl hvl pr=>?_⟩
 . rw[jM.mp he];exact⟨eo,en⟩
 have s04:=s12.trans (s3.trans s4)
 have fsd4:δ.sd≠vl:=by
  obtain⟨kd,hd,_⟩:=(sd.same s3).dct;exact Jv hd nvl
 have yl:=pr.length
 refine⟨vl,rfl,⟨_,.of hvl⟩,X1 (K:=K) (xs:=yv) (λi σ H'=>SmA δ.sd H4 H'/\∃(c5 c6 c7:Option V),σ=[some (.ref wa),some (.ref tr),some (.ref γ.g),some (.ref δ.g),c5,c6,c7]/\SAt K CS H' δ m S.ns (gaR [] (Jn S.ns (S.w.take i) e)))
  ⟨.of (Same.refl _),none,none,none,rfl,sd.same (s3.trans s4)⟩ (λi σ H' _ h => .of (h.1 _ _ fsd4.symm hvl)) ?_ ?_⟩
 . rintro i z σ H' hz ⟨sm,c5,c6,c7,rfl,sg⟩;obtain⟨p,ep,vr⟩:=YI pr hz;have nT:NoT H4 δ.sd:=(sd.same (s3.trans s4)).noT;obtain⟨rr,t,u,sv,rfl,h1,h2,h3,h4⟩:=vr.sm nT sm;obtain⟨e1,e2⟩:=gC (λp:xA×Rat=>decide (ev (bk S.ns p.1) e≠0)) ep;refine⟨rr,_,rfl,.of h1,rfl,_,_,rfl,_,_,rfl,_,_,rfl,rfl,?_⟩;refine⟨_,rfl,.inr (.inl ⟨u,_,0,.int (ev (bk S.ns p.1) e),rfl,rfl,.of h4,Q1,.inl ⟨_,_,rfl,rfl,_,rfl,XQ (λc=>?_) (λc=>?_)⟩⟩)⟩
   . rw[qm c,qh rfl]at e1 e2;refine⟨_,rfl,δ.g,δ.dx,_,rfl,sg.ins,rfl,_,rfl,_,rfl,?_⟩;dsimp only[JR,ju];refine a9 ok (l1:=Jn S.ns (S.w.take i) e) (v:=p.1) (q:=p.2) (l2:=Jn S.ns (S.w.drop (i + 1)) e) e2 sg h2 h3 λH7 s7 sg7=>?_;refine⟨sm.trans s7,_,_,_,rfl,?_⟩;unfold Jn at sg7 ⊢;rw[e1];exact sg7
   . rw[qk (λz=>z c),qg 'f',ju]at e1;refine nxt ⟨sm,_,_,_,rfl,?_⟩;unfold Jn at sg ⊢;rw[e1];exact sg
 . rintro σ H' ⟨sm,c5,c6,c7,rfl,sg⟩;rw[<- yl,jk]at sg;exact⟨_,rfl,q δ H' (Qz fsd0 s04 sm) sg⟩
def Tups(H H':Hp):Prop:=(∀b xs,H b=some (.tup xs)->H' b=some (.tup xs))/\∀b o xs,H b=some (.frz o (.tup xs))->H' b=some (.frz o (.tup xs))
def Tups.of(s:Same H H'):Tups H H':=⟨λb xs e=>s b _ e,λb o xs e=>s b _ e⟩
def Tups.sm(n:NoT H a)(s:SmA a H H'):Tups H H':=⟨λb xs e=>s b _ (λz=>n.1 xs (by rw[<- z];exact e)) e,λb o xs e=>s b _ (λz=>n.2 o xs (by rw[<- z];exact e)) e⟩
def Tups.trans(s:Tups H H')(t:Tups H' xF):Tups H xF:=⟨λb xs e=>t.1 b xs (s.1 b xs e),λb o xs e=>t.2 b o xs (s.2 b o xs e)⟩
def Tups.sq(s:Tups H H')(h:SqT K H b xs):SqT K H' b xs:=by
 rcases h with (h | ⟨o,h⟩) | h
 . exact .inl (.inl (s.1 _ _ h))
 . exact .inl (.inr ⟨o,s.2 _ _ _ h⟩)
 . exact .inr h
theorem Tups.dF(s:Tups H H')(h:IsD K H (dF r) v):IsD K H' (Fd.dF r) v:=by
 obtain⟨p,rfl,q⟩:=QT h;exact⟨p,_,rfl,s.sq q,_,_,rfl,rfl,_,_,rfl,rfl,rfl⟩
def Tups.row(s:Tups H H')(h:VRow K ns es H p y):VRow K ns es H' p y:=by
 obtain⟨r,t,u,sv,h1,h2,h3,h4,h5⟩:=h;exact⟨r,t,u,sv,h1,s.1 _ _ h2,s.1 _ _ h3,s.dF h4,s.1 _ _ h5⟩
theorem SAt.sm(n:NoT H a)(g:γ.g≠a)(d:γ.sd≠a)(s:SmA a H H')(h:SAt K CS H γ m ns acc):SAt K CS H' γ m ns acc:=by
 obtain⟨h1,⟨o,h2,h2'⟩,ks,h3,h4⟩:=h;have t:=Tups.sm n s;exact⟨s _ _ g h1,⟨o,t.2 _ _ _ h2,h2'⟩,ks,s _ _ d h3,h4.mono λr v e=>t.dF e⟩
def Jr(a b:xy):xy:=srt (a.filter λx=>decide (x∈b))
def QL(s t:SL):SL:=⟨Jr s.ns t.ns,gaR (gaR [] (Jj s.ns (Jr s.ns t.ns) s.w)) (Jj t.ns (Jr s.ns t.ns) t.w)⟩
def itn{α:Type}(f:α->α):Nat->α->α
 | 0,a=>a
 | n + 1,a=>f (itn f n a)
mutual
def wk1:Wr->SL->SL
 | .draw x os,S=>⟨repl S.ns (S.ns.idxOf x) x,gaR [] (Q2 S.ns S.w x os)⟩
 | .lett x e,S=>⟨repl S.ns (S.ns.idxOf x) x,gaR [] (QJ S.ns S.w x e)⟩
 | .seen e,S=>⟨S.ns,gaR [] (Jn S.ns S.w e)⟩
 | .ifr e a b,S=>QL (wks a ⟨S.ns,gaR [] (Jn S.ns S.w e)⟩) (wks b ⟨S.ns,gaR [] (Jw S.ns S.w e)⟩)
 | .rnd k a,S=>itn (λT=>wks a T) k S
 | .call _ _ _,S=>S
def wks:List Wr->SL->SL
 | [],S=>S
 | r :: l,S=>wks l (wk1 r S)
end
mutual
def ft1(m:Int):Wr->SL->Prop
 | .draw x os,S=>SOk S/\os.length<=100/\(∀o∈os,sz o.2)/\AddOk m [] (Q2 S.ns S.w x os)
 | .lett x e,S=>SOk S/\Xz e/\(∀n∈e.nms,n∈S.ns)/\AddOk m [] (QJ S.ns S.w x e)
 | .seen e,S=>SOk S/\Xz e/\(∀n∈e.nms,n∈S.ns)/\AddOk m [] (Jn S.ns S.w e)
 | .ifr e a b,S=>SOk S/\Xz e/\(∀n∈e.nms,n∈S.ns)/\AddOk m [] (Jn S.ns S.w e)/\AddOk m [] (Jw S.ns S.w e)/\fts m a ⟨S.ns,gaR [] (Jn S.ns S.w e)⟩/\fts m b ⟨S.ns,gaR [] (Jw S.ns S.w e)⟩ /\
  SOk (wks a ⟨S.ns,gaR [] (Jn S.ns S.w e)⟩)/\SOk (wks b ⟨S.ns,gaR [] (Jw S.ns S.w e)⟩) /\
  AddOk m [] (Jj (wks a ⟨S.ns,gaR [] (Jn S.ns S.w e)⟩).ns (QL (wks a ⟨S.ns,gaR [] (Jn S.ns S.w e)⟩) (wks b ⟨S.ns,gaR [] (Jw S.ns S.w e)⟩)).ns (wks a ⟨S.ns,gaR [] (Jn S.ns S.w e)⟩).w) /\
  AddOk m (gaR [] (Jj (wks a ⟨S.ns,gaR [] (Jn S.ns S.w e)⟩).ns (QL (wks a ⟨S.ns,gaR [] (Jn S.ns S.w e)⟩) (wks b ⟨S.ns,gaR [] (Jw S.ns S.w e)⟩)).ns (wks a ⟨S.ns,gaR [] (Jn S.ns S.w e)⟩).w)) (Jj (wks b ⟨S.ns,gaR [] (Jw S.ns S.w e)⟩).ns (QL (wks a ⟨S.ns,gaR [] (Jn S.ns S.w e)⟩) (wks b ⟨S.ns,gaR [] (Jw S.ns S.w e)⟩)).ns (wks b ⟨S.ns,gaR [] (Jw S.ns S.w e)⟩).w)
 | .rnd k a,S=>k<=1000/\∀i,i < k->fts m a (itn (λT=>wks a T) i S)
 | .call _ _ _,_=>False
def fts(m:Int):List Wr->SL->Prop
 | [],_=>True
 | r :: l,S=>ft1 m r S/\fts m l (wk1 r S)
end
mutual
def Wr.hi:Wr->Nat
 | .ifr _ a b=>max (hiW a) (hiW b) + 1
 | .rnd _ a=>hiW a + 1
 | _=>0
def hiW:List Wr->Nat
 | []=>0
 | r :: l=>max r.hi (hiW l)
end
theorem Xf:∀l:List Wr,dWs l=l.map dW
 | []=>rfl
 | r :: l=>by unfold dWs;rw[Xf l];rfl
theorem Qt:∀(l m:List Wr) (S:SL),wks (l ++ m) S=wks m (wks l S)
 | [],m,S=>by unfold wks;rfl
 | r :: l,m,S=>by
  rw[List.cons_append]
  conv=>lhs;unfold wks
  conv=>rhs;rw[wks]
  exact Qt l m (wk1 r S)
theorem aa:∀(l m:List Wr) (S:SL),fts M (l ++ m) S↔fts M l S/\fts M m (wks l S)
 | [],m,S=>by unfold fts wks;exact⟨λh=>⟨trivial,h⟩,λh=>h.2⟩
 | r :: l,m,S=>by
  rw[List.cons_append]
  conv=>lhs;unfold fts
  conv=>rhs;rw[fts,wks]
  rw[aa l m,and_assoc]
theorem r6:∀{l:List Wr}{r:Wr},r∈l->r.hi<=hiW l
 | a :: l,r,h=>by
  show r.hi<=max a.hi (hiW l);rcases jL.mp h with rfl | h
  . omega
  . have:=r6 h;omega
def r8(K:xt)(CS CW:J0)(d:Nat):Sp:=λvs H Q _=>∃(wa:J0) (m:Int) (x:V) (r:Wr) (γ:SAd) (S:SL),vs=[.ref wa,x,.ref γ.g]/\WkAt CW H wa m/\IsD K H (dW r) x/\SAt K CS H γ m S.ns S.w/\r.hi < d/\ft1 m r S/\∀(δ:SAd) (H':Hp),Same H H'->SAt K CS H' δ m (wk1 r S).ns (wk1 r S).w->Q (.ref δ.g) H'
def ae(K:xt)(CS CW:J0)(d:Nat):Sp:=λvs H Q _=>∃(wa:J0) (m:Int) (a:J0) (xs:List V) (rs:List Wr) (γ:SAd) (S:SL),vs=[.ref wa,.ref a,.ref γ.g]/\WkAt CW H wa m/\SqL K H a xs/\IsDs K H (dWs rs) xs/\SAt K CS H γ m S.ns S.w/\hiW rs < d/\fts m rs S/\∀(δ:SAd) (H':Hp),Same H H'->SAt K CS H' δ m (wks rs S).ns (wks rs S).w->Q (.ref δ.g) H'
def r9:Sp:=λ_ _ _ _=>False
def af{c:Prop}[Decidable c]{a b:Prop}(h:c)(k:a):if decide c=true then a else b:=by rw[qm h];exact Yt k
theorem Bo(B:Bl mg)(xP:Cls K CW)(Bp:DefM P w K mg base CW "walk_row" j ["self", "row", "ahead"] (r8 K CS CW d))(F:MFn K CW "walk_rows" "Walk.walk_rows" YQ ["self", "rows", "ahead"]):DefM P w K mg base CW "walk_rows" (j + 1) ["self", "rows", "ahead"] (ae K CS CW d):=by
 have hj_Walk_walk_row:j<=j:=jD _;refine F.ok3 YV (λvs H Q E h=>?_) (λf xD A outer s H vs Q E hr h=>?_)
 . obtain⟨wa,m,a,xs,rs,γ,S,rfl,_⟩:=h;rfl
 obtain⟨wa,m,a,xs,rs,γ,S,rfl,wk,qa,ids,sa,hh,ft,q⟩:=h
 refine⟨_,(@J7 _ _ _ _ _ (Jg (i:=3) YV.nd rfl 'b' (pv 2))
  (@J7 _ _ _ _ _ (X9 (Qi (pv 1)) (JD (i:=4) YV.nd rfl 'b') (@Jc _ _ _ (Jg (i:=3) YV.nd rfl 'b' (JX Bp xP hr Jz (pv 0) (J4 (pv 4) (J4 (pv 3) J6)) (hjk:=hj_Walk_walk_row)))))
  (@Jc _ _ _ (Ji (pv 3))))),?_⟩
 have xl:=ids.length;rw[Xf,jA]at xl;rw[Xf]at ids;refine⟨_,rfl,?_⟩;dsimp only[Jm,List.set,L2.JS];refine⟨_,rfl,a,rfl,⟨_,qa⟩,X1 (K:=K) (xs:=xs) (λi σ H'=>Same H H'/\∃(δ:SAd) (c4:Option V),σ=[some (.ref wa),some (.ref a),some (.ref γ.g),some (.ref δ.g),c4]/\SAt K CS H' δ m (wks (rs.take i) S).ns (wks (rs.take i) S).w) ⟨Same.refl _,γ,none,rfl,by unfold wks;exact sa⟩ (λi σ H' _ h=>h.1.seq qa) ?_ ?_⟩
 . rintro i x σ H' hx ⟨sm,δ,c4,rfl,sg⟩;have hi:i < rs.length:=by have:=(jJ.mp hx).1;omega
   obtain⟨y,ey,dy⟩:=ids.get (i:=i) (d:=dW rs[i]) (by rw[jF,jC hi];rfl);obtain rfl:x=y:=by rw[hx]at ey;exact Option.some.inj ey
   have hm:=r6 (jl hi);have wk':=wk.same sm;obtain⟨wdx,pd,rd,hwa⟩:=id wk';have e:rs.take (i + 1)=rs.take i ++ [rs[i]]:=jt hi
   have f1:ft1 m rs[i] (wks (rs.take i) S):=by
    have:rs=rs.take i ++ (rs[i] :: rs.drop (i + 1)):=by rw[<- j4 hi,je]
    rw[this,aa]at ft;have h2:=ft.2;unfold fts at h2;exact h2.1
   refine⟨_,rfl,wa,wdx,_,rfl,hwa,rfl,_,rfl,_,rfl,wa,m,x,rs[i],δ,wks (rs.take i) S,rfl,wk',dy.same sm,sg,by omega,f1,λδ' H2 s2 sg2=>?_⟩;refine⟨sm.trans s2,δ',_,rfl,?_⟩;rw[e,Qt];unfold wks;unfold wks;exact sg2
 . rintro σ H' ⟨sm,δ,c4,rfl,sg⟩;rw[xl,jk]at sg;exact⟨_,rfl,q δ H' sm sg⟩
theorem Bq(B:Bl mg)(xP:Cls K CW)(Y8:DefM P w K mg base CW "walk_rows" j ["self", "rows", "ahead"] (ae K CS CW d))(F:MFn K CW "walk_rounds" "Walk.walk_rounds" YM ["self", "row", "ahead"]):DefM P w K mg base CW "walk_rounds" (j + 1) ["self", "row", "ahead"] (λvs H Q E=>∃(wa:J0) (m:Int) (x:V) (k:Nat) (a:List Wr) (γ:SAd) (S:SL),vs=[.ref wa,x,.ref γ.g]/\WkAt CW H wa m/\IsD K H (dW (.rnd k a)) x/\SAt K CS H γ m S.ns S.w/\hiW a < d/\ft1 m (.rnd k a) S/\∀(δ:SAd) (H':Hp),Same H H'->SAt K CS H' δ m (itn (λT=>wks a T) k S).ns (itn (λT=>wks a T) k S).w->Q (.ref δ.g) H'):=by
 have hj_Walk_walk_rows:j<=j:=jD _;refine F.ok3 cn (λvs H Q E h=>?_) (λf xD A outer s H vs Q E hr h=>?_)
 . obtain⟨wa,m,x,k,a,γ,S,rfl,_⟩:=h;rfl
 obtain⟨wa,m,x,k,a,γ,S,rfl,wk,dy,sa,hh,⟨k1,ft⟩,q⟩:=h
 refine⟨_,(@J7 _ _ _ _ _ (Jg (i:=3) cn.nd rfl 'b' (pv 2))
  (@J7 _ _ _ _ _ (X9 (XJ rfl B.range (J4 (Jf (Je K rfl) (pv 1) J5 (λ_ _=>rfl)) J6)) (JD (i:=4) cn.nd rfl 'b') (@Jc _ _ _ (Jg (i:=3) cn.nd rfl 'b' (JX Y8 xP hr Jz (pv 0) (J4 (Jf (Je K rfl) (pv 1) J5 (λ_ _=>rfl)) (J4 (pv 3) J6)) (hjk:=hj_Walk_walk_rows)))))
  (@Jc _ _ _ (Ji (pv 3))))),?_⟩
 obtain⟨tr,ys,rfl,qr,_,_,rfl,rfl,_,_,rfl,rfl,_,_,rfl,⟨ol,zs,rfl,qo,dso⟩,rfl⟩:=dy;refine⟨_,rfl,?_⟩;dsimp only[Jm,List.set,L2.JS];refine⟨_,rfl,.inr (.inl ⟨tr,_,1,.int (k:Nat),rfl,rfl,qr,QK,_,rfl,by omega,by omega,iI (n:=k) (λi σ H'=>Same H H'/\∃(δ:SAd) (c4:Option V),σ=[some (.ref wa),some (.ref tr),some (.ref γ.g),some (.ref δ.g),c4]/\SAt K CS H' δ m (itn (λT=>wks a T) i S).ns (itn (λT=>wks a T) i S).w) ⟨Same.refl _,γ,none,rfl,sa⟩ ?_ ?_⟩)⟩
 . rintro i σ H' hi ⟨sm,δ,c4,rfl,sg⟩;have wk':=wk.same sm;obtain⟨wdx,pd,rd,hwa⟩:=id wk';refine⟨_,rfl,wa,wdx,_,rfl,hwa,rfl,_,rfl,.inr (.inl ⟨tr,_,2,.ref ol,rfl,rfl,sm.tupq qr,cK,_,rfl,wa,m,ol,zs,a,δ,itn (λT=>wks a T) i S,rfl,wk',sm.seq qo,dso.same sm,sg,hh,ft i hi,λδ' H2 s2 sg2=>?_⟩)⟩;exact⟨sm.trans s2,δ',_,rfl,sg2⟩
 . rintro σ H' ⟨sm,δ,c4,rfl,sg⟩;exact⟨_,rfl,q δ H' sm sg⟩
def cIf(K:xt)(CS CW:J0)(d:Nat):Sp:=λvs H Q _=>∃(wa:J0) (m:Int) (x:V) (e:Ex) (a b:List Wr) (γ:SAd) (S:SL),vs=[.ref wa,x,.ref γ.g]/\WkAt CW H wa m/\IsD K H (dW (.ifr e a b)) x/\SAt K CS H γ m S.ns S.w/\hiW a < d/\hiW b < d/\ft1 m (.ifr e a b) S/\∀(δ:SAd) (H':Hp),Same H H'->SAt K CS H' δ m (wk1 (.ifr e a b) S).ns (wk1 (.ifr e a b) S).w->Q (.ref δ.g) H'
theorem Br(h14:13<=j)(B:Bl mg)(xI:Cls K CS)(xP:Cls K CW)(n3:NoAttr K CS "names")(w2:NoAttr K CW "most")(Q6:NewC P w K mg base "StateList" CS 2 ["self", "names", "most"] (XB K CS))(Qs:DefM P w K mg base CS "add" 4 ["self", "numbers", "share"] (Xe K CS))(Za:DefM P w K mg base CS "valued" 13 ["self", "es"] (a8 K CS))(ag:DefM P w K mg base CS "add_states" 5 ["self", "others"] (gq K CS))
 (Y8:DefM P w K mg base CW "walk_rows" j ["self", "rows", "ahead"] (ae K CS CW d)) (F:MFn K CW "walk_if" "Walk.walk_if" YL ["self", "row", "ahead"]):DefM P w K mg base CW "walk_if" (j + 1) ["self", "row", "ahead"] (cIf K CS CW d):=by
 have hj_Walk_walk_rows:j<=j:=jD _;have hj_StateList:2 + 1<=j:=by omega
 have hj_StateList_add:4<=j:=by omega
 have hj_StateList_valued:13<=j:=h14;have hj_StateList_add_states:5<=j:=by omega
 refine F.ok3 Xb (λvs H Q E h=>?_) (λf xD A outer s H vs Q E hr h=>?_)
 . obtain⟨wa,m,x,e,a,b,γ,S,rfl,_⟩:=h;rfl
 obtain⟨wa,m,x,e,a,b,γ,S,rfl,wk,dy,sa,ha,hb,ft,q⟩:=h
 refine⟨_,(@J7 _ _ _ _ _ (Jg (i:=3) Xb.nd rfl 'b' (XY Q6 hr rfl Jz (J4 (JF (pv 2) rfl) (J4 (JF (pv 0) rfl) J6)) (hjk:=hj_StateList)))
  (@J7 _ _ _ _ _ (Jg (i:=4) Xb.nd rfl 'b' (XY Q6 hr rfl Jz (J4 (JF (pv 2) rfl) (J4 (JF (pv 0) rfl) J6)) (hjk:=hj_StateList)))
  (@J7 _ _ _ _ _ (X9 (Qi (JX Za xI hr Jz (pv 2) (J4 (Qw (J4 (Jf (Je K rfl) (pv 1) J5 (λ_ _=>rfl)) J6)) J6) (hjk:=hj_StateList_valued))) (QZ rfl (JZ (JD (i:=6) Xb.nd rfl 'b') (JZ (JD (i:=7) Xb.nd rfl 'b') (JZ (JD (i:=8) Xb.nd rfl 'b') QY)))) (@J7 _ _ _ _ _ (Jg (i:=9) Xb.nd rfl 'b' (Yn (Jo (Xo.or (XN.or (XO.or (XU K rfl hr.units)))) (Jf (Je K rfl) (pv 8) J5 (λ_ _=>rfl)) J5 (Jk _)) (pv 3) (pv 4)))
  (@Jc _ _ _ (Qa (JX Qs xI hr Jz (pv 9) (J4 (pv 6) (J4 (pv 7) J6)) (hjk:=hj_StateList_add))))))
  (@J7 _ _ _ _ _ (Jg (i:=3) Xb.nd rfl 'b' (JX Y8 xP hr Jz (pv 0) (J4 (Jf (Je K rfl) (pv 1) J5 (λ_ _=>rfl)) (J4 (pv 3) J6)) (hjk:=hj_Walk_walk_rows)))
  (@J7 _ _ _ _ _ (Jg (i:=4) Xb.nd rfl 'b' (JX Y8 xP hr Jz (pv 0) (J4 (Jf (Je K rfl) (pv 1) J5 (λ_ _=>rfl)) (J4 (pv 4) J6)) (hjk:=hj_Walk_walk_rows)))
  (@J7 _ _ _ _ _ (Jg (i:=5) Xb.nd rfl 'b' (XY Q6 hr rfl Jz (J4 (QD (nq K rfl) rfl B.tuple PyProof.Rows.boot_tuple (J4 (yY K rfl rfl rfl B.sorted PyProof.Rows.boot_sorted rfl B.set PyProof.Rows.boot_set (JF (pv 3) rfl) (JF (pv 4) rfl)) J6)) (J4 (JF (pv 0) rfl) J6)) (hjk:=hj_StateList)))
  (@J7 _ _ _ _ _ (Qa (JX ag xI hr Jz (pv 5) (J4 (pv 3) J6) (hjk:=hj_StateList_add_states)))
  (@J7 _ _ _ _ _ (Qa (JX ag xI hr Jz (pv 5) (J4 (pv 4) J6) (hjk:=hj_StateList_add_states)))
  (@Jc _ _ _ (Ji (pv 5))))))))))),?_⟩
 unfold ft1 at ft;obtain⟨so,eo,en,ok1,ok2,fa,fb,so1,so2,ok3,ok4⟩:=ft;obtain⟨wdx,pd,rd,hwa⟩:=id wk;obtain⟨tr,ys,rfl,qr,_,_,rfl,rfl,ye,_,rfl,de,_,_,rfl,⟨al,za,rfl,qal,dsa⟩,_,_,rfl,⟨bl,zb,rfl,qbl,dsb⟩,rfl⟩:=dy;refine Zr (Zs (ns:=S.ns) (m:=m) (λR hR=>⟨_,rfl,γ.g,CS,γ.dx,_,_,rfl,sa.ins,xI,n3,Qo γ m,hR γ.nt H (Same.refl _) sa.nm⟩) (λH1 R s1 hR=>⟨_,rfl,wa,CW,wdx,_,_,rfl,s1 _ _ hwa,xP,w2,Y7 pd rd m,hR⟩) λδ1 H1 s01 fg1 fs1 sd1=>?_);dsimp only[Jm,List.set,L2.JS];refine Zr (Zs (ns:=S.ns) (m:=m) (λR hR=>⟨_,rfl,γ.g,CS,γ.dx,_,_,rfl,s01 _ _ sa.ins,xI,n3,Qo γ m,hR γ.nt H1 (Same.refl _) (sa.nm.same s01)⟩) (λH2 R s1 hR=>⟨_,rfl,wa,CW,wdx,_,_,rfl,(s01.trans s1) _ _ hwa,xP,w2,Y7 pd rd m,hR⟩) λδ2 H2 s12 fg2 fs2 sd2=>?_);dsimp only[Jm,List.set];have s02:=s01.trans s12;have sa2:=sa.same s02;have sd1':=sd1.same s12;refine⟨_,rfl,γ.g,γ.dx,_,rfl,sa2.ins,rfl,_,rfl,.inr (.inl ⟨tr,_,1,ye,rfl,rfl,s02.tupq qr,QK,by show 1<=sizeLine;decide,λel nel=>?_⟩)⟩;have s3:=Ja nel (.lst [ye]);refine⟨γ,m,S.ns,S.w,el,[ye],[e],rfl,sa2.same s3,.of J8,⟨ye,[],rfl,de.same (s02.trans s3),rfl⟩,by show 1<=8;decide,λe' he=>?_,so.len,so.few,λvl H4 yv s4 nvl hvl pr=>?_⟩
 . rw[jM.mp he];exact⟨eo,en⟩
 have s34:=s3.trans s4;have s04:=s02.trans s34;have sda:=sd1'.same s34;have sdb:=sd2.same s34
 have v1:δ1.sd≠vl:=by
  obtain⟨kd,hd,_⟩:=(sd1'.same s3).dct;exact Jv hd nvl
 have v2:δ2.sd≠vl:=by
  obtain⟨kd,hd,_⟩:=(sd2.same s3).dct;exact Jv hd nvl
 have fs2':H δ2.sd=none:=a7 s01 fs2
 have n12:δ1.sd≠δ2.sd:=by
  obtain⟨kd,hd,_⟩:=sd1.dct;exact Jv hd fs2
 have g12:δ1.g≠δ2.sd:=Jv sd1.ins fs2
 have g21:δ2.g≠δ1.sd:=by
  obtain⟨kd,hd,_⟩:=sd1.dct;exact(Jv hd fg2).symm
 have yl:=pr.length
 refine⟨vl,rfl,⟨_,.of hvl⟩,X1 (K:=K) (xs:=yv) (λi σ H'=>Same H H'/\Tups H4 H'/\H' vl=some (.lst yv)/\∃(c6 c7 c8 c9:Option V),σ=[some (.ref wa),some (.ref tr),some (.ref γ.g),some (.ref δ1.g),some (.ref δ2.g),none,c6,c7,c8,c9]/\SAt K CS H' δ1 m S.ns (gaR [] (Jn S.ns (S.w.take i) e))/\SAt K CS H' δ2 m S.ns (gaR [] (Jw S.ns (S.w.take i) e)))
  ⟨s04,.of (Same.refl _),hvl,none,none,none,none,rfl,sda,sdb⟩ (λi σ H' _ h => .of h.2.2.1) ?_ ?_⟩
 . rintro i z σ H' hz ⟨sm,tp,hv,c6,c7,c8,c9,rfl,sg1,sg2⟩;obtain⟨p,ep,vr⟩:=YI pr hz;obtain⟨rr,t,u,sv,rfl,h1,h2,h3,h4⟩:=tp.row vr;obtain⟨e1,e2⟩:=gC (λp:xA×Rat=>decide (ev (bk S.ns p.1) e≠0)) ep;obtain⟨e3,e4⟩:=gC (λp:xA×Rat=>decide (ev (bk S.ns p.1) e=0)) ep;refine⟨rr,_,rfl,.of h1,rfl,_,_,rfl,_,_,rfl,_,_,rfl,rfl,?_⟩;refine⟨_,rfl,.inr (.inl ⟨u,_,0,.int (ev (bk S.ns p.1) e),rfl,rfl,.of h4,Q1,.inl ⟨_,_,rfl,rfl,_,rfl,XQ (λc=>?_) (λc=>?_)⟩⟩)⟩
   . rw[qm c,qh rfl]at e1 e2;rw[qk c,qg 'f',ju]at e3;refine⟨_,rfl,_,rfl,δ1.g,δ1.dx,_,rfl,sg1.ins,rfl,_,rfl,_,rfl,?_⟩;dsimp only[JR,ju];refine a9 ok1 (l1:=Jn S.ns (S.w.take i) e) (v:=p.1) (q:=p.2) (l2:=Jn S.ns (S.w.drop (i + 1)) e) e2 sg1 h2 h3 λH7 s7 sg7=>?_;refine⟨Qz fs1 sm s7,tp.trans (.sm sg1.noT s7),s7 _ _ v1.symm hv,_,_,_,_,rfl,?_,?_⟩
     . unfold Jn at sg7 ⊢;rw[e1];exact sg7
     . unfold Jw at sg2 ⊢;rw[e3];exact sg2.sm sg1.noT g21 n12.symm s7
   . rw[qk (λz=>z c),qg 'f',ju]at e1;rw[qm c,qh rfl]at e3 e4;refine⟨_,rfl,_,rfl,δ2.g,δ2.dx,_,rfl,sg2.ins,rfl,_,rfl,_,rfl,?_⟩;dsimp only[JR,ju];refine a9 ok2 (l1:=Jw S.ns (S.w.take i) e) (v:=p.1) (q:=p.2) (l2:=Jw S.ns (S.w.drop (i + 1)) e) e4 sg2 h2 h3 λH7 s7 sg7=>?_;refine⟨Qz fs2' sm s7,tp.trans (.sm sg2.noT s7),s7 _ _ v2.symm hv,_,_,_,_,rfl,?_,?_⟩
     . unfold Jn at sg1 ⊢;rw[e1];exact sg1.sm sg2.noT g12 n12 s7
     . unfold Jw at sg7 ⊢;rw[e3];exact sg7
 . rintro σ H' ⟨sm,tp,hv,c6,c7,c8,c9,rfl,sg1,sg2⟩;rw[<- yl,jk]at sg1 sg2;have wk':=wk.same sm;obtain⟨wdx',pd',rd',hwa'⟩:=id wk';dsimp only;refine⟨_,rfl,wa,wdx',_,rfl,hwa',rfl,_,rfl,.inr (.inl ⟨tr,_,2,.ref al,rfl,rfl,sm.tupq qr,cK,_,rfl,wa,m,al,za,a,δ1,⟨S.ns,gaR [] (Jn S.ns S.w e)⟩,rfl,wk',sm.seq qal,dsa.same sm,sg1,ha,fa,λε1 H5 s5 sh1=>?_⟩)⟩;dsimp only[Jm,List.set];have sm5:=sm.trans s5;have wk5:=wk'.same s5;refine⟨_,rfl,wa,wdx',_,rfl,s5 _ _ hwa',rfl,_,rfl,.inr (.inl ⟨tr,_,3,.ref bl,rfl,rfl,sm5.tupq qr,Bj,_,rfl,wa,m,bl,zb,b,δ2,⟨S.ns,gaR [] (Jw S.ns S.w e)⟩,rfl,wk5,sm5.seq qbl,dsb.same sm5,sg2.same s5,hb,fb,λε2 H6 s6 sh2=>?_⟩)⟩;dsimp only[Jm,List.set];generalize eT1:wks a ⟨S.ns,gaR [] (Jn S.ns S.w e)⟩=T1 at so1 ok3 ok4 sh1;generalize eT2:wks b ⟨S.ns,gaR [] (Jw S.ns S.w e)⟩=T2 at so2 ok3 ok4 sh2;have sh1':=sh1.same s6;have sm6:=sm5.trans s6;have l1:=so1.nms;have l2:=so2.nms;refine Zr (Zs (ns:=Jr T1.ns T2.ns) (m:=m) (λR hR=>?_) (λH7 R s1 hR=>⟨_,rfl,wa,CW,wdx',_,_,rfl,(s5.trans (s6.trans s1)) _ _ hwa',xP,w2,Y7 pd' rd' m,hR⟩) λβ H7 s7 fgb fsb sb=>?_)
   . refine⟨_,rfl,ε1.g,CS,ε1.dx,_,_,rfl,sh1'.ins,xI,n3,Qo ε1 m,ε1.nt,T1.ns,rfl,.inr sh1'.nm.sq,by omega,_,rfl,ε2.g,CS,ε2.dx,_,_,rfl,sh2.ins,xI,n3,Qo ε2 m,ε2.nt,T2.ns,rfl,.inr sh2.nm.sq,by omega,λks nd sub=>?_,λl ss nl ms pw=>?_⟩
     . have:=List.Nodup.length_le_of_subset nd (λk hk=>(sub k hk).1);omega
     . have es:ss=Jr T1.ns T2.ns:=cA pw λk=>by
        rw[ms k,ko];exact⟨λh=>⟨h.1,qm h.2⟩,λh=>⟨h.1,x5 h.2⟩⟩
       subst es;refine⟨l,_,rfl,.of J8,λl2 o n2 d2=>?_⟩;exact hR l2 _ ((Ja nl _).trans (Ja n2 _)) ⟨o,J8,d2⟩
   dsimp only[Jm,List.set]
   have sub1:∀n∈Jr T1.ns T2.ns,n∈T1.ns/\n∈T2.ns:=λn hn=>by
    have:=Qy.mp hn;rw[ko]at this;exact⟨this.1,x5 this.2⟩
   have lb:(Jr T1.ns T2.ns).length<=60:=jh (List.Nodup.length_le_of_subset (Zo (QU _)) λn hn=>(sub1 n hn).1) l1;have sq1:=sh1'.same s7;have sq2:=sh2.same s7
   have b1:β.sd≠ε1.sd:=by
    obtain⟨kd,hd,_⟩:=sh1'.dct;exact(Jv hd fsb).symm
   have b2:ε2.sd≠β.sd:=by
    obtain⟨kd,hd,_⟩:=sh2.dct;exact Jv hd fsb
   have b3:ε2.g≠β.sd:=Jv sh2.ins fsb;refine⟨_,rfl,β.g,β.dx,_,rfl,sb.ins,rfl,_,rfl,β,ε1,m,m,Jr T1.ns T2.ns,T1.ns,[],T1.w,rfl,sb,sq1,b1,λn hn=>(sub1 n hn).1,by omega,so1.len,ok3,λH8 s8 sb8=>?_⟩;have sq2':=sq2.sm sb.noT b3 b2 s8;refine⟨_,rfl,β.g,β.dx,_,rfl,sb8.ins,rfl,_,rfl,β,ε2,m,m,Jr T1.ns T2.ns,T2.ns,_,T2.w,rfl,sb8,sq2',b2.symm,λn hn=>(sub1 n hn).2,by omega,so2.len,ok4,λH9 s9 sb9=>?_⟩;have fb0:H β.sd=none:=a7 sm6 fsb;refine⟨_,rfl,q β H9 (Qz fb0 (Qz fb0 (sm6.trans s7) s8) s9) ?_⟩;unfold wk1;rw[eT1,eT2];exact sb9
theorem Bs(h14:15<=j)(B:Bl mg)(xP:Cls K CW)(cN:DefM P w K mg base CW "walk_draw" 5 ["self", "row", "ahead"] (XD K CS CW gv))(cO:DefM P w K mg base CW "walk_let" 14 ["self", "row", "ahead"] (XD K CS CW gA))(cP:DefM P w K mg base CW "walk_seen" 14 ["self", "row", "ahead"] (XD K CS CW gB))(Bt:DefM P w K mg base CW "walk_if" j ["self", "row", "ahead"] (cIf K CS CW d))
 (Bu:DefM P w K mg base CW "walk_rounds" j ["self", "row", "ahead"] (λvs H Q E=>∃(wa:J0) (m:Int) (x:V) (k:Nat) (a:List Wr) (γ:SAd) (S:SL),vs=[.ref wa,x,.ref γ.g]/\WkAt CW H wa m/\IsD K H (dW (.rnd k a)) x/\SAt K CS H γ m S.ns S.w/\hiW a < d/\ft1 m (.rnd k a) S/\∀(δ:SAd) (H':Hp),Same H H'->SAt K CS H' δ m (itn (λT=>wks a T) k S).ns (itn (λT=>wks a T) k S).w->Q (.ref δ.g) H'))
 (Bv:DefM P w K mg base CW "walk_call" 1 ["self", "row", "ahead"] r9) (F:MFn K CW "walk_row" "Walk.walk_row" YO ["self", "row", "ahead"]):DefM P w K mg base CW "walk_row" (j + 1) ["self", "row", "ahead"] (r8 K CS CW (d + 1)):=by
 have hj_Walk_walk_draw:5<=j:=by omega
 have hj_Walk_walk_let:14<=j:=by omega
 have hj_Walk_walk_seen:14<=j:=by omega
 have hj_Walk_walk_if:j<=j:=jD _;have hj_Walk_walk_rounds:j<=j:=jD _;have hj_Walk_walk_call:1<=j:=by omega
 refine F.ok3 Aq (λvs H Q E h=>?_) (λf xD A outer s H vs Q E hr h=>?_)
 . obtain⟨wa,m,x,r,γ,S,rfl,_⟩:=h;rfl
 obtain⟨wa,m,x,r,γ,S,rfl,wk,dy,sa,hh,ft,q⟩:=h
 refine⟨_,(@J7 _ _ _ _ _ (Js (Jo Jx (Jf (Je K rfl) (pv 1) J5 (λ_ _=>rfl)) Jl (Jk _)) (@Jc _ _ _ (Ji (JX cN xP hr Jz (pv 0) (J4 (pv 1) (J4 (pv 2) J6)) (hjk:=hj_Walk_walk_draw)))) Ju)
  (@J7 _ _ _ _ _ (Js (Jo Jx (Jf (Je K rfl) (pv 1) J5 (λ_ _=>rfl)) Jl (Jk _)) (@Jc _ _ _ (Ji (JX cO xP hr Jz (pv 0) (J4 (pv 1) (J4 (pv 2) J6)) (hjk:=hj_Walk_walk_let)))) Ju)
  (@J7 _ _ _ _ _ (Js (Jo Jx (Jf (Je K rfl) (pv 1) J5 (λ_ _=>rfl)) Jl (Jk _)) (@Jc _ _ _ (Ji (JX cP xP hr Jz (pv 0) (J4 (pv 1) (J4 (pv 2) J6)) (hjk:=hj_Walk_walk_seen)))) Ju)
  (@J7 _ _ _ _ _ (Js (Jo Jx (Jf (Je K rfl) (pv 1) J5 (λ_ _=>rfl)) Jl (Jk _)) (@Jc _ _ _ (Ji (JX Bt xP hr Jz (pv 0) (J4 (pv 1) (J4 (pv 2) J6)) (hjk:=hj_Walk_walk_if)))) Ju)
  (@J7 _ _ _ _ _ (Js (Jo Jx (Jf (Je K rfl) (pv 1) J5 (λ_ _=>rfl)) Jl (Jk _)) (@Jc _ _ _ (Ji (JX Bu xP hr Jz (pv 0) (J4 (pv 1) (J4 (pv 2) J6)) (hjk:=hj_Walk_walk_rounds)))) Ju)
  (@Jc _ _ _ (Ji (JX Bv xP hr Jz (pv 0) (J4 (pv 1) (J4 (pv 2) J6)) (hjk:=hj_Walk_walk_call))))))))),?_⟩
 obtain⟨wdx,pd,rd,hwa⟩:=id wk
 cases r with
 | draw x os =>
  unfold ft1 at ft;unfold wk1 at q;obtain⟨so,l1,z1,ok⟩:=ft;obtain⟨tr,ys,rfl,qr,_,_,rfl,rfl,_⟩:=id dy;exact⟨_,rfl,.inr (.inl ⟨tr,_,0,.str "draw",rfl,rfl,qr,Q1,_,_,rfl,rfl,_,rfl,af rfl ⟨_,rfl,wa,wdx,_,rfl,hwa,rfl,_,rfl,_,rfl,wa,m,.ref tr,.draw x os,γ,S,_,rfl,wk,dy,sa,so,⟨x,os,rfl,l1,z1,ok,rfl⟩,q⟩⟩)⟩
 | lett x e =>
  unfold ft1 at ft;unfold wk1 at q;obtain⟨so,eo,en,ok⟩:=ft;obtain⟨tr,ys,rfl,qr,_,_,rfl,rfl,_⟩:=id dy;refine⟨_,rfl,.inr (.inl ⟨tr,_,0,.str "let",rfl,rfl,qr,Q1,_,_,rfl,rfl,_,rfl,Jt (λc=>absurd c (by show("let" : Str) ≠ "draw";decide)) (λ_=>nxt ?_)⟩)⟩;exact⟨_,rfl,.inr (.inl ⟨tr,_,0,.str "let",rfl,rfl,qr,Q1,_,_,rfl,rfl,_,rfl,af rfl ⟨_,rfl,wa,wdx,_,rfl,hwa,rfl,_,rfl,_,rfl,wa,m,.ref tr,.lett x e,γ,S,_,rfl,wk,dy,sa,so,⟨x,e,rfl,eo,en,ok,rfl⟩,q⟩⟩)⟩
 | seen e =>
  unfold ft1 at ft;unfold wk1 at q;obtain⟨so,eo,en,ok⟩:=ft;obtain⟨tr,ys,rfl,qr,_,_,rfl,rfl,_⟩:=id dy;refine⟨_,rfl,.inr (.inl ⟨tr,_,0,.str "seen",rfl,rfl,qr,Q1,_,_,rfl,rfl,_,rfl,Jt (λc=>absurd c (by show("seen" : Str) ≠ "draw";decide)) (λ_=>nxt ?_)⟩)⟩;refine⟨_,rfl,.inr (.inl ⟨tr,_,0,.str "seen",rfl,rfl,qr,Q1,_,_,rfl,rfl,_,rfl,Jt (λc=>absurd c (by show("seen" : Str) ≠ "let";decide)) (λ_=>nxt ?_)⟩)⟩;exact⟨_,rfl,.inr (.inl ⟨tr,_,0,.str "seen",rfl,rfl,qr,Q1,_,_,rfl,rfl,_,rfl,af rfl ⟨_,rfl,wa,wdx,_,rfl,hwa,rfl,_,rfl,_,rfl,wa,m,.ref tr,.seen e,γ,S,_,rfl,wk,dy,sa,so,⟨e,rfl,eo,en,ok,rfl⟩,q⟩⟩)⟩
 | ifr e a b =>
  have hh':max (hiW a) (hiW b) + 1 < d + 1:=hh;obtain⟨tr,ys,rfl,qr,_,_,rfl,rfl,_⟩:=id dy;refine⟨_,rfl,.inr (.inl ⟨tr,_,0,.str "if",rfl,rfl,qr,Q1,_,_,rfl,rfl,_,rfl,Jt (λc=>absurd c (by show("if" : Str) ≠ "draw";decide)) (λ_=>nxt ?_)⟩)⟩;refine⟨_,rfl,.inr (.inl ⟨tr,_,0,.str "if",rfl,rfl,qr,Q1,_,_,rfl,rfl,_,rfl,Jt (λc=>absurd c (by show("if" : Str) ≠ "let";decide)) (λ_=>nxt ?_)⟩)⟩;refine⟨_,rfl,.inr (.inl ⟨tr,_,0,.str "if",rfl,rfl,qr,Q1,_,_,rfl,rfl,_,rfl,Jt (λc=>absurd c (by show("if" : Str) ≠ "seen";decide)) (λ_=>nxt ?_)⟩)⟩;exact⟨_,rfl,.inr (.inl ⟨tr,_,0,.str "if",rfl,rfl,qr,Q1,_,_,rfl,rfl,_,rfl,af rfl ⟨_,rfl,wa,wdx,_,rfl,hwa,rfl,_,rfl,_,rfl,wa,m,.ref tr,e,a,b,γ,S,rfl,wk,dy,sa,by omega,by omega,ft,q⟩⟩)⟩
 | rnd k a =>
  have hh':hiW a + 1 < d + 1:=hh;unfold wk1 at q;obtain⟨tr,ys,rfl,qr,_,_,rfl,rfl,_⟩:=id dy;refine⟨_,rfl,.inr (.inl ⟨tr,_,0,.str "rounds",rfl,rfl,qr,Q1,_,_,rfl,rfl,_,rfl,Jt (λc=>absurd c (by show("rounds" : Str) ≠ "draw";decide)) (λ_=>nxt ?_)⟩)⟩;refine⟨_,rfl,.inr (.inl ⟨tr,_,0,.str "rounds",rfl,rfl,qr,Q1,_,_,rfl,rfl,_,rfl,Jt (λc=>absurd c (by show("rounds" : Str) ≠ "let";decide)) (λ_=>nxt ?_)⟩)⟩;refine⟨_,rfl,.inr (.inl ⟨tr,_,0,.str "rounds",rfl,rfl,qr,Q1,_,_,rfl,rfl,_,rfl,Jt (λc=>absurd c (by show("rounds" : Str) ≠ "seen";decide)) (λ_=>nxt ?_)⟩)⟩;refine⟨_,rfl,.inr (.inl ⟨tr,_,0,.str "rounds",rfl,rfl,qr,Q1,_,_,rfl,rfl,_,rfl,Jt (λc=>absurd c (by show("rounds" : Str) ≠ "if";decide)) (λ_=>nxt ?_)⟩)⟩;exact⟨_,rfl,.inr (.inl ⟨tr,_,0,.str "rounds",rfl,rfl,qr,Q1,_,_,rfl,rfl,_,rfl,af rfl ⟨_,rfl,wa,wdx,_,rfl,hwa,rfl,_,rfl,_,rfl,wa,m,.ref tr,k,a,γ,S,rfl,wk,dy,sa,by omega,ft,q⟩⟩)⟩
 | call x f es=>exact ft.elim
def Bw(F:MFn K CW "walk_call" "Walk.walk_call" YN ["self", "row", "ahead"]):DefM P w K mg base CW "walk_call" 1 ["self", "row", "ahead"] r9:=F.ok3 Ap (λvs H Q E h=>h.elim) (λf xD A outer s H vs Q E hr h=>h.elim)
theorem re(B:Bl mg)(xI:Cls K CS)(xP:Cls K CW)(n3:NoAttr K CS "names")(w2:NoAttr K CW "most")(Q6:NewC P w K mg base "StateList" CS 2 ["self", "names", "most"] (XB K CS))(Qs:DefM P w K mg base CS "add" 4 ["self", "numbers", "share"] (Xe K CS))(Za:DefM P w K mg base CS "valued" 13 ["self", "es"] (a8 K CS))(ag:DefM P w K mg base CS "add_states" 5 ["self", "others"] (gq K CS))
 (cN:DefM P w K mg base CW "walk_draw" 5 ["self", "row", "ahead"] (XD K CS CW gv)) (cO:DefM P w K mg base CW "walk_let" 14 ["self", "row", "ahead"] (XD K CS CW gA)) (cP:DefM P w K mg base CW "walk_seen" 14 ["self", "row", "ahead"] (XD K CS CW gB))
 (F1:MFn K CW "walk_if" "Walk.walk_if" YL ["self", "row", "ahead"]) (F2:MFn K CW "walk_rounds" "Walk.walk_rounds" YM ["self", "row", "ahead"]) (F3:MFn K CW "walk_call" "Walk.walk_call" YN ["self", "row", "ahead"]) (F4:MFn K CW "walk_row" "Walk.walk_row" YO ["self", "row", "ahead"]) (F5:MFn K CW "walk_rows" "Walk.walk_rows" YQ ["self", "rows", "ahead"]):∀d,DefM P w K mg base CW "walk_rows" (3 * d + 14) ["self", "rows", "ahead"] (ae K CS CW d)
 | 0=>by
  refine F5.ok3 YV (λvs H Q E h=>?_) (λf xD A outer s H vs Q E hr h=>?_)
  . obtain⟨wa,m,a,xs,rs,γ,S,rfl,_⟩:=h;rfl
  . obtain⟨wa,m,a,xs,rs,γ,S,rfl,_,_,_,_,hh,_⟩:=h;exact absurd hh (qE _)
 | d + 1=>by
  have D:=re B xI xP n3 w2 Q6 Qs Za ag cN cO cP F1 F2 F3 F4 F5 d;have D1:=Br 'd' B xI xP n3 w2 Q6 Qs Za ag D F1;have D2:=Bq B xP D F2;exact Bo B xP (Bs (j:=3 * d + 15) 'd' B xP cN cO cP D1 D2 (Bw F3) F4) F5
def Bx{ix:xz}{wi:TI}{te ta:TE}{f:Str}{r:List V->Hp->VK->Prop}{u:TS}{D:Ends}(h:wi σ H (Qg ix te σ λx H1=>r [x] H1 λy H2=>ta σ H2 λx H3=>∃a C dx fs,x = .ref a/\H3 a=some (.ins C dx fs)/\Cls K C/\NoAttr K C f/\fs.length < 1000/\u D σ (upd H3 a (.ins C dx (Qe f y fs))))):XI (iW K ta (tCB r (Jy (QF ix wi X4 te) JR)) f) u D σ H:=h
def gD(K:xt)(CW:J0):Sp:=λvs H Q _=>∃(g dx pl:J0) (m:Int),vs=[.ref g,.ref pl,.int m]/\H g=some (.ins CW dx [])/\SqL K H pl [] /\
 ∀(H':Hp),SmA g H H'->WkAt CW H' g m->Q .non H'
def By(B:Bl mg)(xP:Cls K CW)(w1:NoAttr K CW "parts")(w2:NoAttr K CW "most")(w3:NoAttr K CW "results")(F:Fun K "__init__" "Walk.__init__" bW f fd):FnOk P w K mg base (CXD P w) 1 f fd ["self", "parts", "most"] (gD K CW):=by
 refine F.ok3 Ao (λvs H Q E h=>?_) (λxD A outer s H vs Q E hr h=>?_)
 . obtain⟨g,dx,pl,m,rfl,_⟩:=h;rfl
 obtain⟨g,dx,pl,m,rfl,hg,ql,q⟩:=h
 refine⟨_,(@J7 _ _ _ _ _ (ZC (pv 0) (QD (z9 rfl) rfl B.dict PyProof.Rows.boot_dict (J4 (QQ (CompOk.of (x := "part") (M:=[]) (ix:=[]) rfl rfl (by decide +kernel) (by decide +kernel) rfl trivial 'g' trivial) rfl (by decide +kernel) (Qi (pv 1)) (λ_ _ _ _ _=>Xp) (λ_ _ _ _ _=>(JV (J4 (Jf (Je K rfl) (pv 0) J5 (λ_ _=>rfl)) (J4 (pv 0) J6))))) J6)) rfl)
  (@J7 _ _ _ _ _ (ZC (pv 0) (pv 2) rfl)
  (@Jc _ _ _ (ZC (pv 0) vT rfl)))),?_⟩
 refine Bx ?_;refine⟨_,rfl,pl,rfl,⟨_,ql⟩,eL (K:=K) (xs:=[]) [] ql rfl (jX _) rfl (λi x d H' R hx=>nomatch hx) λp H1 ys s1 hp dy=>?_⟩;obtain rfl:ys=[]:=by cases ys with | nil=>rfl | cons a b=>exact absurd dy.length 'j'
 have h1:H1 g=some (.ins CW dx []):=s1 _ _ hg;refine⟨p,[],[],rfl,hp,.nil,jX _,λpd fd=>?_⟩;have ne:pd≠g:=λz=>by rw[z,h1]at fd;cases fd
 refine⟨_,rfl,g,CW,dx,_,rfl,(by rw[Jb ne.symm];exact h1),xP,w1,(by show 0 < 1000;decide),?_⟩;refine⟨_,rfl,_,rfl,g,CW,dx,_,rfl,J8,xP,w2,(by show 1 < 1000;decide),?_⟩;refine λrd f2=>?_;have ne2:rd≠g:=λz=>by rw[z,J8]at f2;cases f2
 refine⟨_,rfl,g,CW,dx,_,rfl,(by rw[Jb ne2.symm];exact J8),xP,w3,(by show 2 < 1000;decide),?_⟩;refine q _ (λb u n h=>?_) ⟨dx,pd,rd,J8⟩;have hb:=s1 b u h;have n1:b≠pd:=λz=>by rw[z,fd]at hb;cases hb
 have n2:b≠rd:=λz=>by
  rw[Jb ne2,Jb ne2]at f2;rw[<- z,Jb n1,hb]at f2;cases f2
 rw[Jb n,Jb n2,Jb n,Jb n,Jb n1];exact hb
def Bz(h1:∀R:VK,(∀p H1,Same H H1->SqL K H1 p []->R (.ref p) H1)->tg σ H R)(h2:∀(H1:Hp) (R:VK),Same H H1->R (.int m) H1->tm σ H1 R)
 (k:∀(g:J0) (H':Hp),Same H H'->WkAt CW H' g m->Q (.ref g) H'):ZE CW (gD K CW) [] E (Jy tg (Jy tm JR)) σ H Q :=
 h1 _ λp H1 s1 z=>h2 H1 _ s1 λx dx fx fdx ne=>by
  have sA:Same H1 (upd (upd H1 dx (.own x)) x (.ins CW dx [])):=(Ja fdx _).trans (Ja (by rw[Jb ne.symm];exact fx) _);refine⟨x,dx,p,m,rfl,J8,sA.seq z,λH' s2 wk=>⟨rfl,k x H' (λb u h=>s2 b u (Jv (s1 b u h) fx) (sA b u (s1 b u h))) wk⟩⟩
def BA{m:Str}{sp:Sp}{dv:List V}{E:XK}{ta:TE}{t:TA}{g:TG}{u:TS}{D:Ends}(h:ta σ H λx H1=>∃a dx fs,x = .ref a/\H1 a=some (.ins C dx fs)/\fs.lookup m=none/\t σ H1 λvs H2=>sp (x :: (vs ++ dv)) H2 (λy H3=>g y σ H3 (u D)) E):XI (X0 (dM C m sp dv E ta t) g) u D σ H:=h
theorem gE:∀ns:xy,IsDs K H (ns.map D.str) (ns.map V.str)
 | []=>rfl
 | _ :: ns=>⟨_,_,rfl,rfl,gE ns⟩
def gF(K:xt):Sp:=λvs H Q _=>∃(t pl rl:J0) (z:V) (m:Int) (ys:List V) (rs:List Wr),vs=[.ref t,.int m]/\SqT K H t [.ref pl,.ref rl,z]/\SqL K H pl []/\SqL K H rl ys/\IsDs K H (dWs rs) ys/\hiW rs < 6/\AddOk m [] [([],1)]/\fts m rs ⟨[],[([],1)]⟩/\SOk (wks rs ⟨[],[([],1)]⟩)/\(wks rs ⟨[],[([],1)]⟩).ns.Nodup /\
 (∀i,∀g∈gath (plc (wks rs ⟨[],[([],1)]⟩).ns (srt (wks rs ⟨[],[([],1)]⟩).ns)) ((wks rs ⟨[],[([],1)]⟩).w.take i),sz g.2) /\
 ∀(x:V) (H':Hp) (qs:List (xA×Rat)),Same H H'->qs.Perm (gath (plc (wks rs ⟨[],[([],1)]⟩).ns (srt (wks rs ⟨[],[([],1)]⟩).ns)) (wks rs ⟨[],[([],1)]⟩).w)->qs.Pairwise (λp q=>HT.lexLt p.1 q.1=true)->IsD K H' (.tup [.tup ((srt (wks rs ⟨[],[([],1)]⟩).ns).map D.str),.lst (qs.map QH)]) x->Q x H'
theorem BB(B:Bl mg)(xI:Cls K CS)(xP:Cls K CW)(n2:NoAttr K CS "shares")(n3:NoAttr K CS "names")(Q6:NewC P w K mg base "StateList" CS 2 ["self", "names", "most"] (XB K CS))(gG:NewC P w K mg base "Walk" CW 1 ["self", "parts", "most"] (gD K CW))(Qs:DefM P w K mg base CS "add" 4 ["self", "numbers", "share"] (Xe K CS))(Y8:DefM P w K mg base CW "walk_rows" 32 ["self", "rows", "ahead"] (ae K CS CW 6))
 (XC:Def P w K mg base "places_of" 1 ["names", "some"] (cG K)) (gH:Def P w K mg base "gathered" 4 ["rows", "places"] (pK K))
 (F:FnD K mg "states" XZ ["program", "most"] (.int 500)):Def2 P w K mg base "states" 33 ["program", "most"] (gF K)/\DefD P w K mg base "states" 33 ["program", "most"] (.int 500) (gF K):=by
 refine F.ok3 cg (λvs H Q E h=>?_) (λf xD A outer s H vs Q E hr h=>?_)
 . obtain⟨t,pl,rl,z,m,ys,rs,rfl,_⟩:=h;rfl
 obtain⟨t,pl,rl,z,m,ys,rs,rfl,qt,ql,qr,dr,hh,ok0,ft,so,nd,gz,q⟩:=h
 refine⟨_,(@J7 _ _ _ _ _ (Jg (i:=2) cg.nd rfl 'b' (XY Q6 hr rfl Jz (J4 (fI (@oG _ _ _) (@oE _ _ _)) (J4 (pv 1) J6))))
  (@J7 _ _ _ _ _ (Qa (JX Qs xI hr Jz (pv 2) (J4 (fI (@oG _ _ _) (@oE _ _ _)) (J4 (JV (J4 J5 (J4 J5 J6))) J6))))
  (@J7 _ _ _ _ _ (Jg (i:=3) cg.nd rfl 'b' (JX Y8 xP hr Jz (XY gG hr rfl Jz (J4 (Jf (Je K rfl) (pv 0) J5 (λ_ _=>rfl)) (J4 (pv 1) J6))) (J4 (Jf (Je K rfl) (pv 0) J5 (λ_ _=>rfl)) (J4 (pv 2) J6))))
  (@J7 _ _ _ _ _ (Jg (i:=4) cg.nd rfl 'b' (QD (nq K rfl) rfl B.tuple PyProof.Rows.boot_tuple (J4 (Qk (Aa K rfl) rfl B.sorted PyProof.Rows.boot_sorted (J4 (JF (pv 3) rfl) J6)) J6)))
  (@Jc _ _ _ (Ji (JV (J4 (pv 4) (J4 (Jh gH hr rfl (J4 (A7 rfl rfl B.list PyProof.Rows.boot_list (JF (pv 3) rfl)) (J4 (Jh XC hr rfl (J4 (JF (pv 3) rfl) (J4 (pv 4) J6))) J6))) J6))))))))),?_⟩
 have big:(10000:Nat) < sizeLine:=by decide
 refine Zr (Zs (ns:=[]) (m:=m) (λR hR => .inl ⟨jX _,λp o fp od=>hR p _ (Ja fp _) ⟨o,J8,od⟩⟩) (λH1 R s1 hR=>⟨_,rfl,hR⟩) λγ H1 s1 fg fs sa=>?_);dsimp only[Jm,List.set,L2.JS];refine⟨_,rfl,γ.g,γ.dx,_,rfl,sa.ins,rfl,.inr ⟨jX _,λp1 n1=>⟨by show 2<=sizeLine;decide,λp2 m2=>?_⟩⟩⟩;have t1:=Ja n1 (.tup []);have t2:=Ja m2 (.tup [.int 1,.int 1]);have t12:=t1.trans t2;dsimp only[JR,ju];refine a9 ok0 (l1:=[]) (v:=[]) (q:=1) (l2:=[]) rfl (sa.same t12) (t2 _ _ J8) ⟨p2,_,rfl,.of J8,_,_,rfl,rfl,_,_,rfl,rfl,rfl⟩ λH2 s2 sa2=>?_;have s02:Same H H2:=Qz fs (s1.trans t12) s2;refine BA (Bz (m:=m) (λR hR=>⟨_,rfl,.inr (.inl ⟨t,_,0,.ref pl,rfl,rfl,s02.tupq qt,Q1,hR pl H2 (Same.refl _) (s02.seq ql)⟩)⟩) (λH1 R s1 hR=>⟨_,rfl,hR⟩) λwa H3 s3 wk=>?_);have s03:=s02.trans s3;obtain⟨wdx,pd,rd,hwa⟩:=id wk;refine⟨wa,wdx,_,rfl,hwa,rfl,_,rfl,.inr (.inl ⟨t,_,1,.ref rl,rfl,rfl,s03.tupq qt,QK,_,rfl,wa,m,rl,ys,rs,γ,⟨[],[([],1)]⟩,rfl,wk,s03.seq qr,dr.same s03,sa2.same s3,hh,ft,λδ H4 s4 sg=>?_⟩)⟩;dsimp only[Jm,List.set];generalize wks rs ⟨[],[([],1)]⟩=S at so nd gz q sg;have nl:=so.nms;refine⟨_,rfl,δ.g,CS,δ.dx,_,_,rfl,sg.ins,xI,n3,Qo δ m,δ.nt,S.ns,rfl,sg.nm.sq,nd,by omega,λl ss fl pm pw=>?_⟩;obtain rfl:ss=srt S.ns:=cA pw λk=>pm.mem_iff;refine⟨l,_,rfl,.of J8,λt4 o f4 od=>?_⟩;have u1:=Ja fl (.lst ((srt S.ns).map V.str));have u2:=Ja f4 (.frz o (.tup ((srt S.ns).map V.str)));have u12:=u1.trans u2;have z4:TupZ (upd (upd H4 l (.lst ((srt S.ns).map V.str))) t4 (.frz o (.tup ((srt S.ns).map V.str)))) t4 ((srt S.ns).map V.str):=⟨o,J8,od⟩;have sg5:=sg.same u12;have s05:=(s03.trans s4).trans u12;dsimp only[Jm,List.set];generalize upd (upd H4 l (.lst ((srt S.ns).map V.str))) t4 (.frz o (.tup ((srt S.ns).map V.str)))=H5 at z4 sg5 s05 ⊢;obtain⟨ks,h3,ac⟩:=sg5.dct;have kl:=ac.length;have few:=so.few;refine⟨_,rfl,_,rfl,δ.g,CS,δ.dx,_,_,rfl,sg5.ins,xI,n2,Z6 δ m,δ.sd,ks,rfl,h3,λH6 la xs s6 fla ela xl pa=>?_⟩;refine⟨_,rfl,δ.g,CS,δ.dx,_,_,rfl,s6 _ _ sg5.ins,xI,n3,Qo δ m,_,rfl,δ.nt,t4,S.ns,srt S.ns,rfl,sg5.nm.same s6,.inr (z4.same s6).sq,λn hn=>Qy.mp hn,?_,λpl H7 s7 e7=>?_⟩
 . have:(srt S.ns).length<=S.ns.length:=List.Nodup.length_le_of_subset (Zo (QU _)) λn hn=>Qy.mp hn;omega
 refine⟨la,pl,xs,S.w,_,rfl,.of (s7 _ _ ela),cF ?_ (λi x d hx hd=>?_),.of e7,λr hr j hj=>?_,?_,by omega,so.z,gz,λl2 H8 qs s8 f8 pm8 pw8 d8=>?_⟩
 . rw[jA];omega
 . rw[jF]at hd;have hi:i < ks.length:=by rw[<- xl];exact(jJ.mp hx).1
   obtain⟨q0,e1,dq⟩:=ac.at (jC hi);rw[e1]at hd
   cases hd
   obtain⟨p,b,rfl,f1,f2⟩:=pa i x ks[i] hx (jC hi);exact⟨p,_,rfl,.of (s7 _ _ f1),_,_,rfl,⟨b,_,rfl,.of (s7 _ _ f2),cE _⟩,_,_,rfl,dq.same (s6.trans s7),rfl⟩
 . obtain⟨n,hn,rfl⟩:=jW.mp hj;have:=so.len r hr;exact⟨Int.natCast_nonneg _,by rw[this];exact Int.ofNat_lt.mpr (jv.mpr (Qy.mp hn))⟩
 . have:(srt S.ns).length<=S.ns.length:=List.Nodup.length_le_of_subset (Zo (QU _)) λn hn=>Qy.mp hn;unfold plc;rw[jA];omega
 refine⟨by show 2<=sizeLine;decide,λp np=>?_⟩;have s9:=Ja np (.tup [.ref t4,.ref l2]);exact q _ _ qs (((s05.trans s6).trans (s7.trans s8)).trans s9) pm8 pw8 ⟨p,_,rfl,.of J8,_,_,rfl,⟨t4,_,rfl,(z4.same ((s6.trans (s7.trans s8)).trans s9)).sq,gE _⟩,_,_,rfl,d8.same s9,rfl⟩
abbrev Rw:=List Int×Rat
def asg(ns:xy)(k:xA)(n:Str):Int:=k.getD (ns.idxOf n) 0
def BC(h:n∈ns):asg ns (ns.map g) n=g n:=by
 unfold asg;have hl:=jv.mpr h;rw[jE,jF,jC hl,List.getElem_idxOf hl];rfl
def BD{ns:xy}(nd:ns.Nodup){k:xA}(hk:k.length=ns.length):ns.map (asg ns k)=k:=by
 refine k7 (by simp[hk]) λi h1 h2=>?_;rw[jA]at h1;rw[kG];unfold asg;rw[nd.idxOf_getElem _ h1,jE,jC h2];rfl
def Jq(rs:List Rw)(q:xA->Bool):Rat:=Xu ((rs.filter λr=>q r.1).map (·.2))
def gI(q:xA->Bool):Jq [] q=0:=rfl
def ah(a b:List Rw)(q:xA->Bool):Jq (a ++ b) q=Jq a q + Jq b q:=by
 unfold Jq;rw[List.filter_append,jo,Ay]
def gJ(r:Rw)(q:xA->Bool):Jq [r] q=if q r.1=true then r.2 else 0:=by
 unfold Jq
 by_cases c:q r.1=true
 . rw[List.filter_cons,qh c,qh c];show(0:Rat) + r.2=r.2;grind
 . rw[List.filter_cons,qg c,qg c];rfl
def QM(r:Rw)(rs:List Rw)(q:xA->Bool):Jq (r :: rs) q=(if q r.1=true then r.2 else 0) + Jq rs q:=by
 rw[show r :: rs=[r] ++ rs from rfl,ah,gJ]
def rg(h:∀r∈rs,q r.1=q' r.1):Jq rs q=Jq rs q':=by
 unfold Jq;rw[List.filter_congr h]
def BE(h:∀r∈rs,q r.1=false):Jq rs q=0:=by
 unfold Jq;rw[List.filter_eq_nil_iff.mpr λr hr=>by simp[h r hr]];rfl
def gK(h:a.Perm b)(q:xA->Bool):Jq a q=Jq b q:=by
 induction h with
 | nil=>rfl
 | cons x _ ih=>rw[QM,QM,ih]
 | swap x y l=>rw[QM,QM,QM,QM];grind
 | trans _ _ h1 h2=>rw[h1,h2]
def BF(h:∀p∈acc,p.1≠k):JG acc k r=acc ++ [(k,r)]:=by
 have e1:Qc acc k=none:=by
  unfold Qc;have:acc.find? (λp=>decide (p.1=k))=none:=List.find?_eq_none.mpr λp hp=>by simpa using h p hp
  rw[this];rfl
 have e2:(acc.any λp=>decide (p.1=k))=false:=List.any_eq_false.mpr λp hp=>by simpa using h p hp
 unfold JG JU;rw[e1,e2];rfl
def rh(acc:List Rw)(nd:(acc.map (·.1)).Nodup)(k:xA)(x:Rat)(q:xA->Bool):Jq (JG acc k x) q=Jq acc q + if q k=true then x else 0:=by
 by_cases c:∀p∈acc,p.1≠k
 . rw[BF c,ah,gJ]
 . obtain⟨p,hp,hk⟩:∃p∈acc,p.1=k:=by
    refine Classical.byContradiction λz=>c λp hp e=>z ⟨p,hp,e⟩
   subst hk
   have ev:Qc acc p.1=some p.2:=by
    unfold Qc
    induction acc with
    | nil=>cases hp
    | cons a acc ih =>
     rw[jf,j5]at nd;rw[kJ];rcases jL.mp hp with e | hp
     . rw[<- e,qm rfl];rfl
     . have:a.1≠p.1:=λz=>nd.1 (z ▸ jW.mpr ⟨p,hp,rfl⟩);rw[qk this];exact ih nd.2 hp (λz=>z p hp rfl)
   unfold JG JU;rw[ev,qh (List.any_eq_true.mpr ⟨p,hp,by simp⟩)];dsimp only
   have go:∀(acc:List Rw),(acc.map (·.1)).Nodup->p∈acc->Jq (acc.map λp'=>if p'.1=p.1 then(p'.1,p.2 + x) else p') q=Jq acc q + if q p.1=true then x else 0:=λacc=>by
    induction acc with
    | nil=>intro _ h;cases h
    | cons a acc ih =>
     intro nd hp;rw[jf,j5]at nd;rw[jf,QM,QM];rcases jL.mp hp with e | hp
     . subst e;rw[qh rfl]
       have xG:acc.map (λp'=>if p'.1=p.1 then(p'.1,p.2 + x) else p')=acc:=by
        conv=>rhs;rw[<- List.map_id acc]
        refine j9 λa ha=>?_;rw[qg (λz:a.1=p.1=>nd.1 (z ▸ jW.mpr ⟨a,ha,rfl⟩))];rfl
       rw[xG]
       by_cases c:q p.1=true
       . simp only[c,if_true];grind
       . simp only[c];grind
     . have:a.1≠p.1:=λz=>nd.1 (z ▸ jW.mpr ⟨p,hp,rfl⟩);rw[qg this,ih nd.2 hp]
       grind
   exact go acc nd hp
def ri{β:Type}{acc:List (xA×β)}{k:xA}{x:β}(k':xA):k'∈(JU acc k x).map (·.1)↔k'∈acc.map (·.1)\/k'=k:=by
 unfold JU;split
 . rename_i h;obtain⟨p,hp,hk⟩:=List.any_eq_true.mp h;have hk:p.1=k:=by simpa using hk
   rw[kK]
   have e:acc.map ((λp=>p.1) ∘ λp=>if p.1=k then(p.1,x) else p)=acc.map (·.1):=j9 λp _=>by
    show(if p.1=k then(p.1,x) else p).1=p.1;split<;>rfl
   rw[e];constructor
   . exact .inl
   . rintro (z | z)
     . exact z
     . rw[z,<- hk];exact jW.mpr ⟨p,hp,rfl⟩
 . rw[jo,jO];simp
def rj{β:Type}{acc:List (xA×β)}{k:xA}{x:β}(nd:(acc.map (·.1)).Nodup):((JU acc k x).map (·.1)).Nodup:=by
 unfold JU;split
 . rw[kK]
   have e:acc.map ((λp=>p.1) ∘ λp=>if p.1=k then(p.1,x) else p)=acc.map (·.1):=j9 λp _=>by
    show(if p.1=k then(p.1,x) else p).1=p.1;split<;>rfl
   rw[e];exact nd
 . rename_i h;rw[jo,kQ];refine⟨nd,by simp,λa ha b hb z=>?_⟩;have:b=k:=by simpa using hb
   subst this;obtain⟨p,hp,e⟩:=jW.mp ha;exact h (List.any_eq_true.mpr ⟨p,hp,by simp[e,z]⟩)
theorem ai(ps:xA):∀(n:Nat) (rs:List Rw),rs.length=n->((gath ps rs).map (·.1)).Nodup/\(∀k,k∈(gath ps rs).map (·.1)↔∃r∈rs,k=JW r.1 ps)/\∀q,Jq (gath ps rs) q=Jq rs λk=>q (JW k ps)
 | 0,rs,h=>by
  have:rs=[]:=List.length_eq_zero_iff.mp h;subst this;exact⟨jx,λk=>⟨λh=>(nomatch h),λ⟨r,h,_⟩=>(nomatch h)⟩,λq=>rfl⟩
 | n + 1,rs,h=>by
  obtain⟨l,r,rfl⟩:∃l r,rs=l ++ [r]:=by
   have hne:rs≠[]:=by intro z;rw[z]at h;simp at h
   exact⟨rs.dropLast,rs.getLast hne,(List.dropLast_concat_getLast hne).symm⟩
  obtain⟨h1,h2,h3⟩:=ai ps n l (by simpa using h);rw[pI];refine⟨rj h1,λk=>?_,λq=>?_⟩
  . unfold JG;rw[ri,h2];constructor
    . rintro (⟨r',a,b⟩ | e)
      . exact⟨r',jZ _ a,b⟩
      . exact⟨r,by simp,e⟩
    . rintro⟨r',a,b⟩;rcases jO.mp a with a | a
      . exact .inl ⟨r',a,b⟩
      . rw[jM.mp a]at b;exact .inr b
  . rw[rh _ h1,h3,ah,gJ]
def rm{rs:List Rw}(h:rs.Pairwise λp q=>HT.lexLt p.1 q.1=true):(rs.map (·.1)).Nodup:=by
 rw[List.nodup_iff_pairwise_ne,kT];exact h.imp fun {a b} hab e=>by rw[e,L2.YG]at hab;cases hab
def cQ(nd:(rs.map (·.1)).Nodup)(hp:p∈rs):Jq rs (λk=>decide (k=p.1))=p.2:=by
 induction rs with
 | nil=>cases hp
 | cons a rs ih =>
  rw[jf,j5]at nd;rw[QM];rcases jL.mp hp with e | hp
  . rw[<- e,qh 'j',BE]
    . grind
    . intro r hr;refine qk λz=>nd.1 ?_;rw[<- e,<- z];exact jW.mpr ⟨r,hr,rfl⟩
  . have:a.1≠p.1:=λz=>nd.1 (z ▸ jW.mpr ⟨p,hp,rfl⟩);rw[qg (by simpa using this),ih nd.2 hp]
    grind
def rp{rs:List Rw}(h:(rs.map (·.1)).Nodup):rs.Nodup:=by
 rw[List.nodup_iff_pairwise_ne,kT]at h;exact List.nodup_iff_pairwise_ne.mpr (h.imp fun {a b} hab e=>hab (by rw[e]))
def BG(ha:a.Pairwise λp q=>HT.lexLt p.1 q.1=true)(hb:b.Pairwise λp q=>HT.lexLt p.1 q.1=true)(hk:∀k,k∈a.map (·.1)↔k∈b.map (·.1))(hm:∀k,Jq a (λx=>decide (x=k))=Jq b λx=>decide (x=k)):a=b:=by
 have na:=rm ha;have nb:=rm hb
 have sub:∀{a b:List Rw},(a.map (·.1)).Nodup->(b.map (·.1)).Nodup->(∀k,k∈a.map (·.1)↔k∈b.map (·.1))->(∀k,Jq a (λx=>decide (x=k))=Jq b λx=>decide (x=k))->∀p∈a,p∈b:=fun {a b} na nb hk hm p hp=>by
  obtain⟨p',hp',e⟩:=jW.mp ((hk p.1).mp (jW.mpr ⟨p,hp,rfl⟩));have h1:=cQ na hp;have h2:=cQ nb hp';rw[e]at h2;have h3:p'.2=p.2:=by rw[<- h1,<- h2,hm]
  have:p'=p:=Prod.ext e h3;rw[<- this];exact hp'
 have pm:a.Perm b:=(List.perm_ext_iff_of_nodup (rp na) (rp nb)).mpr λp=>⟨sub na nb hk hm p,sub nb na (λk=>(hk k).symm) (λk=>(hm k).symm) p⟩
 exact List.Perm.eq_of_pairwise (λx y _ _ h1 h2=>by
  have:=b7 h1 h2;rw[L2.YG]at this;cases this) ha hb pm
def Bd(D M:Nat)(r:Rat):Prop:=∃a:Nat,a<=M/\r=Rat.divInt a D
def Bd.mono{D M M':Nat}{r:Rat}(h:Bd D M r)(l:M<=M'):Bd D M' r:=by obtain⟨a,h1,h2⟩:=h;exact⟨a,jh h1 l,h2⟩
def Bd.mul{D D' M M':Nat}{r s:Rat}(h:Bd D M r)(h':Bd D' M' s):Bd (D * D') (M * M') (r * s):=by
 obtain⟨a,h1,rfl⟩:=h;obtain⟨b,h2,rfl⟩:=h';exact⟨a * b,qA h1 h2,by rw[Rat.divInt_mul_divInt];norm_cast⟩
def Bd.add{D M M':Nat}(hD:0 < D){r s:Rat}(h:Bd D M r)(h':Bd D M' s):Bd D (M + M') (r + s):=by
 obtain⟨a,h1,rfl⟩:=h;obtain⟨b,h2,rfl⟩:=h';have h0:(D:Int)≠0:=by omega
 refine⟨a + b,by omega,?_⟩;rw[Rat.divInt_add_divInt _ _ h0 h0,<- Int.add_mul,Rat.divInt_mul_right h0];congr 1
theorem Bd.sz{D M:Nat}(hD:0 < D)(l1:D < 2 ^ 2000)(l2:M < 2 ^ 2000){r:Rat}(h:Bd D M r):Fd.sz r:=by
 obtain⟨a,h1,rfl⟩:=h;obtain⟨a1,a2⟩:=cw (t:=(a:Int)) (b:=(D:Int)) 'd';exact⟨js a1 'd',js a2 'd'⟩
theorem rq{D M:Nat}(hD:0 < D):∀(l:List Rat),(∀r∈l,Bd D M r)->Bd D (l.length * M) (Xu l)
 | [],_=>⟨0,jX _,by show(0:Rat)=_;simp⟩
 | r :: l,h=>by
  rw[Az,jP,Nat.succ_mul,Nat.add_comm];exact Bd.add hD (h r (jb ..)) (rq hD l λr' hr=>h r' (jS _ hr))
def rA{D M:Nat}(hD:0 < D)(h:∀r∈rs,Bd D M r.2)(q:xA->Bool):Bd D (rs.length * M) (Jq rs q):=by
 unfold Jq
 have:=rq hD ((rs.filter λr=>q r.1).map (·.2)) (M:=M) λx hx=>by
  obtain⟨r,hr,rfl⟩:=jW.mp hx;exact h r (ko.mp hr).1
 refine this.mono (kD _ ?_);rw[jA];exact qB _ _
def rB{D M:Nat}(hD:0 < D){ps:xA}{rs:List Rw}(h:∀r∈rs,Bd D M r.2):∀g∈gath ps rs,Bd D (rs.length * M) g.2:=λg hg=>by
 obtain⟨h1,_,h3⟩:=ai ps _ rs rfl;rw[<- cQ h1 hg,h3];exact rA hD h _
theorem cR:∀(l acc:List Rw),(acc.map (·.1)).Nodup->((gaR acc l).map (·.1)).Nodup/\(∀k,k∈(gaR acc l).map (·.1)↔k∈acc.map (·.1)\/k∈l.map (·.1))/\∀q,Jq (gaR acc l) q=Jq acc q + Jq l q
 | [],acc,nd=>⟨nd,λk=>⟨.inl,λh=>h.elim id λh=>(nomatch h)⟩,λq=>by rw[gI];show Jq acc q=_;grind⟩
 | p :: l,acc,nd=>by
  obtain⟨h1,h2,h3⟩:=cR l (JG acc p.1 p.2) (rj nd);refine⟨h1,λk=>?_,λq=>?_⟩
  . rw[show gaR acc (p :: l)=gaR (JG acc p.1 p.2) l from rfl,h2];unfold JG;rw[ri,jf,jL,or_assoc]
  . rw[show gaR acc (p :: l)=gaR (JG acc p.1 p.2) l from rfl,h3,rh _ nd,QM]
    grind
def gL{D M:Nat}(hD:0 < D){l:List Rw}(h:∀r∈l,Bd D M r.2):∀g∈gaR [] l,Bd D (l.length * M) g.2:=λg hg=>by
 obtain⟨h1,_,h3⟩:=cR l [] jx;rw[<- cQ h1 hg,h3,gI,Rat.zero_add];exact rA hD h _
theorem cS{l:List Rw}{k:xA}:k∈(gaR [] l).map (·.1)↔k∈l.map (·.1):=by
 rw[(cR l [] jx).2.1];exact⟨λh=>h.elim (λh=>(nomatch h)) id,.inr⟩
def rC(l:List Rw)(q:xA->Bool):Jq (gaR [] l) q=Jq l q:=by
 rw[(cR l [] jx).2.2,gI,Rat.zero_add]
def rD{D M:Nat}(hD:0 < D)(l1:D < 2 ^ 2000){l:List Rw}(h:∀r∈l,Bd D M r.2)(few:l.length<=500)(l2:500 * M < 2 ^ 2000):AddOk 500 [] l:=by
 refine⟨λp hp=>(h p hp).sz hD l1 'd',λi g hg=>?_,by show 0 + _<=900;omega,?_⟩
 . have hl:(l.take i).length<=500:=by rw[jT];omega
   exact((gL hD (λr hr=>h r (jm hr)) g hg).mono (kD M hl)).sz hD l1 l2
 . have:=Z8 l [];have e:([]:List Rw).length=0:=rfl;omega
def BH{m:Int}{l1 l2:List Rw}(h:AddOk m [] (l1 ++ l2)):AddOk m [] l1/\AddOk m (gaR [] l1) l2:=by
 have e:∀i,gaR [] ((l1 ++ l2).take (l1.length + i))=gaR (gaR [] l1) (l2.take i):=λi=>by
  rw[List.take_append,ji 'd',show l1.length + i - l1.length=i by omega,Z7]
 have few:=h.few;rw[jI]at few;have e0:([]:List Rw).length=0:=rfl;refine⟨⟨λp hp=>h.z1 p (jZ _ hp),λi g hg=>?_,by omega,?_⟩,⟨λp hp=>h.z1 p (jN _ hp),λi g hg=>h.z2 (l1.length + i) g (by rw[e];exact hg),?_,by rw[<- Z7];exact h.fit⟩⟩
 . by_cases c:i<=l1.length
   . exact h.z2 i g (by rw[ki c];exact hg)
   . rw[ji 'd']at hg;exact h.z2 l1.length g (by rw[ki (jD _),jk];exact hg)
 . have f:=h.fit;rw[Z7]at f;have:=gn l2 (gaR [] l1);omega
 . have:=Z8 l1 [];omega
def adN(nm:xy)(x:Str):xy:=if x∈nm then nm else nm ++ [x]
theorem Y9:n∈adN nm x↔n∈nm\/n=x:=by
 unfold adN;split
 . rename_i h;exact⟨.inl,λz=>z.elim id λe=>e ▸ h⟩
 . simp
def cT(h:nm.Nodup):(adN nm x).Nodup:=by
 unfold adN;split
 . exact h
 . rename_i c;rw[kQ];exact⟨h,by simp,λa ha b hb z=>c (by rw[jM]at hb;rw[<- hb,<- z];exact ha)⟩
def Yb(ns:xy)(x:Str):repl ns (ns.idxOf x) x=adN ns x:=by
 unfold repl adN;split
 . rename_i h;have hl:=jv.mpr h;have e:ns[ns.idxOf x]=x:=List.getElem_idxOf hl
   conv=>rhs;rw[<- je (ns.idxOf x) ns,j4 hl,e]
   rw[jV];rfl
 . rename_i h;rw[List.idxOf_eq_length h,jk,kF 'd',ju]
def cU{α:Type}{l:List α}{i:Nat}{x:α}(h:i<=l.length):(repl l i x).length=i + 1 + (l.length - (i + 1)):=by
 unfold repl;rw[jI,jI,jT,jr,jP,kU,Nat.min_eq_left h]
structure Gd (pool:xy) (k c:Nat) (S:SL):Prop where
 len:∀p∈S.w,p.1.length=S.ns.length
 cnt:S.w.length<=c
 nd:S.ns.Nodup
 sub:∀n∈S.ns,n∈pool
 bd:∀p∈S.w,Bd (27720 ^ k) (13860000 ^ k) p.2
def BI:Bd 27720 27720 (1:Rat):=⟨27720,jD _,by decide +kernel⟩
def aj(h:Bd (27720 ^ k) (13860000 ^ k) r):Bd (27720 ^ (k + 1)) (13860000 ^ k * 27720) r:=by
 have:=h.mul BI;rw[Rat.mul_one,<- Nat.pow_succ]at this;exact this
def rE(k:Nat):500 * (13860000 ^ k * 27720)=13860000 ^ (k + 1):=by rw[Nat.pow_succ];omega
def XE(k:Nat):0 < 27720 ^ k:=Nat.pow_pos 'f'
def ak(h:k<=80):27720 ^ k < 2 ^ 2000:=js (kj 'f' h) (by decide +kernel)
def gM(h:k<=80):500 * 13860000 ^ k < 2 ^ 2000:=js (kq _ (kj 'f' h)) (by decide +kernel)
section
variable {pool nm:xy}{k c:Nat}{S:SL}
def Gd.mono(h:Gd pool k c S)(l:c<=c'):Gd pool k c' S:=⟨h.len,jh h.cnt l,h.nd,h.sub,h.bd⟩
def Gd.up(h:Gd pool k c S):Gd pool (k + 1) c S:=⟨h.len,h.cnt,h.nd,h.sub,λp hp=>(aj (h.bd p hp)).mono (by rw[<- rE];omega)⟩
def Gd.ups(h:Gd pool k c S):∀{k'},k<=k'->Gd pool k' c S:=fun {k'} l=>by
 obtain⟨j,rfl⟩:=Nat.exists_eq_add_of_le l;clear l
 induction j with
 | zero=>exact h
 | succ j ih=>exact ih.up
def Gd.sok(h:Gd pool k c S)(p6:pool.length<=60)(c5:c<=500)(k8:k<=80):SOk S:=by
 refine⟨h.len,jh h.cnt 'd',jh (List.Nodup.length_le_of_subset h.nd h.sub) p6,λp hp=>(h.bd p hp).sz (XE _) (ak k8) ?_⟩;have:=gM k8;omega
def cV(hl:∀p∈l,p.1.length=ns.length)(hc:l.length<=c)(c5:c<=500)(k8:k < 80)(nd:ns.Nodup)(sub:∀n∈ns,n∈pool)(hb:∀p∈l,Bd (27720 ^ (k + 1)) (13860000 ^ k * 27720) p.2) :
 AddOk 500 [] l/\Gd pool (k + 1) c ⟨ns,gaR [] l⟩:=by
 have ht:=rE k;have hm:=gM (k:=k + 1) k8;refine⟨rD (XE _) (ak k8) hb 'd' 'd',λp hp=>?_,?_,nd,sub,λp hp=>(gL (XE _) hb p hp).mono ?_⟩
 . obtain⟨r,hr,e⟩:=jW.mp (cS.mp (jW.mpr ⟨p,hp,rfl⟩));rw[<- e];exact hl r hr
 . have:=Z8 l [];have e:([]:List (xA×Rat)).length=0:=rfl;show(gaR [] l).length<=c;omega
 . rw[<- ht];exact kD _ 'd'
structure OsG (os:List (Int×Rat)):Prop where
 one:1<=os.length
 few:os.length<=100
 bd:∀o∈os,Bd 27720 27720 o.2
def Wx(nm:xy)(e:Ex):Prop:=Xz e/\∀n∈e.nms,n∈nm
def PR(pool:xy):xy->List Wr->Prop
 | _,[]=>True
 | nm,.draw x os :: l=>x∈pool/\OsG os/\PR pool (adN nm x) l
 | nm,.lett x e :: l=>x∈pool/\Wx nm e/\PR pool (adN nm x) l
 | nm,.seen e :: l=>Wx nm e/\PR pool nm l
 | _,_=>False
def fac:List Wr->Nat
 | []=>1
 | .draw _ os :: l=>os.length * fac l
 | _ :: l=>fac l
def nmA:xy->List Wr->xy
 | nm,[]=>nm
 | nm,.draw x _ :: l=>nmA (adN nm x) l
 | nm,.lett x _ :: l=>nmA (adN nm x) l
 | nm,_ :: l=>nmA nm l
theorem rF(h:∀n∈nm,n∈ns):∀n∈adN nm x,n∈adN ns x:=λn hn=>Y9.mpr ((Y9.mp hn).imp (h n) id)
theorem QV:∀(rs:List Wr) {nm:xy},∀n∈nm,n∈nmA nm rs
 | [],_,n,h=>h
 | .draw x os :: l,_,n,h=>QV l n (Y9.mpr (.inl h))
 | .lett x e :: l,_,n,h=>QV l n (Y9.mpr (.inl h))
 | .seen e :: l,_,n,h=>QV l n h
 | .ifr .. :: l,_,n,h=>QV l n h
 | .rnd .. :: l,_,n,h=>QV l n h
 | .call .. :: l,_,n,h=>QV l n h
theorem Zt:∀{rs:List Wr}{nm:xy},PR pool nm rs->1<=fac rs
 | [],_,_=>jD _
 | .draw x os :: l,_,⟨_,h,h'⟩=>Nat.mul_pos h.one (Zt h')
 | .lett x e :: l,_,⟨_,_,h'⟩=>Zt (rs:=l) h'
 | .seen e :: l,_,⟨_,h'⟩=>Zt (rs:=l) h'
theorem rG(ns:xy)(x:Str)(os:List (Int×Rat)):∀w,(Q2 ns w x os).length=w.length * os.length
 | []=>by show 0=0 * _;omega
 | p :: w=>by
  show(drO ns x os p ++ Q2 ns w x os).length=_;rw[jI,rG ns x os w];unfold drO;rw[jA,jP,Nat.succ_mul,Nat.add_comm]
def BJ{D:Nat}(hD:0 < D){r:Rat}(h:Bd D D r)(h2:D < 2 ^ 2000):sz r:=h.sz hD h2 h2
def BK{x:Str}{os:List (Int×Rat)}(g:Gd pool k c S)(p6:pool.length<=60)(hx:x∈pool)(ho:OsG os)(c5:c * os.length<=500)(k8:k < 80):ft1 500 (.draw x os) S/\Gd pool (k + 1) (c * os.length) (wk1 (.draw x os) S)/\(wk1 (.draw x os) S).ns=adN S.ns x:=by
 have c1:c<=500:=jh (kn _ ho.one) c5;have ix:=cL S.ns x
 obtain⟨h1,h2⟩:=cV (pool:=pool) (k:=k) (c:=c * os.length) (ns:=repl S.ns (S.ns.idxOf x) x) (l:=Q2 S.ns S.w x os) (λp hp=>by
  obtain⟨r,hr,hp⟩:=List.mem_flatMap.mp hp;obtain⟨o,hO,rfl⟩:=jW.mp hp;have:=g.len r hr;rw[cU 'd',cU 'd',this]) (by rw[rG];exact kD _ g.cnt) c5 k8 (by rw[Yb];exact cT g.nd) (λn hn=>by
  rw[Yb]at hn;exact(Y9.mp hn).elim (g.sub n) λe=>e ▸ hx) (λp hp=>by
  obtain⟨r,hr,hp⟩:=List.mem_flatMap.mp hp;obtain⟨o,hO,rfl⟩:=jW.mp hp;have:=(g.bd r hr).mul (ho.bd o hO);rw[<- Nat.pow_succ]at this;exact this)
 refine⟨?_,?_,?_⟩
 . unfold ft1;exact⟨g.sok p6 c1 'd',ho.few,λo h=>BJ 'f' (ho.bd o h) (by decide +kernel),h1⟩
 . unfold wk1;exact h2
 . unfold wk1;exact Yb _ _
def BL(g:Gd pool k c S)(p6:pool.length<=60)(hx:x∈pool)(he:Wx S.ns e)(c5:c<=500)(k8:k < 80):ft1 500 (.lett x e) S/\Gd pool (k + 1) c (wk1 (.lett x e) S)/\(wk1 (.lett x e) S).ns=adN S.ns x:=by
 have ix:=cL S.ns x
 obtain⟨h1,h2⟩:=cV (pool:=pool) (k:=k) (c:=c) (ns:=repl S.ns (S.ns.idxOf x) x) (l:=QJ S.ns S.w x e) (λp hp=>by
  obtain⟨r,hr,rfl⟩:=jW.mp hp;have:=g.len r hr;rw[cU 'd',cU 'd',this]) (by unfold QJ;rw[jA];exact g.cnt) c5 k8 (by rw[Yb];exact cT g.nd) (λn hn=>by
  rw[Yb]at hn;exact(Y9.mp hn).elim (g.sub n) λe=>e ▸ hx) (λp hp=>by
  obtain⟨r,hr,rfl⟩:=jW.mp hp;exact aj (g.bd r hr))
 refine⟨?_,?_,?_⟩
 . unfold ft1;exact⟨g.sok p6 c5 'd',he.1,he.2,h1⟩
 . unfold wk1;exact h2
 . unfold wk1;exact Yb _ _
def gN(g:Gd pool k c S)(c5:c<=500)(k8:k < 80):AddOk 500 [] (S.w.filter q)/\Gd pool (k + 1) (S.w.filter q).length ⟨S.ns,gaR [] (S.w.filter q)⟩ :=
 have hf:=qB q S.w
 cV (λp hp=>g.len p (ko.mp hp).1) (jD _) (by have:=g.cnt;omega) k8 g.nd g.sub (λp hp=>aj (g.bd p (ko.mp hp).1))
def BM(g:Gd pool k c S)(p6:pool.length<=60)(he:Wx S.ns e)(c5:c<=500)(k8:k < 80):ft1 500 (.seen e) S/\Gd pool (k + 1) c (wk1 (.seen e) S)/\(wk1 (.seen e) S).ns=S.ns:=by
 obtain⟨h1,h2⟩:=gN (q:=λp:xA×Rat=>decide (ev (bk S.ns p.1) e≠0)) g c5 k8;refine⟨?_,?_,?_⟩
 . unfold ft1;exact⟨g.sok p6 c5 'd',he.1,he.2,h1⟩
 . unfold wk1;exact h2.mono (jh (qB _ _) g.cnt)
 . unfold wk1;rfl
def Wx.mono(h:Wx nm e)(s:∀n∈nm,n∈ns):Wx ns e:=⟨h.1,λn hn=>s n (h.2 n hn)⟩
theorem XF(p6:pool.length<=60):∀(rs:List Wr) {nm:xy}{S:SL}{k c:Nat},PR pool nm rs->(∀n∈nm,n∈S.ns)->Gd pool k c S->c * fac rs<=500->k + rs.length<=80->fts 500 rs S/\Gd pool (k + rs.length) (c * fac rs) (wks rs S)/\(wks rs S).ns=nmA S.ns rs
 | [],nm,S,k,c,_,hs,g,c5,k8=>by
  unfold fts wks;exact⟨trivial,by rw[show c * fac []=c from Nat.mul_one c];exact g,rfl⟩
 | .draw x os :: l,nm,S,k,c,⟨hx,ho,hl⟩,hs,g,c5,k8=>by
  have e:c * fac (.draw x os :: l)=c * os.length * fac l:=by show c * (os.length * fac l)=_;rw[Nat.mul_assoc]
  rw[e]at c5 ⊢;rw[jP]at k8 ⊢;obtain⟨f1,g1,e1⟩:=BK g p6 hx ho (jh (kn _ (Zt hl)) c5) 'd';obtain⟨f2,g2,e2⟩:=XF p6 l hl (S:=wk1 (.draw x os) S) (by rw[e1];exact rF hs) g1 c5 'd';unfold fts wks;rw[e1]at e2;exact⟨⟨f1,f2⟩,by rw[show k + (l.length + 1)=k + 1 + l.length by omega];exact g2,e2⟩
 | .lett x ex :: l,nm,S,k,c,⟨hx,ho,hl⟩,hs,g,c5,k8=>by
  have e:fac (.lett x ex :: l)=fac l:=rfl;rw[e]at c5 ⊢;rw[jP]at k8 ⊢;obtain⟨f1,g1,e1⟩:=BL g p6 hx (ho.mono hs) (jh (kn _ (Zt hl)) c5) 'd';obtain⟨f2,g2,e2⟩:=XF p6 l hl (S:=wk1 (.lett x ex) S) (by rw[e1];exact rF hs) g1 c5 'd';unfold fts wks;rw[e1]at e2;exact⟨⟨f1,f2⟩,by rw[show k + (l.length + 1)=k + 1 + l.length by omega];exact g2,e2⟩
 | .seen ex :: l,nm,S,k,c,⟨ho,hl⟩,hs,g,c5,k8=>by
  have e:fac (.seen ex :: l)=fac l:=rfl;rw[e]at c5 ⊢;rw[jP]at k8 ⊢;obtain⟨f1,g1,e1⟩:=BM g p6 (ho.mono hs) (jh (kn _ (Zt hl)) c5) 'd';obtain⟨f2,g2,e2⟩:=XF p6 l hl (S:=wk1 (.seen ex) S) (by rw[e1];exact hs) g1 c5 'd';unfold fts wks;rw[e1]at e2;exact⟨⟨f1,f2⟩,by rw[show k + (l.length + 1)=k + 1 + l.length by omega];exact g2,e2⟩
end
section
variable {pool nm:xy}{k c:Nat}{S:SL}
theorem rH(ns:xy)(e:Ex):∀w:List (xA×Rat),(Jn ns w e).length + (Jw ns w e).length=w.length
 | []=>rfl
 | p :: w=>by
  have ih:=rH ns e w;unfold Jn Jw at ih ⊢;rw[List.filter_cons,List.filter_cons]
  by_cases h:ev (bk ns p.1) e=0
  . rw[qg (by simp[h]),qh (by simp[h]),jP,jP];omega
  . rw[qh (by simp[h]),qg (by simp[h]),jP,jP];omega
def Zu:n∈Jr a b↔n∈a/\n∈b:=by
 unfold Jr;rw[Qy,ko];simp
def rJ(g:Gd pool k c S)(p6:pool.length<=60)(hn:∀n∈nm,n∈S.ns)(he:Wx nm e)(ha:PR pool nm a)(hb:PR pool nm b)(fa:fac a<=2)(fb:fac b<=2)(c5:c * 2<=500)(la:a.length<=L)(lb:b.length<=L)(k8:k + L + 2<=80) :
 ft1 500 (.ifr e a b) S/\Gd pool (k + L + 2) (c * 2) (wk1 (.ifr e a b) S)/\∀n∈nm,n∈(wk1 (.ifr e a b) S).ns:=by
 obtain⟨o1,g1⟩:=gN (q:=λp:xA×Rat=>decide (ev (bk S.ns p.1) e≠0)) g 'd' 'd';obtain⟨o2,g2⟩:=gN (q:=λp:xA×Rat=>decide (ev (bk S.ns p.1) e=0)) g 'd' 'd';have pl:=rH S.ns e S.w;have hc:=g.cnt
 change AddOk 500 [] (Jn S.ns S.w e) at o1
 change Gd pool (k + 1) (Jn S.ns S.w e).length ⟨S.ns,gaR [] (Jn S.ns S.w e)⟩ at g1
 change AddOk 500 [] (Jw S.ns S.w e) at o2
 change Gd pool (k + 1) (Jw S.ns S.w e).length ⟨S.ns,gaR [] (Jw S.ns S.w e)⟩ at g2
 have m1:=kq (Jn S.ns S.w e).length fa;have m2:=kq (Jw S.ns S.w e).length fb;obtain⟨f1,h1,e1⟩:=XF p6 a ha (S:=⟨S.ns,gaR [] (Jn S.ns S.w e)⟩) hn g1 'd' 'd';obtain⟨f2,h2,e2⟩:=XF p6 b hb (S:=⟨S.ns,gaR [] (Jw S.ns S.w e)⟩) hn g2 'd' 'd';have h1:=(h1.ups (k':=k + L + 1) 'd').mono m1;have h2:=(h2.ups (k':=k + L + 1) 'd').mono m2;have s1:=h1.sok p6 'd' 'd';have s2:=h2.sok p6 'd' 'd';have n1:∀n∈nm,n∈(wks a ⟨S.ns,gaR [] (Jn S.ns S.w e)⟩).ns:=λn h=>by rw[e1];exact QV a n (hn n h)
 have n2:∀n∈nm,n∈(wks b ⟨S.ns,gaR [] (Jw S.ns S.w e)⟩).ns:=λn h=>by rw[e2];exact QV b n (hn n h)
 have wk:wk1 (.ifr e a b) S=QL (wks a ⟨S.ns,gaR [] (Jn S.ns S.w e)⟩) (wks b ⟨S.ns,gaR [] (Jw S.ns S.w e)⟩):=by unfold wk1;rfl
 have hc1:=h1.cnt;have hc2:=h2.cnt;rw[wk]
 have key:AddOk 500 [] (Jj (wks a ⟨S.ns,gaR [] (Jn S.ns S.w e)⟩).ns (QL (wks a ⟨S.ns,gaR [] (Jn S.ns S.w e)⟩) (wks b ⟨S.ns,gaR [] (Jw S.ns S.w e)⟩)).ns (wks a ⟨S.ns,gaR [] (Jn S.ns S.w e)⟩).w) /\
  AddOk 500 (gaR [] (Jj (wks a ⟨S.ns,gaR [] (Jn S.ns S.w e)⟩).ns (QL (wks a ⟨S.ns,gaR [] (Jn S.ns S.w e)⟩) (wks b ⟨S.ns,gaR [] (Jw S.ns S.w e)⟩)).ns (wks a ⟨S.ns,gaR [] (Jn S.ns S.w e)⟩).w)) (Jj (wks b ⟨S.ns,gaR [] (Jw S.ns S.w e)⟩).ns (QL (wks a ⟨S.ns,gaR [] (Jn S.ns S.w e)⟩) (wks b ⟨S.ns,gaR [] (Jw S.ns S.w e)⟩)).ns (wks b ⟨S.ns,gaR [] (Jw S.ns S.w e)⟩).w) /\
  Gd pool (k + L + 2) (c * 2) (QL (wks a ⟨S.ns,gaR [] (Jn S.ns S.w e)⟩) (wks b ⟨S.ns,gaR [] (Jw S.ns S.w e)⟩)):=by
  clear e1 e2 f1 f2 wk n1 n2;generalize wks a ⟨S.ns,gaR [] (Jn S.ns S.w e)⟩=T1 at *;generalize wks b ⟨S.ns,gaR [] (Jw S.ns S.w e)⟩=T2 at *
  obtain⟨q1,q2⟩:=cV (pool:=pool) (k:=k + L + 1) (c:=c * 2) (ns:=Jr T1.ns T2.ns) (l:=Jj T1.ns (Jr T1.ns T2.ns) T1.w ++ Jj T2.ns (Jr T1.ns T2.ns) T2.w) (λp hp=>by
   rcases jO.mp hp with hp | hp<;>(obtain⟨r,hr,rfl⟩:=jW.mp hp;exact jA _)) (by
   unfold Jj;rw[jI,jA,jA];omega) c5 'd' (Zo (QU _)) (λn hn=>h1.sub n (Zu.mp hn).1) (λp hp=>by
   rcases jO.mp hp with hp | hp
   . obtain⟨r,hr,rfl⟩:=jW.mp hp;exact aj (h1.bd r hr)
   . obtain⟨r,hr,rfl⟩:=jW.mp hp;exact aj (h2.bd r hr))
  obtain⟨q3,q4⟩:=BH q1;rw[Z7]at q2;exact⟨q3,q4,q2⟩
 refine⟨?_,key.2.2,λn h=>Zu.mpr ⟨n1 n h,n2 n h⟩⟩;unfold ft1;have he':=he.mono hn;exact⟨g.sok p6 'd' 'd',he'.1,he'.2,o1,o2,f1,f2,s1,s2,key.1,key.2.1⟩
def Stp(pool nm:xy)(L:Nat)(a:List Wr):Prop:=∀(S:SL) (k c:Nat),Gd pool k c S->(∀n∈nm,n∈S.ns)->c * 2<=500->k + L<=80->fts 500 a S/\Gd pool (k + L) (c * 2) (wks a S)/\∀n∈nm,n∈(wks a S).ns
def BN(p6:pool.length<=60)(ha:PR pool nm a)(fa:fac a<=2)(la:a.length<=L):Stp pool nm L a:=λS k c g hn c5 k8=>by
 have m1:=kq c fa;obtain⟨f1,h1,e1⟩:=XF p6 a ha hn g 'd' 'd';exact⟨f1,(h1.ups 'd').mono m1,λn h=>by rw[e1];exact QV a n (hn n h)⟩
def BO(p6:pool.length<=60)(he:Wx nm e)(ha:PR pool nm a)(hb:PR pool nm b)(fa:fac a<=2)(fb:fac b<=2)(la:a.length<=L)(lb:b.length<=L):Stp pool nm (L + 2) [.ifr e a b]:=λS k c g hn c5 k8=>by
 obtain⟨f1,h1,e1⟩:=rJ g p6 hn he ha hb fa fb c5 la lb 'd';unfold fts wks;unfold fts wks;exact⟨⟨f1,trivial⟩,h1,e1⟩
theorem gO{L:Nat}(h:Stp pool nm L a)(g:Gd pool k c S)(hn:∀n∈nm,n∈S.ns):∀{n:Nat},c * 2 ^ n<=500->k + n * L<=80->(∀i,i < n->fts 500 a (itn (λT=>wks a T) i S))/\Gd pool (k + n * L) (c * 2 ^ n) (itn (λT=>wks a T) n S)/\∀m∈nm,m∈(itn (λT=>wks a T) n S).ns
 | 0,c5,k8=>⟨λi hi=>absurd hi (qE _),by rw[Nat.zero_mul,Nat.pow_zero,Nat.mul_one];exact g,hn⟩
 | n + 1,c5,k8=>by
  have e1:c * 2 ^ (n + 1)=c * 2 ^ n * 2:=by rw[Nat.pow_succ,Nat.mul_assoc]
  have e2:k + (n + 1) * L=k + n * L + L:=by rw[Nat.succ_mul];omega
  rw[e1]at c5 ⊢;rw[e2]at k8 ⊢;obtain⟨f,g1,h1⟩:=gO h g hn (n:=n) 'd' 'd';obtain⟨f2,g2,h2⟩:=h _ _ _ g1 h1 c5 k8;refine⟨λi hi=>?_,g2,h2⟩
  by_cases c:i < n
  . exact f i c
  . rw[show i=n by omega];exact f2
def Qd(n:Nat)(a:List Wr):List Wr:=(List.replicate n a).flatten
def gP(n:Nat)(a:List Wr):Qd (n + 1) a=Qd n a ++ a:=by
 unfold Qd;rw[List.replicate_succ',List.flatten_append];simp
theorem Yc(a:List Wr)(S:SL):∀n,wks (Qd n a) S=itn (λT=>wks a T) n S
 | 0=>by show wks [] S=S;unfold wks;rfl
 | n + 1=>by rw[gP,Qt,Yc a S n];rfl
theorem gQ{a:List Wr}{S:SL}:∀{n:Nat},(∀i,i < n->fts 500 a (itn (λT=>wks a T) i S))->fts 500 (Qd n a) S
 | 0,_=>by show fts 500 [] S;unfold fts;trivial
 | n + 1,h=>by
  rw[gP,aa,Yc];exact⟨gQ λi hi=>h i 'd',h n (Nat.lt_succ_self _)⟩
theorem gR{α:Type}(f:α->α)(m:Nat):∀(n:Nat) (x:α),itn (λy=>itn f m y) n x=itn f (n * m) x
 | 0,x=>by rw[Nat.zero_mul];rfl
 | n + 1,x=>by
  show itn f m (itn (λy=>itn f m y) n x)=_;rw[gR f m n x,Nat.succ_mul,Nat.add_comm]
  have add:∀(i j:Nat),itn f i (itn f j x)=itn f (i + j) x:=λi j=>by
   induction i with
   | zero=>rw[Nat.zero_add];rfl
   | succ i ih=>rw[Nat.succ_add];show f (itn f i (itn f j x))=f (itn f (i + j) x);rw[ih]
  exact add m (n * m)
def XG(r:Wr)(S:SL):wks [r] S=wk1 r S:=by unfold wks;unfold wks;rfl
def cW(r:Wr)(S:SL):fts 500 [r] S↔ft1 500 r S:=by unfold fts;unfold fts;exact⟨λh=>h.1,λh=>⟨h,trivial⟩⟩
def rK(n1:n<=1000)(h:∀i,i < n->fts 500 a (itn (λT=>wks a T) i S)):ft1 500 (.rnd n a) S:=by unfold ft1;exact⟨n1,h⟩
def cX(a:List Wr)(n:Nat)(S:SL):wk1 (.rnd n a) S=itn (λT=>wks a T) n S:=by unfold wk1;rfl
def BP(n1:n<=1000)(m1:m<=1000)(h:∀i,i < n * m->fts 500 a (itn (λT=>wks a T) i S)):ft1 500 (.rnd n [.rnd m a]) S/\wk1 (.rnd n [.rnd m a]) S=itn (λT=>wks a T) (n * m) S:=by
 have e:(λT=>wks [.rnd m a] T)=λT=>itn (λT=>wks a T) m T:=funext λT=>by rw[XG,cX]
 refine⟨?_,by rw[cX,e,gR]⟩;unfold ft1;rw[e];refine⟨n1,λi hi=>?_⟩;rw[gR,cW];refine rK m1 λj hj=>?_
 have add:∀(i j:Nat) (x:SL),itn (λT=>wks a T) i (itn (λT=>wks a T) j x)=itn (λT=>wks a T) (i + j) x:=λi j x=>by
  induction i with
  | zero=>rw[Nat.zero_add];rfl
  | succ i ih=>rw[Nat.succ_add];show wks a (itn _ i (itn _ j x))=wks a (itn _ (i + j) x);rw[ih]
 rw[add];refine h _ ?_;have:=kD m (show i + 1<=n from hi);rw[Nat.succ_mul]at this;omega
def gS:Gd pool 0 1 ⟨[],[([],1)]⟩:=⟨λp hp=>by rw[jM.mp hp];rfl,jD _,jx,λn h=>(nomatch h),λp hp=>by rw[jM.mp hp];exact⟨1,jD _,by decide +kernel⟩⟩
def BQ:AddOk 500 [] [([],1)]:=rD (D:=1) (M:=1) 'f' (by decide +kernel) (λp hp=>by rw[jM.mp hp];exact⟨1,jD _,by decide +kernel⟩) 'f' (by decide +kernel)
def Gd.gz(g:Gd pool k c S)(c5:c<=500)(k8:k<=80)(ps:xA):∀i,∀r∈gath ps (S.w.take i),sz r.2:=λi r hr=>by
 have hc:=g.cnt;have hl:(S.w.take i).length<=500:=by rw[jT];omega
 exact((rB (XE k) (λp hp=>g.bd p (jm hp)) r hr).mono (kD _ hl)).sz (XE k) (ak k8) (gM k8)
end
def cY:Sp:=λvs H Q _=>∃c k:Int,vs=[.int c,.int k]/\0<=k/\k<=1000/\∀r:Int,0<=r->r < 2147483629->Q (.int r) H
def BR(B:Bl mg)(F:Fn K mg "_law_mixed" bF ["_law_cell", "_law_k"]):Def P w K mg base "_law_mixed" 1 ["_law_cell", "_law_k"] cY:=by
 refine F.ok oO (λvs H Q E h=>?_) (λf xD A outer s H vs Q E hr h=>?_)
 . obtain⟨c,k,rfl,_⟩:=h;rfl
 obtain⟨c,k,rfl,k0,k1,q⟩:=h
 refine⟨_,(@J7 _ _ _ _ _ (Jg (i:=2) oO.nd rfl 'b' (J9 JH (pv 0) J5))
  (@Jc _ _ _ (Ji (J9 JH (J9 Q3 (J9 Q3 (J9 (JB.or (JI.or (JJ.or (JM K rfl)))) (J9 (JB.or (JI.or (JJ.or (JM K rfl)))) (pv 2) (J9 Q3 J5 (pv 1))) J5) J5) (J9 (JB.or (JI.or (JJ.or (JM K rfl)))) (J9 (JB.or (JI.or (JJ.or (JM K rfl)))) (pv 2) (J9 Q3 J5 (pv 1))) J5)) J5)))),?_⟩
 refine⟨_,rfl,_,_,rfl,rfl,(by show(0:Int) < 2147483647;decide),?_⟩;have a0:=qF c (show(2147483647:Int)≠0 by decide);have a1:=ke c (show(0:Int) < 2147483647 by decide);generalize c % 2147483647=u at a0 a1;refine⟨_,rfl,_,rfl,_,_,rfl,rfl,Q8 (m:=6) (n:=11) 'f' 'd' 'f',.inl ⟨_,_,rfl,rfl,.inl ⟨_,_,rfl,rfl,?_⟩⟩⟩;refine⟨_,_,rfl,rfl,Q8 (m:=33) (n:=20) 'd' 'f' 'f',?_⟩;refine⟨_,rfl,_,rfl,_,_,rfl,rfl,Q8 (m:=6) (n:=11) 'f' 'd' 'f',.inl ⟨_,_,rfl,rfl,.inl ⟨_,_,rfl,rfl,?_⟩⟩⟩;refine⟨_,_,rfl,rfl,Q8 (m:=60) (n:=33) 'd' 'd' 'f',_,_,rfl,rfl,(by show(0:Int) < 2147483629;decide),?_⟩;exact q _ (qF _ 'f') (ke _ 'f')
def cell(ns:xA)(k:Int):Int:=ns.getD k.toNat 0
def rL:Sp:=λvs H Q _=>∃a ns k,vs=[.ref a,.int k]/\SqL K H a (ns.map V.int)/\0<=k/\Q (.int (cell ns k)) H
def BS(B:Bl mg)(F:Fn K mg "_law_cell_at" bE ["_law_script", "_law_k"]):Def P w K mg base "_law_cell_at" 1 ["_law_script", "_law_k"] (rL (K:=K)):=by
 refine F.ok Ah (λvs H Q E h=>?_) (λf xD A outer s H vs Q E hr h=>?_)
 . obtain⟨a,ns,k,rfl,_⟩:=h;rfl
 obtain⟨a,ns,k,rfl,hS,hk,q⟩:=h
 refine⟨_,(@J7 _ _ _ _ _ (Js (Jo Yq (pv 1) (Qk (Zi K rfl) rfl B.len PySem.boot_len (J4 (pv 0) J6)) (Jk _)) (@Jc _ _ _ (Ji (Jf (Je K rfl) (pv 0) (pv 1) (λ_ _=>rfl)))) Ju)
  (@Jc _ _ _ (Ji J5))),?_⟩
 refine⟨_,rfl,_,rfl,_,_,rfl,ZK hS,_,_,rfl,rfl,_,rfl,?_⟩;have hl:(ns.map V.int).length=ns.length:=jA _;refine Jt (λc=>?_) (λc=>?_)
 . rw[hl]at c;refine⟨_,rfl,_,rfl,.inl ⟨a,_,_,.int (cell ns k),rfl,rfl,hS,?_,q⟩⟩;have hk':k.toNat < ns.length:=by omega
   have e:k=((k.toNat:Nat):Int):=by omega
   rw[e];refine Qb ?_;rw[jF,jC hk'];show some (V.int ns[k.toNat])=some (V.int (ns.getD _ 0));rw[<- e];simp[List.getD,hk']
 . rw[hl]at c
   have e:cell ns k=0:=by
    unfold cell;rw[jE,qD 'd'];rfl
   rw[e]at q;exact q
def rM:Sp:=λvs H Q _=>∃a b,vs=[.int a,.int b]/\0<=a/\0<=b/\Q (.int (G a b)) H
def BU(B:Bl mg)(F:Fn K mg "_law_common" bG ["_law_one", "_law_other"]):Def P w K mg base "_law_common" 1 ["_law_one", "_law_other"] rM:=by
 refine F.ok oQ (λvs H Q E h=>?_) (λf xD A outer s H vs Q E hr h=>?_)
 . obtain⟨a,b,rfl,_⟩:=h;rfl
 obtain⟨a,b,rfl,ha,hb,q⟩:=h
 refine⟨_,(@J7 _ _ _ _ _ (iD PassesOwn.never (Jo dG (pv 1) J5 (Jk _)) (@Jc _ _ _ (ue (i:=0) (j:=1) rfl oQ.nd rfl rfl 'f' rfl rfl (J4 (pv 1) (J4 (J9 JH (pv 0) (pv 1)) J6)) rfl)))
  (@Jc _ _ _ (Ji (pv 0)))),?_⟩
 refine iJ (λσ H'=>H'=H/\∃x y,σ=[some (.int x),some (.int y)]/\0<=x/\0<=y/\G x y=G a b)
  (λσ _=>match σ with | [_,some (.int y)]=>y.toNat | _=>0) ?_ ?_ ?_
 . exact⟨rfl,_,_,rfl,ha,hb,rfl⟩
 . rintro σ H' ⟨rfl,x,y,rfl,hx,hy,e⟩;walk_at "rd";refine Jt (λc=>?_) (λc=>?_)
   . refine⟨_,rfl,_,rfl,_,rfl,_,_,rfl,rfl,c,?_⟩;walk_at "rd";have h1:=qF x (show y≠0 by omega);have h2:=ke x c;refine⟨⟨rfl,_,_,rfl,hy,h1,(oZ hx c).trans e⟩,?_⟩;show(x % y).toNat < y.toNat;omega
   . walk_at "rd";have:=oY (b:=y) hx 'd';rw[e]at this;show Q (.int x) H';rw[<- this];exact q
 . rintro σ H' R R' m ⟨v,e,h⟩;refine⟨v,e,?_⟩;obtain⟨i,j,e1,e2,k,e3,h⟩:=h;exact⟨i,j,e1,e2,k,e3,m _ _ h⟩
def gU(K:xt):Sp:=λvs H Q _=>∃t b,vs=[.int t,.int b]/\0<=t/\0 < b/\b.natAbs < 2 ^ 8000/\∀p H',Same H H'->H p=none->IsD K H' (dF (Rat.divInt t b)) (.ref p)->Q (.ref p) H'
def BV(B:Bl mg)(gV:Def P w K mg base "_law_common" 1 ["_law_one", "_law_other"] rM)(F:Fn K mg "_law_low" bH ["_law_top", "_law_bottom"]):Def P w K mg base "_law_low" 2 ["_law_top", "_law_bottom"] (gU K):=by
 refine F.ok oR (λvs H Q E h=>?_) (λf xD A outer s H vs Q E hr h=>?_)
 . obtain⟨t,b,rfl,_⟩:=h;rfl
 obtain⟨t,b,rfl,ht,hb,hz,q⟩:=h;have hb0:b≠0:=by omega
 have fr:=cv (t:=t) hb0;have gl:=fM (a:=t) hb0;have g0:=Zn (a:=t) hb0;have gz:(G t b).natAbs < 2 ^ 8000:=by omega
 unfold sg at fr;rw[qg 'd']at fr
 refine⟨_,(@J7 _ _ _ _ _ (Jg (i:=2) oR.nd rfl 'b' (Jh gV hr rfl (J4 (pv 0) (J4 (pv 1) J6))))
  (@Jc _ _ _ (Ji (JV (J4 (J9 aH (pv 0) (pv 2)) (J4 (J9 aH (pv 1) (pv 2)) J6)))))),?_⟩
 refine⟨_,rfl,_,rfl,t,b,rfl,ht,by omega,?_⟩;walk_at "rd";refine⟨⟨by omega,Z3 gz 'f'⟩,?_⟩;walk_at "rd";refine⟨⟨by omega,Z3 gz 'f'⟩,(by show 2<=sizeLine;decide),λp hp=>q p _ (Ja hp _) hp ?_⟩;unfold dF;rw[<- fr.1,<- fr.2];exact YX J8
def Qu(c:Int):Int:=([1,3,5,7,9,11,15,17,19,21,23,25]:xA).getD (c / 26 % 12).toNat 1
def ltr(i:Int):Nat:=97 + (i % 26).toNat
abbrev zro:Str:=(toString (0:Int):String)
def Yd(c:Int):Nat->Str
 | 0 => ""
 | j + 1=>Yd c j ++ ⟨#[ltr (c / 7 + j * j)]⟩
def Zv(c k:Int):Str :=
 if c / 312 % 4=0 then⟨#[ltr (c + k * Qu c)]⟩
 else if c / 312 % 4=1 then Yd c (c / 1248 % 7).toNat ++ ((⟨#[ltr (c + k * Qu c)]⟩:Str) ++ zro)
 else((⟨#[ltr (c + k * Qu c)]⟩:Str) ++ zro) ++ Yd c (c / 1248 % 7).toNat
def rN(i:Int):atI ("abcdefghijklmnopqrstuvwxyz" : Str).cps.toList (i % 26)=some (ltr i):=by
 have h:∀n:Fin 26,atI ("abcdefghijklmnopqrstuvwxyz" : Str).cps.toList ((n.val:Nat):Int)=some (97 + n.val):=by decide +kernel
 have:=h ⟨(i % 26).toNat,by omega⟩;have e:(((i % 26).toNat:Nat):Int)=i % 26:=by omega
 rw[e]at this;exact this
def BW(c:Int):atI [V.int 1,.int 3,.int 5,.int 7,.int 9,.int 11,.int 15,.int 17,.int 19,.int 21,.int 23,.int 25] (c / 26 % 12)=some (.int (Qu c)):=by
 have h:c / 26 % 12=0\/c / 26 % 12=1\/c / 26 % 12=2\/c / 26 % 12=3\/c / 26 % 12=4\/c / 26 % 12=5\/c / 26 % 12=6\/c / 26 % 12=7\/c / 26 % 12=8\/c / 26 % 12=9\/c / 26 % 12=10\/c / 26 % 12=11:=by omega
 unfold Qu;rcases h with h | h | h | h | h | h | h | h | h | h | h | h<;>rw[h]<;>rfl
def BX(c:Int):Qu c∈([1,3,5,7,9,11,15,17,19,21,23,25]:xA):=by
 have h:c / 26 % 12=0\/c / 26 % 12=1\/c / 26 % 12=2\/c / 26 % 12=3\/c / 26 % 12=4\/c / 26 % 12=5\/c / 26 % 12=6\/c / 26 % 12=7\/c / 26 % 12=8\/c / 26 % 12=9\/c / 26 % 12=10\/c / 26 % 12=11:=by omega
 unfold Qu;rcases h with h | h | h | h | h | h | h | h | h | h | h | h<;>rw[h]<;>decide
def gW(a b:Str):(a ++ b).length=a.length + b.length:=Array.size_append ..
theorem gX(c:Int):∀j,(Yd c j).length=j
 | 0=>rfl
 | j + 1=>by show(Yd c j ++ _).length=_;rw[gW,gX c j];rfl
def BY(l:Nat):Txt.slice ((⟨#[l]⟩:Str) ++ zro) none (some (1 + if false=true then 1 else 0))=⟨#[l]⟩:=rfl
def rO:Sp:=λvs H Q _=>∃c k:Int,vs=[.int c,.int k]/\0<=k/\k < 6/\∀H',Same H H'->Q (.str (Zv c k)) H'
def BZ(B:Bl mg)(F:Fn K mg "_law_name" bJ ["_law_cell", "_law_k"]):Def P w K mg base "_law_name" 1 ["_law_cell", "_law_k"] rO:=by
 refine F.ok Z0 (λvs H Q E h=>?_) (λf xD A outer s H vs Q E hr h=>?_)
 . obtain⟨c,k,rfl,_⟩:=h;rfl
 obtain⟨c,k,rfl,k0,k5,q⟩:=h
 refine⟨_,(@J7 _ _ _ _ _ (Jg (i:=2) Z0.nd rfl 'b' Jl)
  (@J7 _ _ _ _ _ (@nA _ 3 _ _ _ _ _ _ _ _ _ _ Z0.nd rfl rfl (Je K rfl) (@Jd _ _ _ _ _ J5 (@Jd _ _ _ _ _ J5 (@Jd _ _ _ _ _ J5 (@Jd _ _ _ _ _ J5 (@Jd _ _ _ _ _ J5 (@Jd _ _ _ _ _ J5 (@Jd _ _ _ _ _ J5 (@Jd _ _ _ _ _ J5 (@Jd _ _ _ _ _ J5 (@Jd _ _ _ _ _ J5 (@Jd _ _ _ _ _ J5 (@Jd _ _ _ _ _ J5 J6 rfl) rfl) rfl) rfl) rfl) rfl) rfl) rfl) rfl) rfl) rfl) rfl) (J9 JH (J9 Q5 (pv 0) J5) J5) (λ_ _=>rfl))
  (@J7 _ _ _ _ _ (Jg (i:=4) Z0.nd rfl 'b' (J9 (JB.or (JI.or (JJ.or (JM K rfl)))) (Jf (Je K rfl) (pv 2) (J9 JH (J9 (JB.or (JI.or (JJ.or (JM K rfl)))) (pv 0) (J9 Q3 (pv 1) (pv 3))) J5) (λ_ _=>rfl)) (QD uw rfl B.str PyProof.Rows.boot_str (J4 (J9 Q5 (pv 1) J5) J6))))
  (@J7 _ _ _ _ _ (Jg (i:=5) Z0.nd rfl 'b' (J9 JH (J9 Q5 (pv 0) J5) J5))
  (@J7 _ _ _ _ _ (Js (Jo (JK.or (Jx.or (JL.or (JN K rfl hr.units)))) (pv 5) J5 (Jk _)) (@Jc _ _ _ (Ji (QP y9 (pv 4) X3 (QE (J9 (JB.or (JI.or (JJ.or (JM K rfl)))) J5 (QD uv rfl B.int PyProof.Rows.boot_int (J4 (X2 dG (pv 1) J5 (Jk _)) J6))))))) Ju)
  (@J7 _ _ _ _ _ (Jg (i:=6) Z0.nd rfl 'b' Jl)
  (@J7 _ _ _ _ _ (Zc PassesOwn.never rfl (XJ rfl B.range (J4 (J9 JH (J9 Q5 (pv 0) J5) J5) J6)) (JD (i:=7) Z0.nd rfl 'b') (@Jc _ _ _ (Jg (i:=6) Z0.nd rfl 'b' (J9 (JB.or (JI.or (JJ.or (JM K rfl)))) (pv 6) (Jf (Je K rfl) (pv 2) (J9 JH (J9 (JB.or (JI.or (JJ.or (JM K rfl)))) (J9 Q5 (pv 0) J5) (J9 Q3 (pv 7) (pv 7))) J5) (λ_ _=>rfl))))))
  (@J7 _ _ _ _ _ (Js (Jo (JK.or (Jx.or (JL.or (JN K rfl hr.units)))) (pv 5) J5 (Jk _)) (@Jc _ _ _ (Ji (J9 (JB.or (JI.or (JJ.or (JM K rfl)))) (pv 6) (pv 4)))) Ju)
  (@Jc _ _ _ (Ji (J9 (JB.or (JI.or (JJ.or (JM K rfl)))) (pv 4) (pv 6)))))))))))),?_⟩
 have si:=BX c
 have sr:1<=Qu c/\Qu c<=25:=by
  simp only[jL,jz,xk]at si;omega
 have k26:k / 26=0:=by omega
 refine⟨(by show 12<=sizeLine;decide),λp np=>?_⟩;have s1:=Ja np (.lst [V.int 1,.int 3,.int 5,.int 7,.int 9,.int 11,.int 15,.int 17,.int 19,.int 21,.int 23,.int 25]);walk_at "rd";refine .inl ⟨p,_,_,.int (Qu c),rfl,rfl,.of J8,BW c,?_⟩;walk_at "rd";refine⟨Q8 (m:=3) (n:=5) 'd' 'd' 'f',?_⟩;walk_at "rd";refine .inr (.inr ⟨_,_,ltr (c + k * Qu c),rfl,rfl,by decide,rN _,?_⟩);walk_at "rd";refine⟨(by rw[k26];decide),?_⟩;rw[k26];have zl:zro.length<=10:=by decide +kernel
 have big:(1000:Nat) < sizeLine:=by decide
 refine .inr (.inl ⟨_,_,rfl,rfl,(by show 1 + zro.length<=sizeLine;omega),?_⟩);walk_at "rd";have nz:=q _ s1;unfold Zv at nz;refine Jt (λh0=>?_) (λh0=>nxt ?_)
 . walk_at "rd";refine⟨(by rw[gW];show 1 + zro.length<=sizeLine;omega),?_⟩;rw[qk (show ¬25 < k by omega)];rw[qh h0,<- BY]at nz;exact nz
 . rw[qg h0]at nz;walk_at "rd";have i7:(c / 1248 % 7).toNat<=6:=by omega
   refine iI (λi σ H'=>H'=_/\∃cj,σ=[some (.int c),some (.int k),some (.str "abcdefghijklmnopqrstuvwxyz"),some (.int (Qu c)),some (.str ((⟨#[ltr (c + k * Qu c)]⟩:Str) ++ zro)),some (.int (c / 312 % 4)),some (.str (Yd c i)),cj]) ⟨rfl,none,rfl⟩ ?_ ?_
   . rintro i σ H' hi ⟨rfl,cj,rfl⟩;rw[Int.zero_add];have ml:=gX c i;walk_at "rd";refine⟨Q8 (m:=3) (n:=3) 'd' 'd' 'f',?_⟩;walk_at "rd";refine .inr (.inr ⟨_,_,ltr (c / 7 + i * i),rfl,rfl,by decide,rN _,?_⟩);refine .inr (.inl ⟨_,_,rfl,rfl,(by show _ + 1<=sizeLine;omega),?_⟩);exact⟨rfl,_,rfl⟩
   . rintro σ H' ⟨rfl,cj,rfl⟩;have ml:=gX c (c / 1248 % 7).toNat;have pl:((⟨#[ltr (c + k * Qu c)]⟩:Str) ++ zro).length<=11:=by rw[gW];show 1 + zro.length<=11;omega
     walk_at "rd";refine Jt (λh1=>?_) (λh1=>nxt ?_)
     . rw[qh h1]at nz;exact⟨_,rfl,_,rfl,.inr (.inl ⟨_,_,rfl,rfl,(by omega),nz⟩)⟩
     . rw[qg h1]at nz;exact⟨_,rfl,_,rfl,.inr (.inl ⟨_,_,rfl,rfl,(by omega),nz⟩)⟩
def hid(A:List J0)(H:Hp):Hp:=λp=>if p∈A then none else H p
def C0(A:List J0)(H:Hp):Same (hid A H) H:=λb o h=>by
 unfold hid at h;split at h
 . cases h
 . exact h
def Zw(hp:p∉A)(h:H p=some o):hid A H p=some o:=by unfold hid;rw[qg hp];exact h
def Ye(s:Same H H'):Same (hid A H) (hid A H'):=λb o e=>by
 unfold hid at e ⊢;split at e
 . cases e
 . rename_i hb;rw[qg hb];exact s b o e
def rP(hp:p∈A):hid A (upd H p o)=hid A H:=funext λb=>by
 unfold hid
 by_cases h:b∈A
 . rw[qh h,qh h]
 . rw[qg h,qg h,Jb (λz:b=p=>h (by rw[z];exact hp))]
def C1(hd:d∈A)(s:∀c o,c≠d->H c=some o->H' c=some o):Same (hid A H) (hid A H'):=λb o e=>by
 unfold hid at e ⊢;split at e
 . cases e
 . rename_i hb;rw[qg hb];exact s b o (λz=>hb (z ▸ hd)) e
def Al(A:List J0)(H:Hp):Prop:=∀a∈A,∃o,H a=some o
def Al.not(h:Al A H)(hp:H p=none):p∉A:=λz=>by
 obtain⟨o,e⟩:=h p z;rw[e]at hp;cases hp
def Al.same(h:Al A H)(e:Same H H'):Al A H':=λa ha=>by
 obtain⟨o,q⟩:=h a ha;exact⟨o,e a o q⟩
def IsA(K:xt)(H0 H:Hp)(dd:D)(x:V):Prop:=∀A,Al A H0->IsD K (hid A H) dd x
theorem IsA.same(h:IsA K H0 H dd x)(s:Same H H'):IsA K H0 H' dd x:=λA a=>(h A a).same (Ye s)
def IsA.back(h:IsA K H1 H dd x)(s:Same H0 H1):IsA K H0 H dd x:=λA a=>h A (a.same s)
def C2(H:Hp):hid [] H=H:=funext λb=>by unfold hid;rw[qg (λz=>nomatch z)]
def IsA.plain(h:IsA K H0 H dd x):IsD K H dd x:=by
 have:=h [] (λ_ z=>nomatch z)
 rwa [C2]at this
def Xg(s:Same H0 H1)(np:H1 p=none)(h:∀A,Al A H0->IsDs K (hid A H1) ds xs):IsA K H0 (upd H1 p (.tup xs)) (.tup ds) (.ref p):=λA a=>by
 have hp:p∉A:=(a.same s).not np;exact⟨p,xs,rfl,.of (Zw hp J8),(h A a).same (Ye (Ja np _))⟩
theorem rQ{P:V->Prop}:∀{l:List Unit}{ys:List V},Paired (λ_ v=>P v) l ys->(∀y∈ys,P y)/\ys.length=l.length
 | _,_,.nil=>⟨λ_ h=>(nomatch h),rfl⟩
 | _,_,.cons h t=>by
  obtain⟨h1,h2⟩:=rQ t;exact⟨λy hy=>(jL.mp hy).elim (λe=>e ▸ h) (h1 y),by rw[jP,jP,h2]⟩
def C3(P:Hp->V->Prop)(mono:∀{H H':Hp}{v:V},Same H H'->P H v->P H' v)(hz:n<=sizeLine)
 (step:∀(i:Nat) (Da:J0) (H':Hp) (R:VK),i < n->Same H H'->H Da=none->(∃o,H' Da=some o)->(∀y xF,Same H' xF->P (Qn Da xF) y->R y xF)->te (some (.int (0 + (i:Nat))) :: cap ix σ) H' R)
 (fin:∀p H' ys,Same H H'->H p=none->H' p=some (.lst ys)->ys.length=n->(∀y∈ys,P H' y)->Q (.ref p) H'):Qg ix te σ Q (Itr 0 n) H :=
 o7 (α:=Unit) (λH _ v=>P H v) (λs h=>mono s h) n (λi => .int (0 + (i:Nat))) (List.replicate n ()) (List.length_replicate ..) hz (λ_ _=>jD _) (λi H' hi sm=>⟨hi,λx xF hy=>⟨hy.2,hy.1⟩⟩) (λi _ Da H' R hi _ sm nD oD hR=>step i Da H' R hi sm nD oD hR)
  λp H' ys s1 np e pr=>by
   obtain⟨h1,h2⟩:=rQ pr;exact fin p H' ys s1 np e (by rw[h2,List.length_replicate]) h1
theorem rR:∀{ys:List V},(∀y∈ys,∃n:Int,y = .int n/\lo<=n/\n<=hi)->∃ws:xA,ys=ws.map V.int/\∀w∈ws,lo<=w/\w<=hi
 | [],_=>⟨[],rfl,λ_ h=>(nomatch h)⟩
 | y :: ys,h=>by
  obtain⟨n,rfl,n0,n1⟩:=h _ (jb ..);obtain⟨ws,rfl,h1⟩:=rR (ys:=ys) λz hz=>h z (jS _ hz);exact⟨n :: ws,rfl,λw hw=>(jL.mp hw).elim (λe=>e ▸ ⟨n0,n1⟩) (h1 w)⟩
theorem rS:∀{ds:List D}{xs:List V},IsDs K H ds xs->IsDs K H ds.reverse xs.reverse
 | [],_,h=>by rw[show _=[] from h];rfl
 | d :: ds,_,⟨x,r,e,h1,h2⟩=>by
  rw[e,List.reverse_cons,List.reverse_cons];exact(rS h2).append ⟨x,[],rfl,h1,rfl⟩
structure Lf (nm:xy) (e:Ex) (h n:Nat):Prop where
 ok:e.ok
 high:e.high<=h
 few:e.rds.length<=n
 sub:∀x∈e.rds,x∈nm
def rT(K:xt):Sp:=λvs H Q _=>∃(c:Int) (l:J0) (nm:xy),vs=[.int c,.ref l]/\0<=c/\c < 2147483629/\SqL K H l (nm.map V.str)/\nm.length<=63/\nm≠[]/\∀(p:J0) (e:Ex) (H':Hp),Same H H'->IsA K H H' (dE e) (.ref p)->Lf nm e 0 1->Q (.ref p) H'
def C4(B:Bl mg)(F:Fn K mg "_law_leaf" bK ["_law_cell", "_law_names"]):Def P w K mg base "_law_leaf" 1 ["_law_cell", "_law_names"] (rT K):=by
 refine F.ok Ai (λvs H Q E h=>?_) (λf xD A outer s H vs Q E hr h=>?_)
 . obtain⟨c,l,nm,rfl,_⟩:=h;rfl
 obtain⟨c,l,nm,rfl,c0,c1,ql,l63,hne,q⟩:=h
 refine⟨_,(@J7 _ _ _ _ _ (Js (Jo (JK.or (Jx.or (JL.or (JN K rfl hr.units)))) (J9 JH (pv 0) J5) J5 (Jk _)) (@J7 _ _ _ _ _ (Js (Jo (JK.or (Jx.or (JL.or (JN K rfl hr.units)))) (J9 JH (J9 Q5 (pv 0) J5) J5) J5 (Jk _)) (@Jc _ _ _ (Ji (JV (J4 Jl (J4 (J9 JH (J9 aA (pv 0) J5) (J9 aA J5 J5)) J6))))) Ju)
  (@Jc _ _ _ (Ji (JV (J4 Jl (J4 (J9 JH (J9 Q5 (pv 0) J5) J5) J6)))))) Ju)
  (@Jc _ _ _ (Ji (JV (J4 Jl (J4 (Jf (Je K rfl) (pv 1) (J9 JH (J9 Q5 (pv 0) J5) (Qk (Zi K rfl) rfl B.len PySem.boot_len (J4 (pv 1) J6))) (λ_ _=>rfl)) J6)))))),?_⟩
 have num:∀(n:Int) (H1:Hp),Same H H1->∀p,H1 p=none->Q (.ref p) (upd H1 p (.tup [.str "num",.int n])):=λn H1 s1 p np =>
  q p (.num n) _ (s1.trans (Ja np _)) (Xg s1 np λA a=>⟨_,_,rfl,rfl,_,_,rfl,rfl,rfl⟩) ⟨trivial,jD _,jX _,λ_ h=>(nomatch h)⟩
 refine⟨_,rfl,_,_,rfl,rfl,(by show(0:Int) < 4;decide),.inl ⟨_,_,rfl,rfl,_,rfl,Jt (λ_=>?_) (λ_=>nxt ?_)⟩⟩
 . refine⟨_,rfl,_,_,rfl,rfl,⟨by decide,by decide⟩,_,_,rfl,rfl,(by show(0:Int) < 8;decide),.inl ⟨_,_,rfl,rfl,_,rfl,Jt (λh=>?_) (λh=>nxt ?_)⟩⟩
   . exact⟨_,rfl,_,_,rfl,rfl,⟨by decide,by decide,by omega⟩,_,_,rfl,rfl,⟨by decide,by decide,by decide⟩,_,_,rfl,rfl,(by show(0:Int) < 10 ^ 60;decide),(by show 2<=sizeLine;decide),λp np=>num _ H (Same.refl _) p np⟩
   . exact⟨_,rfl,_,_,rfl,rfl,⟨by decide,by decide⟩,_,_,rfl,rfl,(by show(0:Int) < 3;decide),(by show 2<=sizeLine;decide),λp np=>num _ H (Same.refl _) p np⟩
 . have lp:0 < nm.length:=List.length_pos_iff.mpr hne;have i0:=qF (c / 4) (show(nm.length:Int)≠0 by omega);have i1:=ke (c / 4) (show(0:Int) < (nm.length:Int) by omega);obtain⟨j,hj,ej⟩:∃j:Nat,j < nm.length/\c / 4 % (nm.length:Int)=(j:Int):=⟨(c / 4 % (nm.length:Int)).toNat,by omega,by omega⟩
   have at_:atI (nm.map V.str) (c / 4 % ((nm.map V.str).length:Int))=some (.str nm[j]):=by
    rw[jA,ej];exact Qb (by rw[jF,jC hj];rfl)
   have hm:=jl hj;generalize nm[j]=n at at_ hm;refine⟨_,rfl,_,rfl,_,_,rfl,rfl,⟨by decide,by decide⟩,_,rfl,_,_,rfl,ZK ql,_,_,rfl,rfl,(by rw[jA];omega),.inl ⟨l,_,_,.str n,rfl,rfl,ql,at_,(by show 2<=sizeLine;decide),λp np=>?_⟩⟩;exact q p (.nam n) _ (Ja np _) (Xg (Same.refl _) np λA a=>⟨_,_,rfl,rfl,_,_,rfl,rfl,rfl⟩) ⟨trivial,jD _,jD _,λx hx=>by rw[jM.mp hx];exact hm⟩
def C5(x:Int):∃s:Str,atI [V.str "",.str "not",.str "+",.str "-",.str "<",.str "=",.str "and",.str "or",.str "pick",.str "="] (x / 7 % 10)=some (.str s)/\(s = "" \/ s = "not" \/ s = "pick" \/ ∃g:Sg,g.two=true/\s=g.str):=by
 have h:x / 7 % 10=0\/x / 7 % 10=1\/x / 7 % 10=2\/x / 7 % 10=3\/x / 7 % 10=4\/x / 7 % 10=5\/x / 7 % 10=6\/x / 7 % 10=7\/x / 7 % 10=8\/x / 7 % 10=9:=by omega
 rcases h with h | h | h | h | h | h | h | h | h | h<;>rw[h]
 . exact⟨_,rfl,.inl rfl⟩
 . exact⟨_,rfl,.inr (.inl rfl)⟩
 . exact⟨_,rfl,.inr (.inr (.inr ⟨.add,rfl,rfl⟩))⟩
 . exact⟨_,rfl,.inr (.inr (.inr ⟨.sub,rfl,rfl⟩))⟩
 . exact⟨_,rfl,.inr (.inr (.inr ⟨.lt,rfl,rfl⟩))⟩
 . exact⟨_,rfl,.inr (.inr (.inr ⟨.eq,rfl,rfl⟩))⟩
 . exact⟨_,rfl,.inr (.inr (.inr ⟨.conj,rfl,rfl⟩))⟩
 . exact⟨_,rfl,.inr (.inr (.inr ⟨.disj,rfl,rfl⟩))⟩
 . exact⟨_,rfl,.inr (.inr (.inl rfl))⟩
 . exact⟨_,rfl,.inr (.inr (.inr ⟨.eq,rfl,rfl⟩))⟩
def C6{g:Sg}(h:g.two=true):g.str ≠ "" /\ g.str ≠ "not" /\ g.str ≠ "pick" := by
 cases g<;>first | exact⟨by decide +kernel,by decide +kernel,by decide +kernel⟩ | (cases h)
def gY(K:xt):Sp:=λvs H Q _=>∃(c:Int) (l:J0) (nm:xy),vs=[.int c,.ref l]/\SqL K H l (nm.map V.str)/\nm.length<=63/\nm≠[]/\∀(p:J0) (e:Ex) (H':Hp),Same H H'->IsA K H H' (dE e) (.ref p)->Lf nm e 1 3->Q (.ref p) H'
def C7(B:Bl mg)(Qp:Def P w K mg base "_law_mixed" 1 ["_law_cell", "_law_k"] cY)(am:Def P w K mg base "_law_leaf" 1 ["_law_cell", "_law_names"] (rT K))(F:Fn K mg "_law_expression" bL ["_law_cell", "_law_names"]):Def P w K mg base "_law_expression" 2 ["_law_cell", "_law_names"] (gY K):=by
 refine F.ok ci (λvs H Q E h=>?_) (λf xD A outer s H vs Q E hr h=>?_)
 . obtain⟨c,l,nm,rfl,_⟩:=h;rfl
 obtain⟨c,l,nm,rfl,ql,l63,hne,q⟩:=h
 refine⟨_,(@J7 _ _ _ _ _ (Jg (i:=2) ci.nd rfl 'b' (Jh am hr rfl (J4 (Jh Qp hr rfl (J4 (pv 0) (J4 J5 J6))) (J4 (pv 1) J6))))
  (@J7 _ _ _ _ _ (Jg (i:=3) ci.nd rfl 'b' (Jh am hr rfl (J4 (Jh Qp hr rfl (J4 (pv 0) (J4 J5 J6))) (J4 (pv 1) J6))))
  (@J7 _ _ _ _ _ (@nA _ 4 _ _ _ _ _ _ _ _ _ _ ci.nd rfl rfl (Je K rfl) (@Jd _ _ _ _ _ Jl (@Jd _ _ _ _ _ Jl (@Jd _ _ _ _ _ Jl (@Jd _ _ _ _ _ Jl (@Jd _ _ _ _ _ Jl (@Jd _ _ _ _ _ Jl (@Jd _ _ _ _ _ Jl (@Jd _ _ _ _ _ Jl (@Jd _ _ _ _ _ Jl (@Jd _ _ _ _ _ Jl J6 rfl) rfl) rfl) rfl) rfl) rfl) rfl) rfl) rfl) rfl) (J9 JH (J9 Q5 (Jh Qp hr rfl (J4 (pv 0) (J4 J5 J6))) J5) J5) (λ_ _=>rfl))
  (@J7 _ _ _ _ _ (Js (Jo (JK.or (Jx.or (JL.or (JN K rfl hr.units)))) (pv 4) Jl (Jk _)) (@Jc _ _ _ (Ji (pv 2))) Ju)
  (@J7 _ _ _ _ _ (Js (Jo (JK.or (Jx.or (JL.or (JN K rfl hr.units)))) (pv 4) Jl (Jk _)) (@Jc _ _ _ (Ji (JV (J4 Jl (J4 (pv 2) J6))))) Ju)
  (@J7 _ _ _ _ _ (Js (Jo (JK.or (Jx.or (JL.or (JN K rfl hr.units)))) (pv 4) Jl (Jk _)) (@Jc _ _ _ (Ji (JV (J4 Jl (J4 (pv 2) (J4 (pv 3) (J4 (Jh am hr rfl (J4 (Jh Qp hr rfl (J4 (pv 0) (J4 J5 J6))) (J4 (pv 1) J6))) J6))))))) Ju)
  (@Jc _ _ _ (Ji (JV (J4 (pv 4) (J4 (pv 2) (J4 (pv 3) J6)))))))))))),?_⟩
 refine⟨_,rfl,c,1,rfl,by decide,by decide,λr r0 r1=>⟨_,rfl,r,l,nm,rfl,r0,r1,ql,l63,hne,λp1 e1 H1 s1 a1 f1=>?_⟩⟩;refine⟨_,rfl,c,2,rfl,by decide,by decide,λr r0 r1=>⟨_,rfl,r,l,nm,rfl,r0,r1,s1.seq ql,l63,hne,λp2 e2 H2 s2 a2 f2=>?_⟩⟩;have s12:=s1.trans s2;have a1':=a1.same s2;have a2':=a2.back s1;refine⟨(by show 10<=sizeLine;decide),λp np=>?_⟩;refine⟨_,rfl,c,3,rfl,by decide,by decide,λr r0 r1=>?_⟩;obtain⟨sg,sa,cs⟩:=C5 r;have s3:=s12.trans (Ja np (.lst [V.str "",.str "not",.str "+",.str "-",.str "<",.str "=",.str "and",.str "or",.str "pick",.str "="]));have b1:=a1'.same (Ja np (.lst [V.str "",.str "not",.str "+",.str "-",.str "<",.str "=",.str "and",.str "or",.str "pick",.str "="]));have b2:=a2'.same (Ja np (.lst [V.str "",.str "not",.str "+",.str "-",.str "<",.str "=",.str "and",.str "or",.str "pick",.str "="]));refine⟨_,_,rfl,rfl,⟨by decide,by decide⟩,_,_,rfl,rfl,(by show(0:Int) < 10;decide),.inl ⟨p,_,_,.str sg,rfl,rfl,.of J8,sa,?_⟩⟩;generalize upd H2 p (.lst [V.str "",.str "not",.str "+",.str "-",.str "<",.str "=",.str "and",.str "or",.str "pick",.str "="])=H3 at s3 b1 b2;clear a1 a2 a1' a2' s1 s2 s12 np sa;have t1:=f1.few;have t2:=f2.few;have g1:=f1.high;have g2:=f2.high;rcases cs with rfl | rfl | rfl | ⟨g,gt,rfl⟩
 . refine⟨_,rfl,.inr (.inl ⟨_,_,rfl,rfl,_,rfl,Jt (λ_=>?_) (λc=>absurd rfl c)⟩)⟩;exact⟨_,rfl,q p1 e1 H3 s3 b1 ⟨f1.ok,by omega,by omega,f1.sub⟩⟩
 . refine⟨_,rfl,.inr (.inl ⟨_,_,rfl,rfl,_,rfl,Jt (λc=>absurd c (by decide +kernel)) (λ_=>nxt ?_)⟩)⟩;refine⟨_,rfl,.inr (.inl ⟨_,_,rfl,rfl,_,rfl,Jt (λ_=>?_) (λc=>absurd rfl c)⟩)⟩;refine⟨_,rfl,(by show 2<=sizeLine;decide),λp np=>q p (.un e1) _ (s3.trans (Ja np _)) (Xg s3 np λA a=>⟨_,_,rfl,rfl,_,_,rfl,b1 A a,rfl⟩) ⟨f1.ok,?_,?_,f1.sub⟩⟩
   . show e1.high + 1<=1;omega
   . show e1.rds.length<=3;omega
 . refine⟨_,rfl,.inr (.inl ⟨_,_,rfl,rfl,_,rfl,Jt (λc=>absurd c (by decide +kernel)) (λ_=>nxt ?_)⟩)⟩;refine⟨_,rfl,.inr (.inl ⟨_,_,rfl,rfl,_,rfl,Jt (λc=>absurd c (by decide +kernel)) (λ_=>nxt ?_)⟩)⟩;refine⟨_,rfl,.inr (.inl ⟨_,_,rfl,rfl,_,rfl,Jt (λ_=>?_) (λc=>absurd rfl c)⟩)⟩;refine⟨_,rfl,_,rfl,_,rfl,c,4,rfl,by decide,by decide,λr r0 r1=>⟨_,rfl,r,l,nm,rfl,r0,r1,s3.seq ql,l63,hne,λp4 e4 H4 s4 a4 f4=>⟨(by show 4<=sizeLine;decide),λp np=>?_⟩⟩⟩;have t4:=f4.few;have g4:=f4.high;refine q p (.pick e1 e2 e4) _ ((s3.trans s4).trans (Ja np _)) (Xg (s3.trans s4) np λA a=>⟨_,_,rfl,rfl,_,_,rfl,b1.same s4 A a,_,_,rfl,b2.same s4 A a,_,_,rfl,a4.back s3 A a,rfl⟩) ⟨⟨f1.ok,f2.ok,f4.ok⟩,?_,?_,?_⟩
   . show max e1.high (max e2.high e4.high) + 1<=1;omega
   . show(e1.rds ++ (e2.rds ++ e4.rds)).length<=3;rw[jI,jI];omega
   . exact λx hx=>(jO.mp hx).elim (f1.sub x) λhx=>(jO.mp hx).elim (f2.sub x) (f4.sub x)
 . obtain⟨n1,n2,n3⟩:=C6 gt;refine⟨_,rfl,.inr (.inl ⟨_,_,rfl,rfl,_,rfl,Jt (λc=>absurd c n1) (λ_=>nxt ?_)⟩)⟩;refine⟨_,rfl,.inr (.inl ⟨_,_,rfl,rfl,_,rfl,Jt (λc=>absurd c n2) (λ_=>nxt ?_)⟩)⟩;refine⟨_,rfl,.inr (.inl ⟨_,_,rfl,rfl,_,rfl,Jt (λc=>absurd c n3) (λ_=>nxt ?_)⟩)⟩;refine⟨_,rfl,_,rfl,_,rfl,(by show 3<=sizeLine;decide),λp np=>q p (.bi g e1 e2) _ (s3.trans (Ja np _)) (Xg s3 np λA a=>⟨_,_,rfl,rfl,_,_,rfl,b1 A a,_,_,rfl,b2 A a,rfl⟩) ⟨⟨gt,f1.ok,f2.ok⟩,?_,?_,?_⟩⟩
   . show max e1.high e2.high + 1<=1;omega
   . show(e1.rds ++ e2.rds).length<=3;rw[jI];omega
   . exact λx hx=>(jO.mp hx).elim (f1.sub x) (f2.sub x)
def OcQ(K:xt)(H0 H:Hp)(o:Int×Rat)(y:V):Prop:=∃(c c2:J0),y = .ref c/\H c=some (.tup [.int o.1,.ref c2])/\IsD K H (dF o.2) (.ref c2)/\H0 c=none/\H0 c2=none
def rV(h:IsD K H (dF r) (.ref p))(g:∀o,H p=some o->H' p=some o):IsD K H' (dF r) (.ref p):=by
 obtain⟨p',ys,e,sq,xG⟩:=h
 cases e
 refine⟨p,ys,rfl,?_,?_⟩
 . rcases sq with (h | ⟨o,h⟩) | h
   . exact .inl (.inl (g _ h))
   . exact .inl (.inr ⟨o,g _ h⟩)
   . exact .inr h
 . obtain⟨_,_,rfl,rfl,_,_,rfl,rfl,rfl⟩:=xG;exact⟨_,_,rfl,rfl,_,_,rfl,rfl,rfl⟩
theorem rW:∀{l:List (Int×Rat)}{ys:List V},Paired (OcQ K H0 H) l ys->∀A,Al A H0->IsDs K (hid A H) (dOs l) ys
 | [],_,.nil=>λ_ _=>rfl
 | p :: l,_,.cons h t=>by
  obtain⟨c,c2,rfl,h1,h2,n1,n2⟩:=h;exact λA al=>⟨_,_,rfl,⟨c,_,rfl,.of (Zw (al.not n1) h1),_,_,rfl,rfl,_,_,rfl,rV h2 (λo e=>Zw (al.not n2) e),rfl⟩,rW t A al⟩
theorem gZ:∀{l:xA}{n:Int},(∀x∈l,0<=x)->n∈l->n<=l.sum
 | a :: l,n,h,hn=>by
  have h0:=h a (jb ..)
  have hs:0<=l.sum:=by
   clear hn
   have:∀l:xA,(∀x∈l,0<=x)->0<=l.sum:=λl=>by
    induction l with
    | nil=>intro _;exact Int.le_refl _
    | cons b l ih =>
     intro h;rw[List.sum_cons];have:=h b (jb ..);have:=ih λx hx=>h x (jS _ hx);omega
   exact this l λx hx=>h x (jS _ hx)
  rw[List.sum_cons];rcases jL.mp hn with e | hn
  . omega
  . have:=gZ (λx hx=>h x (jS _ hx)) hn;omega
theorem rX:∀{l:xA},(∀x∈l,x<=4)->l.sum<=4 * (l.length:Int)
 | [],_=>Int.le_refl _
 | a :: l,h=>by
  have:=h a (jb ..);have:=rX (l:=l) λx hx=>h x (jS _ hx);rw[List.sum_cons,jP];omega
def C8{w W:Int}(h0:0<=w)(h1:w<=W)(h2:1<=W)(h3:W<=12):Bd 27720 27720 (Rat.divInt w W):=by
 obtain⟨t,ht,tp⟩:∃t:Int,W * t=27720/\0 < t:=by
  have:W=1\/W=2\/W=3\/W=4\/W=5\/W=6\/W=7\/W=8\/W=9\/W=10\/W=11\/W=12:=by omega
  rcases this with rfl | rfl | rfl | rfl | rfl | rfl | rfl | rfl | rfl | rfl | rfl | rfl
  . exact⟨27720,by decide,by decide⟩
  . exact⟨13860,by decide,by decide⟩
  . exact⟨9240,by decide,by decide⟩
  . exact⟨6930,by decide,by decide⟩
  . exact⟨5544,by decide,by decide⟩
  . exact⟨4620,by decide,by decide⟩
  . exact⟨3960,by decide,by decide⟩
  . exact⟨3465,by decide,by decide⟩
  . exact⟨3080,by decide,by decide⟩
  . exact⟨2772,by decide,by decide⟩
  . exact⟨2520,by decide,by decide⟩
  . exact⟨2310,by decide,by decide⟩
 have hw:0<=w * t:=Int.mul_nonneg h0 'd';have hw2:w * t<=27720:=by rw[<- ht];exact Int.mul_le_mul_of_nonneg_right h1 'd'
 refine⟨(w * t).toNat,by omega,?_⟩;rw[Int.toNat_of_nonneg hw,show((27720:Nat):Int)=W * t from ht.symm,Rat.divInt_mul_right 'd']
def prq(st:Int)(ws:xA)(W:Int):List (Int×Rat):=(List.range ws.length).map λk=>(st + (0 + (k:Nat)),Rat.divInt (ws.getD k 0) W)
def hG(K:xt):Sp:=λvs H Q _=>∃(c m:Int),vs=[.int c,.int m]/\1<=m/\m<=3/\∀(p:J0) (os:List (Int×Rat)) (H':Hp),Same H H'->IsA K H H' (.lst (dOs os)) (.ref p)->OsG os->os.length=m.toNat->Q (.ref p) H'
def C9(B:Bl mg)(Qp:Def P w K mg base "_law_mixed" 1 ["_law_cell", "_law_k"] cY)(Yg:Def P w K mg base "_law_low" 2 ["_law_top", "_law_bottom"] (gU K))(F:Fn K mg "_law_outcomes" bM ["_law_cell", "_law_many"]):Def P w K mg base "_law_outcomes" 3 ["_law_cell", "_law_many"] (hG K):=by
 refine F.ok ZY (λvs H Q E h=>?_) (λf xD A outer s H vs Q E hr h=>?_)
 . obtain⟨c,m,rfl,_⟩:=h;rfl
 obtain⟨c,m,rfl,m1,m6,q⟩:=h;have big:(100000:Nat) < sizeLine:=by decide
 refine⟨_,(@J7 _ _ _ _ _ (Jg (i:=2) ZY.nd rfl 'b' (J9 Yp (J9 JH (J9 Q5 (pv 0) J5) J5) J5))
  (@J7 _ _ _ _ _ (Js (Jo (JK.or (Jx.or (JL.or (JN K rfl hr.units)))) (J9 JH (J9 Q5 (pv 0) J5) J5) J5 (Jk _)) (@Jc _ _ _ (Jg (i:=2) ZY.nd rfl 'b' (J9 Q3 (J9 JH (J9 aA (Jh Qp hr rfl (J4 (pv 0) (J4 J5 J6))) J5) (J9 aA J5 J5)) (J9 Yp J5 (J9 Q3 J5 (J9 JH (J9 Q5 (pv 0) J5) J5)))))) Ju)
  (@J7 _ _ _ _ _ (Jg (i:=3) ZY.nd rfl 'b' (QQ (CompOk.of (x := "_law_k") (M:=["_law_cell"]) (ix:=[0]) rfl rfl (by decide +kernel) (by decide +kernel) rfl ⟨rfl,trivial⟩ 'g' ⟨⟨rfl,rfl,rfl,rfl⟩,trivial⟩) rfl (by decide +kernel) (XJ rfl B.range (J4 (pv 1) J6)) (λ_ _ _ _ _=>Xp) (λ_ _ _ _ _=>(J9 (JB.or (JI.or (JJ.or (JM K rfl)))) J5 (J9 JH (J9 Q5 (Jh Qp hr rfl (J4 (pv 1) (J4 (J9 (JB.or (JI.or (JJ.or (JM K rfl)))) J5 (pv 0)) J6))) J5) J5)))))
  (@J7 _ _ _ _ _ (Jg (i:=4) ZY.nd rfl 'b' (Qk (zh K rfl rfl) rfl B.sum PyProof.Rows.boot_sum (J4 (pv 3) J6)))
  (@J7 _ _ _ _ _ (m8 (j:=5) ZY.nd rfl rfl (CompOk.of (x := "_law_k") (M:=["_law_start", "_law_whole", "_law_weights"]) (ix:=[2,4,3]) rfl rfl (by decide +kernel) (by decide +kernel) rfl ⟨rfl,⟨rfl,⟨rfl,trivial⟩⟩⟩ 'g' ⟨⟨rfl,rfl,rfl,rfl⟩,⟨⟨rfl,rfl,rfl,rfl⟩,⟨⟨rfl,rfl,rfl,rfl⟩,trivial⟩⟩⟩) rfl (by decide +kernel) (XJ rfl B.range (J4 (pv 1) J6)) (λ_ _ _ _ _=>Xp) (λ_ _ _ _ _=>(JV (J4 (J9 (JB.or (JI.or (JJ.or (JM K rfl)))) (pv 1) (pv 0)) (J4 (Jh Yg hr rfl (J4 (Jf (Je K rfl) (pv 3) (pv 0) (λ_ _=>rfl)) (J4 (pv 2) J6))) J6)))))
  (@J7 _ _ _ _ _ (Js (Jo (JK.or (Jx.or (JL.or (JN K rfl hr.units)))) (J9 JH (Jh Qp hr rfl (J4 (pv 0) (J4 J5 J6))) J5) J5 (Jk _)) (@Jc _ _ _ (Ji (yo K rfl rfl rfl B.list PyProof.Rows.boot_list rfl B.reversed PyProof.Rows.boot_reversed (pv 5)))) Ju)
  (@Jc _ _ _ (Ji (pv 5))))))))),?_⟩
 refine⟨_,rfl,_,_,rfl,rfl,⟨by decide,by decide⟩,_,_,rfl,rfl,(by show(0:Int) < 5;decide),_,_,rfl,rfl,?_⟩;refine⟨_,rfl,_,_,rfl,rfl,⟨by decide,by decide⟩,_,_,rfl,rfl,(by show(0:Int) < 8;decide),.inl ⟨_,_,rfl,rfl,_,rfl,AW (λσ H'=>H'=H/\∃st:Int,σ=[some (.int c),some (.int m),some (.int st),none,none,none]) ?_ (λ_ R hR=>?_) (λ_ R hR=>hR _ _ ⟨rfl,_,rfl⟩)⟩⟩
 rotate_left
 . refine⟨_,rfl,c,3,rfl,by decide,by decide,λr r0 r1=>?_⟩;refine⟨_,_,rfl,rfl,⟨by decide,by decide,by omega⟩,_,_,rfl,rfl,⟨by decide,by decide,by decide⟩,_,_,rfl,rfl,(by show(0:Int) < 10 ^ 59;decide),?_⟩;have e0:=qF (r ^ Int.toNat 7) (show(10:Int) ^ Int.toNat 59≠0 by decide);have e1:=ke (r ^ Int.toNat 7) (show(0:Int) < 10 ^ Int.toNat 59 by decide);generalize r ^ Int.toNat 7 % 10 ^ Int.toNat 59=z at e0 e1;have e2:(10:Int) ^ Int.toNat 59=10 ^ 59:=rfl;rw[e2]at e1;refine⟨_,rfl,_,_,rfl,rfl,⟨by decide,by decide⟩,_,_,rfl,rfl,(by show(0:Int) < 2;decide),_,_,rfl,rfl,Q8 (m:=3) (n:=3) 'f' 'd' 'f',_,_,rfl,rfl,_,_,rfl,rfl,Q8 (m:=200) (n:=3) 'd' 'd' 'f',hR _ _ ⟨rfl,_,rfl⟩⟩
 rintro σ H' ⟨rfl,st,rfl⟩;have mN:m.toNat<=3/\1<=m.toNat:=by omega
 -- weights
 refine eJ ⟨_,rfl,m,rfl,by omega,by omega,?_⟩;refine C3 (λ_ y=>∃n:Int,y = .int n/\1<=n/\n<=4) (λ_ h=>h) 'd' (λi Da H1 R hi s1 _ _ hR=>?_) (λwa H1 ys s1 nwa ewa lys hys=>?_)
 . refine⟨_,rfl,_,rfl,.inl ⟨_,_,rfl,rfl,c,_,rfl,by omega,by omega,λr r0 r1=>⟨_,_,rfl,rfl,⟨by decide,by decide⟩,_,_,rfl,rfl,(by show(0:Int) < 4;decide),.inl ⟨_,_,rfl,rfl,hR _ _ (Same.refl _) ⟨_,rfl,by omega,by omega⟩⟩⟩⟩⟩
 obtain⟨ws,rfl,hws⟩:=rR hys;rw[jA]at lys;have lws:=lys;dsimp only[Jm];have s4:=rX (l:=ws) λn hn=>(hws n hn).2
 have sp:1<=ws.sum:=by
  match ws,lws,hws with
  | [],h,_=>rw[kU]at h;omega
  | a :: r,_,hw =>
   have h1:=(hw a (jb ..)).1;have h2:=gZ (l:=a :: r) (λn hn=>by have:=(hw n hn).1;omega) (jb ..);omega
 refine⟨_,rfl,wa,ws,rfl,.of ewa,(λn hn=>⟨by have:=(hws n hn).1;omega,by have:=(hws n hn).2;omega⟩),by omega,?_⟩;obtain⟨W,eW⟩:∃W,W=ws.sum:=⟨_,rfl⟩;rw[<- eW]at sp s4 ⊢;dsimp only[Jm];refine eJ ⟨_,rfl,m,rfl,by omega,by omega,?_⟩;have lp:(prq st ws W).length=m.toNat:=by unfold prq;rw[jA,kR];exact lws
 refine o7 (OcQ K H') (fun {H2 H3 p v} sm ⟨c,c2,h1,h2,h3,h4⟩=>⟨c,c2,h1,sm _ _ h2,h3.same sm,h4⟩) m.toNat (λi => .int (0 + (i:Nat))) (prq st ws W) lp 'd' (λ_ _=>jD _) (λi H' hi sm=>⟨hi,λx xF hy=>⟨hy.2,hy.1⟩⟩) (λi pq Da H2 R hi ei s2 nD oD hR=>?_) (λpa H2 ys s2 npa epa prd=>?_)
 . obtain⟨o,eD⟩:=oD;have hi':i < ws.length:=by omega
   have epq:pq=(st + (0 + (i:Nat)),Rat.divInt ws[i] W):=by
    unfold prq at ei;rw[jF,List.getElem?_range hi']at ei;have ei:=(Option.some.inj ei).symm;dsimp only at ei;rw[jE,jC hi']at ei;exact ei
   subst epq;have at_:atI (ws.map V.int) (0 + (i:Nat))=some (.int ws[i]):=by rw[Int.zero_add];exact Qb (by rw[jF,jC hi'];rfl)
   have hw:=hws _ (jl hi');refine⟨_,rfl,_,rfl,.inl ⟨_,_,rfl,rfl,_,rfl,_,rfl,.inl ⟨wa,_,_,.int ws[i],rfl,rfl,.of (s2 _ _ ewa),at_,_,rfl,ws[i],W,rfl,by omega,by omega,js (show W.natAbs<=12 by omega) (by decide +kernel),λp2 H3 s3 np2 e2=>⟨(by show 2<=sizeLine;decide),λp3 np3=>?_⟩⟩⟩⟩;have s4:=Ja np3 (.tup [V.int (st + (0 + (i:Nat))),.ref p2]);have nD2:p2≠Da:=λz=>by rw[z,eD]at np2;cases np2
   have nD3:p3≠Da:=λz=>by rw[z,s3 _ _ eD]at np3;cases np3
   refine hR _ _ (s3.trans s4) ⟨p3,p2,rfl,?_,?_,(s1.trans s2).free (s3.free np3),(s1.trans s2).free np2⟩
   . rw[nZ nD3,J8]
   . exact rV (e2.same s4) λo e=>by rw[nZ nD2];exact e
 have oz:=rW prd
 have og:OsG (prq st ws W):=⟨by omega,by omega,λo ho=>by
  unfold prq at ho;obtain⟨i,hi,rfl⟩:=jW.mp ho;have hi:=kh.mp hi;have e:ws.getD i 0=ws[i]:=by rw[jE,jC hi];rfl
  have hm:=jl hi;have hw:=hws _ hm;have:=gZ (l:=ws) (λn hn=>by have:=(hws n hn).1;omega) hm;show Bd 27720 27720 (Rat.divInt (ws.getD i 0) W);rw[e];exact C8 'd' 'd' 'd' 'd'⟩
 have npH:H' pa=none:=s1.free npa;generalize prq st ws W=os at oz og lp;refine⟨_,rfl,c,5,rfl,by decide,by decide,λr r0 r1=>⟨_,_,rfl,rfl,(by show(0:Int) < 2;decide),.inl ⟨_,_,rfl,rfl,_,rfl,Jt (λ_=>?_) (λ_=>nxt ?_)⟩⟩⟩
 . refine⟨_,rfl,pa,_,rfl,.of epa,λl nl=>?_⟩;have sL:=Ja nl (.lst ys.reverse);exact q l os.reverse _ ((s1.trans s2).trans sL) (λA al=>⟨l,_,rfl,.of (Zw (al.not ((s1.trans s2).free nl)) J8),by unfold dOs;rw[List.map_reverse];exact(rS (oz A al)).same (Ye sL)⟩) ⟨by rw[List.length_reverse];exact og.one,by rw[List.length_reverse];exact og.few,λo ho=>og.bd o (List.mem_reverse.mp ho)⟩ (by rw[List.length_reverse];exact lp)
 . exact⟨_,rfl,q pa os _ (s1.trans s2) (λA al=>⟨pa,_,rfl,.of (Zw (al.not npH) epa),oz A al⟩) og lp⟩
theorem Xh:∀(a:List Wr) {b:List Wr}{nm:xy},PR pool nm a->PR pool (nmA nm a) b->PR pool nm (a ++ b)
 | [],_,_,_,h=>h
 | .draw x os :: l,_,_,⟨h1,h2,h3⟩,h=>⟨h1,h2,Xh l h3 h⟩
 | .lett x e :: l,_,_,⟨h1,h2,h3⟩,h=>⟨h1,h2,Xh l h3 h⟩
 | .seen e :: l,_,_,⟨h1,h2⟩,h=>⟨h1,Xh l h2 h⟩
theorem QA:∀(a:List Wr) (b:List Wr) (nm:xy),nmA nm (a ++ b)=nmA (nmA nm a) b
 | [],_,_=>rfl
 | .draw x os :: l,b,nm=>QA l b (adN nm x)
 | .lett x e :: l,b,nm=>QA l b (adN nm x)
 | .seen e :: l,b,nm=>QA l b nm
 | .ifr .. :: l,b,nm=>QA l b nm
 | .rnd .. :: l,b,nm=>QA l b nm
 | .call .. :: l,b,nm=>QA l b nm
theorem Qv:∀(a b:List Wr),fac (a ++ b)=fac a * fac b
 | [],b=>by show fac b=1 * fac b;omega
 | .draw x os :: l,b=>by show os.length * fac (l ++ b)=os.length * fac l * fac b;rw[Qv l b,Nat.mul_assoc]
 | .lett x e :: l,b=>Qv l b
 | .seen e :: l,b=>Qv l b
 | .ifr .. :: l,b=>Qv l b
 | .rnd .. :: l,b=>Qv l b
 | .call .. :: l,b=>Qv l b
theorem Zx:∀(a b:List Wr),hiW (a ++ b)=max (hiW a) (hiW b)
 | [],b=>by show hiW b=max 0 (hiW b);omega
 | r :: l,b=>by show max r.hi (hiW (l ++ b))=max (max r.hi (hiW l)) (hiW b);rw[Zx l b];omega
theorem QW:∀{a:List Wr}{nm:xy},PR pool nm a->hiW a=0
 | [],_,_=>rfl
 | .draw x os :: l,_,⟨_,_,h⟩=>by show max 0 (hiW l)=0;rw[QW h];rfl
 | .lett x e :: l,_,⟨_,_,h⟩=>by show max 0 (hiW l)=0;rw[QW h];rfl
 | .seen e :: l,_,⟨_,h⟩=>by show max 0 (hiW l)=0;rw[QW h];rfl
theorem Xi:∀(a:List Wr) (nm:xy),(nmA nm a).length<=nm.length + a.length
 | [],nm=>jD _
 | .draw x os :: l,nm=>by have:=Xi l (adN nm x);have h:(adN nm x).length<=nm.length + 1:=(by unfold adN;split<;>simp);show(nmA (adN nm x) l).length<=_;rw[jP];omega
 | .lett x e :: l,nm=>by have:=Xi l (adN nm x);have h:(adN nm x).length<=nm.length + 1:=(by unfold adN;split<;>simp);show(nmA (adN nm x) l).length<=_;rw[jP];omega
 | .seen e :: l,nm=>by have:=Xi l nm;show(nmA nm l).length<=_;rw[jP];omega
 | .ifr .. :: l,nm=>by have:=Xi l nm;show(nmA nm l).length<=_;rw[jP];omega
 | .rnd .. :: l,nm=>by have:=Xi l nm;show(nmA nm l).length<=_;rw[jP];omega
 | .call .. :: l,nm=>by have:=Xi l nm;show(nmA nm l).length<=_;rw[jP];omega
def Lf.wx(l:Lf nm e h n)(h9:h<=9)(n12:n<=12):Wx nm e:=⟨⟨l.ok,by have:=l.high;omega,by have:=l.few;omega⟩,λx hx=>l.sub x ((Z5 e).mp hx)⟩
def hJ(a b:List Wr):dWs (a ++ b)=dWs a ++ dWs b:=by rw[Xf,Xf,Xf,jo]
def rY(n:b≠a)(s:SmA a H H')(h:SqL K H b xs):SqL K H' b xs:=by
 rcases h with (h | ⟨o,h⟩) | h
 . exact .inl (.inl (s _ _ n h))
 . exact .inl (.inr ⟨o,s _ _ n h⟩)
 . exact .inr h
def Ca{cs:xA}{nm:xy}(e:H a=some (.lst (nm.map V.str)))(ne:nm≠[])(s:SmA a H H')(h:SqL K H b (cs.map V.int)):SqL K H' b (cs.map V.int):=by
 by_cases c:b=a
 . subst c;rcases h with (h | ⟨o,h⟩) | h
   . rw[e]at h
     cases nm with
     | nil=>exact absurd rfl ne
     | cons x nm =>
      cases cs with
      | nil=>cases h
      | cons y cs=>cases h
   . rw[e]at h;cases h
   . exact .inr h
 . exact rY c s h
structure RA (K:xt) (H0:Hp) (na ra:J0) (nm:xy) (rs:List Wr) (ys:List V) (H:Hp):Prop where
 sm:SmA na H0 H
 ra0:H0 ra=none
 ne:ra≠na
 er:H ra=some (.lst ys)
 en:H na=some (.lst (nm.map V.str))
 ds:IsDs K (hid [na,ra] H) (dWs rs) ys
section
variable {H0 H H':Hp}{na ra:J0}{nm:xy}{rs:List Wr}{ys:List V}
theorem RA.same(r:RA K H0 na ra nm rs ys H)(s:Same H H'):RA K H0 na ra nm rs ys H':=⟨λb u n h=>s _ _ (r.sm b u n h),r.ra0,r.ne,s _ _ r.er,s _ _ r.en,r.ds.same (Ye s)⟩
def RA.al(r:RA K H0 na ra nm rs ys H):Al [na,ra] H:=λa ha=>by
 rcases jL.mp ha with e | ha
 . rw[e];exact⟨_,r.en⟩
 . rw[jM.mp ha];exact⟨_,r.er⟩
def RA.add(r:RA K H0 na ra nm rs ys H)(d:IsD K (hid [na,ra] H) (dW x) y):RA K H0 na ra nm (rs ++ [x]) (ys ++ [y]) (upd H ra (.lst (ys ++ [y]))):=by
 refine⟨λb u n h=>?_,r.ra0,r.ne,J8,by rw[Jb r.ne.symm];exact r.en,?_⟩
 . rw[Jb (Jv h r.ra0)];exact r.sm b u n h
 . rw[rP 'j',hJ];exact r.ds.append ⟨y,[],rfl,d,rfl⟩
def RA.nam(r:RA K H0 na ra nm rs ys H):RA K H0 na ra (nm ++ [x]) rs ys (upd H na (.lst (nm.map V.str ++ [.str x]))):=by
 refine⟨λb u n h=>?_,r.ra0,r.ne,by rw[Jb r.ne];exact r.er,by rw[J8,jo];rfl,by rw[rP 'j'];exact r.ds⟩;rw[Jb n];exact r.sm b u n h
def RA.len(r:RA K H0 na ra nm rs ys H):ys.length=rs.length:=by
 have:=r.ds.length;rw[Xf,jA]at this;exact this
end
def LW(K:xt)(H:Hp)(a:J0)(rs:List Wr):Prop:=∃ys,H a=some (.lst ys)/\IsDs K H (dWs rs) ys
theorem LW.same(h:LW K H a rs)(s:Same H H'):LW K H' a rs:=by
 obtain⟨ys,h1,h2⟩:=h;exact⟨ys,s _ _ h1,h2.same s⟩
def LW.isd(h:LW K H a rs):IsD K H (.lst (dWs rs)) (.ref a):=by
 obtain⟨ys,h1,h2⟩:=h;exact⟨a,ys,rfl,.of h1,h2⟩
def LW.len{H:Hp}{a:J0}{rs:List Wr}{ys:List V}(h:IsDs K H (dWs rs) ys):ys.length=rs.length:=by
 have:=h.length;rw[Xf,jA]at this;exact this
def rZ(K:xt):Sp:=λvs H Q _=>∃(ca na pa:J0) (cs:xA) (nm pool:xy) (m:Nat),vs=[.ref ca,.ref na,.ref pa,.int (m:Nat)]/\SqL K H ca (cs.map V.int)/\cs.length<=10/\H na=some (.lst (nm.map V.str))/\nm≠[]/\nm.length<=40/\SqL K H pa (pool.map V.str)/\pool≠[]/\pool.length<=10/\pa≠na/\1<=m/\m<=2 /\
 ∀(ra:J0) (rs:List Wr) (H':Hp),SmA na H H'->H ra=none->H' na=some (.lst ((nmA nm rs).map V.str))->LW K (hid [na] H') ra rs->PR pool nm rs->rs.length=cs.length->fac rs<=(m + 1) ^ m->Q (.ref ra) H'
def Cb(B:Bl mg)(Qp:Def P w K mg base "_law_mixed" 1 ["_law_cell", "_law_k"] cY)(Zy:Def P w K mg base "_law_expression" 2 ["_law_cell", "_law_names"] (gY K))(Yh:Def P w K mg base "_law_outcomes" 3 ["_law_cell", "_law_many"] (hG K))(F:Fn K mg "_law_rows" bN ["_law_cells", "_law_names", "_law_pool", "_law_most"]):Def P w K mg base "_law_rows" 4 ["_law_cells", "_law_names", "_law_pool", "_law_most"] (rZ K):=by
 refine F.ok Zk (λvs H Q E h=>?_) (λf xD A outer s H vs Q E hr h=>?_)
 . obtain⟨ca,na,pa,cs,nm,pool,m,rfl,_⟩:=h;rfl
 obtain⟨ca,na,pa,cs,nm,pool,m,rfl,qc,c10,hna,nne,n40,qp,pne,p10,pna,m1,m2,q⟩:=h
 refine⟨_,(@J7 _ _ _ _ _ (Jg (i:=4) Zk.nd rfl 'b' (Qw J6))
  (@J7 _ _ _ _ _ (Jg (i:=5) Zk.nd rfl 'b' J5)
  (@J7 _ _ _ _ _ (Zc PassesOwn.never rfl (Qi (pv 0)) (JD (i:=6) Zk.nd rfl 'b') (@J7 _ _ _ _ _ (Jg (i:=7) Zk.nd rfl 'b' (Jf (Je K rfl) (pv 2) (J9 JH (Jh Qp hr rfl (J4 (pv 6) (J4 J5 J6))) (Qk (Zi K rfl) rfl B.len PySem.boot_len (J4 (pv 2) J6))) (λ_ _=>rfl)))
  (@J7 _ _ _ _ _ (Jg (i:=8) Zk.nd rfl 'b' (Jh Zy hr rfl (J4 (J9 Q5 (pv 6) J5) (J4 (pv 1) J6))))
  (@Jc _ _ _ (Js (Jo (JK.or (Jx.or (JL.or (JN K rfl hr.units)))) (J9 JH (pv 6) J5) J5 (Jk _)) (@Jc _ _ _ (Qa (XM PySem.F.plainAttrs_list PySem.F.slot_list_append PySem.F.type_list_append Zf (pv 4) (J4 (JV (J4 Jl (J4 (JV (J4 Jl (J4 (pv 8) (J4 (Jh Zy hr rfl (J4 (Jh Qp hr rfl (J4 (pv 6) (J4 J5 J6))) (J4 (pv 1) J6))) J6)))) J6))) J6)))) (@J7 _ _ _ _ _ (Js (PW.pt (tU (Jo Yq (J9 JH (pv 6) J5) J5 (Jk _)) (tQ (Jo Yq (pv 5) (pv 3) (Jk _))))) (@J7 _ _ _ _ _ (Jg (i:=5) Zk.nd rfl 'b' (J9 (JB.or (JI.or (JJ.or (JM K rfl)))) (pv 5) J5))
  (@Jc _ _ _ (Qa (XM PySem.F.plainAttrs_list PySem.F.slot_list_append PySem.F.type_list_append Zf (pv 4) (J4 (JV (J4 Jl (J4 (pv 7) (J4 (Jh Yh hr rfl (J4 (pv 6) (J4 (J9 (JB.or (JI.or (JJ.or (JM K rfl)))) J5 (J9 Q5 (J9 Q3 (J9 JH (J9 Q5 (pv 6) J5) J5) (pv 3)) J5)) J6))) J6)))) J6))))) (@Jc _ _ _ (Qa (XM PySem.F.plainAttrs_list PySem.F.slot_list_append PySem.F.type_list_append Zf (pv 4) (J4 (JV (J4 Jl (J4 (pv 7) (J4 (pv 8) J6)))) J6)))))
  (@Jc _ _ _ (Js (Jo (iS.or (mj K rfl)) (pv 7) (pv 1) 'g') (@Jc _ _ _ (Qa (XM PySem.F.plainAttrs_list PySem.F.slot_list_append PySem.F.type_list_append Zf (pv 1) (J4 (pv 7) J6)))) Ju))))))))
  (@Jc _ _ _ (Ji (pv 4)))))),?_⟩
 have big:(10000:Nat) < sizeLine:=by decide
 refine⟨jX _,λra nra=>?_⟩;have rne:ra≠na:=(Jv hna nra).symm;have R0:RA K H na ra nm [] [] (upd H ra (.lst [])):=⟨SmA.of (Ja nra _),nra,rne,J8,by rw[Jb rne.symm];exact hna,rfl⟩;have qc0:SqL K (upd H ra (.lst [])) ca (cs.map V.int):=(Ja nra _).seq qc;dsimp only[Jm,List.set,L2.JS]
 refine⟨_,rfl,ca,rfl,⟨_,qc0⟩,X1 (K:=K) (xs:=cs.map V.int) (λi σ H'=>∃(rs:List Wr) (ys:List V) (mn:Nat) (c6 c7 c8:Option V),σ=[some (.ref ca),some (.ref na),some (.ref pa),some (.int (m:Nat)),some (.ref ra),some (.int (mn:Nat)),c6,c7,c8]/\RA K H na ra (nmA nm rs) rs ys H'/\PR pool nm rs/\rs.length=i/\mn<=m/\fac rs<=(m + 1) ^ mn)
  ⟨[],[],0,none,none,none,rfl,R0,trivial,rfl,jX _,jD _⟩ (λi σ H' _ h=>by obtain⟨rs,ys,mn,c6,c7,c8,_,R,_⟩:=h;exact Ca hna nne R.sm qc) ?_ ?_⟩
 . rintro i x σ H1 hx ⟨rs,ys,mn,c6,c7,c8,rfl,R,pr,lr,mm,fb⟩
   obtain⟨c,ec,rfl⟩:∃c,cs[i]? = some c/\x = .int c:=by
    rw[jF]at hx
    cases e:cs[i]? with
    | none=>rw[e]at hx;cases hx
    | some c=>rw[e]at hx;cases hx;exact⟨c,rfl,rfl⟩
   have hi:=(jJ.mp ec).1;have yl:=R.len;have qp1:=rY pna R.sm qp;have lp:0 < pool.length:=List.length_pos_iff.mpr pne;have ln:=Xi rs nm
   have nne':nmA nm rs≠[]:=λz=>by
    cases nm with
    | nil=>exact nne rfl
    | cons x nm =>
     have:=QV rs (nm:=x :: nm) x (jb ..);rw[z]at this;cases this
   refine⟨_,rfl,_,rfl,c,9,rfl,by decide,by decide,λr r0 r1=>?_⟩;have i0:=qF r (show(pool.length:Int)≠0 by omega);have i1:=ke r (show(0:Int) < (pool.length:Int) by omega);obtain⟨j,hj,ej⟩:∃j:Nat,j < pool.length/\r % (pool.length:Int)=(j:Int):=⟨(r % (pool.length:Int)).toNat,by omega,by omega⟩
   have at_:atI (pool.map V.str) (r % ((pool.map V.str).length:Int))=some (.str pool[j]):=by
    rw[jA,ej];exact Qb (by rw[jF,jC hj];rfl)
   have hm:=jl hj;generalize pool[j]=xn at at_ hm;refine⟨_,rfl,_,_,rfl,ZK qp1,_,_,rfl,rfl,(by rw[jA];omega),.inl ⟨pa,_,_,.str xn,rfl,rfl,qp1,at_,?_⟩⟩;dsimp only[Jm,List.set];refine⟨_,rfl,_,_,rfl,rfl,⟨by decide,by decide⟩,_,rfl,_,na,nmA nm rs,rfl,.of R.en,by omega,nne',λpe e H2 s2 a2 f2=>?_⟩;dsimp only[Jm,List.set];have R2:=R.same s2;refine⟨_,rfl,_,_,rfl,rfl,(by show(0:Int) < 9;decide),.inl ⟨_,_,rfl,rfl,_,rfl,Jt (λh8=>?_) (λh8=>?_)⟩⟩
   . -- seen
     refine⟨_,rfl,.inl ⟨rfl,_,.of R2.er⟩,_,rfl,_,rfl,c,10,rfl,by decide,by decide,λr' r0' r1'=>⟨_,rfl,r',na,nmA nm rs,rfl,.of R2.en,by omega,nne',λpf f H3 s3 a3 f3=>⟨by show 3<=sizeLine;decide,λp4 n4=>⟨by show 2<=sizeLine;decide,λp5 n5=>?_⟩⟩⟩⟩;have s4:=Ja n4 (.tup [.str "or",.ref pe,.ref pf]);have s5:=Ja n5 (.tup [.str "seen",.ref p4]);have s25:=s3.trans (s4.trans s5);have R5:=R2.same s25;refine⟨ra,ys,.ref p5,rfl,rfl,R5.er,by omega,?_⟩;have d4:IsA K H1 (upd H3 p4 (.tup [.str "or",.ref pe,.ref pf])) (dE (.bi .disj e f)) (.ref p4):=Xg (ds:=[.str "or",dE e,dE f]) (s2.trans s3) n4 λA a=>⟨_,_,rfl,rfl,_,_,rfl,a2.same s3 A a,_,_,rfl,a3.back s2 A a,rfl⟩
     have d5:IsA K H1 (upd (upd H3 p4 (.tup [.str "or",.ref pe,.ref pf])) p5 (.tup [.str "seen",.ref p4])) (dW (.seen (.bi .disj e f))) (.ref p5) :=
      Xg (ds:=[.str "seen",dE (.bi .disj e f)]) ((s2.trans s3).trans s4) n5 λA a=>⟨_,_,rfl,rfl,_,_,rfl,d4 A a,rfl⟩
     have wx:Wx (nmA nm rs) (.bi .disj e f):=by
      have h1:=f2.high;have h2:=f3.high;have h3:=f2.few;have h4:=f3.few;refine(show Lf (nmA nm rs) (.bi .disj e f) 2 6 from⟨⟨rfl,f2.ok,f3.ok⟩,?_,?_,?_⟩).wx 'd' 'd'
      . show max e.high f.high + 1<=2;omega
      . show(e.rds ++ f.rds).length<=6;rw[jI];omega
      . exact λx hx=>(jO.mp hx).elim (f2.sub x) (f3.sub x)
     have pr5:PR pool nm (rs ++ [.seen (.bi .disj e f)]):=Xh rs pr (show Wx _ _/\True from⟨wx,trivial⟩);have R6:=R5.add (d5 _ R.al);refine⟨rs ++ [.seen (.bi .disj e f)],ys ++ [.ref p5],mn,_,_,_,rfl,?_,pr5,by rw[jI,lr];rfl,mm,by rw[Qv];show fac rs * 1<=_;omega⟩;rw[QA];exact R6
   . -- a name is given
     refine pO (λσ H5=>∃(r:Wr) (mn':Nat) (ys':List V),σ=[some (.ref ca),some (.ref na),some (.ref pa),some (.int (m:Nat)),some (.ref ra),some (.int (mn':Nat)),some (.int c),some (.str xn),some (.ref pe)]/\nmA (nmA nm rs) [r]=adN (nmA nm rs) xn/\RA K H na ra (nmA nm rs) (rs ++ [r]) ys' H5/\PR pool nm (rs ++ [r])/\mn'<=m/\fac (rs ++ [r])<=(m + 1) ^ mn') (λR' hR'=>?_) ?_
     . have letC:iz (tBM K "list" lK (Ym 4) (Jy (Zd (Jy (tC (V.str (Str.ofString "let"))) (Jy (Ym 7) (Jy (Ym 8) JR)))) JR)) { nx:=R',rt:=Q } [some (.ref ca),some (.ref na),some (.ref pa),some (.int (m:Nat)),some (.ref ra),some (.int (mn:Nat)),some (.int c),some (.str xn),some (.ref pe)] H2:=by
        refine⟨_,rfl,.inl ⟨rfl,_,.of R2.er⟩,_,rfl,_,rfl,by show 3<=sizeLine;decide,λp5 n5=>?_⟩;have s5:=Ja n5 (.tup [.str "let",.str xn,.ref pe]);have R5:=R2.same s5;refine⟨ra,ys,.ref p5,rfl,rfl,R5.er,by omega,?_⟩;have d5:IsA K H1 (upd H2 p5 (.tup [.str "let",.str xn,.ref pe])) (dW (.lett xn e)) (.ref p5):=Xg s2 n5 λA a=>⟨_,_,rfl,rfl,_,_,rfl,rfl,_,_,rfl,a2 A a,rfl⟩;refine hR' _ _ ⟨.lett xn e,mn,_,rfl,rfl,R5.add (d5 _ R.al),Xh rs pr (show _∈pool/\Wx _ _/\True from⟨hm,f2.wx 'd' 'd',trivial⟩),mm,by rw[Qv];show fac rs * 1<=_;omega⟩
       refine⟨_,rfl,_,_,rfl,rfl,(by show(0:Int) < 9;decide),_,_,rfl,rfl,_,rfl,Jt (λh4=>?_) (λh4=>ZG letC)⟩;refine⟨_,rfl,_,rfl,_,_,rfl,rfl,_,rfl,Jt (λhlt=>?_) (λhlt=>letC)⟩;have hlt:mn < m:=by omega
       refine⟨_,rfl,.inl ⟨_,_,rfl,rfl,?_⟩⟩;dsimp only[Jm,List.set];have mo:IntMulOk (c / 9 % 2) (m:Nat):=Q8 (m:=3) (n:=3) 'd' 'd' 'f';have z0:0<=c / 9 % 2/\c / 9 % 2<=1:=by omega
       have md:m=1\/m=2:=by omega
       have kb:2<=2 + c / 9 % 2 * (m:Nat) / 2/\2 + c / 9 % 2 * (m:Nat) / 2<=(m:Nat) + 1:=by
        rcases md with rfl | rfl<;>omega
       refine⟨_,rfl,.inl ⟨rfl,_,.of R2.er⟩,_,rfl,_,rfl,_,rfl,_,_,rfl,rfl,⟨by decide,by decide⟩,_,_,rfl,rfl,(by show(0:Int) < 2;decide),_,rfl,_,_,rfl,rfl,mo,_,_,rfl,rfl,⟨by decide,by decide⟩,.inl ⟨_,_,rfl,rfl,c,_,rfl,by omega,by omega,λpo os H3 s3 a3 og ol=>⟨by show 3<=sizeLine;decide,λp5 n5=>?_⟩⟩⟩;have s5:=Ja n5 (.tup [.str "draw",.str xn,.ref po]);have R5:=R2.same (s3.trans s5);refine⟨ra,ys,.ref p5,rfl,rfl,R5.er,by omega,?_⟩;have d5:IsA K H1 (upd H3 p5 (.tup [.str "draw",.str xn,.ref po])) (dW (.draw xn os)) (.ref p5):=Xg (s2.trans s3) n5 λA a=>⟨_,_,rfl,rfl,_,_,rfl,rfl,_,_,rfl,a3.back s2 A a,rfl⟩;refine hR' _ _ ⟨.draw xn os,mn + 1,_,rfl,rfl,R5.add (d5 _ R.al),Xh rs pr (show _∈pool/\OsG _/\True from⟨hm,og,trivial⟩),hlt,?_⟩;rw[Qv];show fac rs * (os.length * 1)<=_;rw[Nat.mul_one,Nat.pow_succ];exact qA fb 'd'
     . rintro σ H5 ⟨r,mn',ys',rfl,er,R5,pr5,mm5,fb5⟩;refine⟨_,rfl,_,rfl,.inr ⟨na,_,rfl,.inl (.of R5.en),rfl,XV _,_,rfl,?_⟩⟩;show if (!inV (.str xn) ((nmA nm rs).map V.str))=true then _ else _;rw[Yx];refine XQ (λhn=>?_) (λhn=>?_)
       . refine⟨_,rfl,.inl ⟨rfl,_,.of R5.en⟩,_,rfl,na,_,.str xn,rfl,rfl,R5.en,by rw[jA];omega,?_⟩;refine⟨rs ++ [r],ys',mn',_,_,_,rfl,?_,pr5,by rw[jI,lr];rfl,mm5,fb5⟩;rw[QA,er,show adN (nmA nm rs) xn=nmA nm rs ++ [xn] from qg hn];exact R5.nam
       . refine nxt ⟨rs ++ [r],ys',mn',_,_,_,rfl,?_,pr5,by rw[jI,lr];rfl,mm5,fb5⟩;rw[QA,er,show adN (nmA nm rs) xn=nmA nm rs from qh hn];exact R5
 . rintro σ H1 ⟨rs,ys,mn,c6,c7,c8,rfl,R,pr,lr,mm,fb⟩;rw[jA]at lr;refine⟨_,rfl,q ra rs H1 R.sm nra R.en ⟨ys,Zw (by simp[rne]) R.er,R.ds.same ?_⟩ pr lr (jh fb (kj 'd' mm))⟩;intro b o h;unfold hid at h ⊢;split at h
   . cases h
   . rename_i hb;rw[qg (λz=>hb (by simp at z;simp[z]))];exact h
def Cc(n:Nat)(xs:Nat->V)(hz:n<=sizeLine)(I:Nat->J0->List V->Hp->Prop)
 (JS:∀Da,H Da=none->I 0 Da [] (upd H Da (.lst []))) (xH:∀i Da ys H',I i Da ys H'->ys.length=i)
 (hstop:∀Da ys H',I n Da ys H'->J.stop n H') (hgo:∀i Da ys H',i < n->I i Da ys H'->J.go i H'/\∀x xF,J.yld i H' x xF->x=xs i/\xF=H')
 (step:∀(i:Nat) (Da:J0) (ys:List V) (H':Hp) (R:VK),i < n->I i Da ys H'->(∀y xF,xF Da=some (.lst ys)->I (i + 1) Da (ys ++ [y]) (upd xF Da (.lst (ys ++ [y])))->R y xF)->te (some (xs i) :: cap ix σ) H' R)
 (fin:∀Da ys H',I n Da ys H'->Q (.ref Da) H'):Qg ix te σ Q J H:=by
 intro Da hD;refine⟨λi m H'=>m=n - i/\i<=n/\∃ys,I i Da ys H',⟨n,by simp,jX _,[],JS Da hD⟩,?_⟩;rintro i m H' ⟨rfl,hi,ys,hI⟩
 by_cases hlt:i < n
 . obtain⟨g,y⟩:=hgo i Da ys H' hlt hI;refine .inr ⟨g,λx xF hy=>?_⟩;obtain⟨rfl,rfl⟩:=y x xF hy;show te (some (xs i) :: cap ix σ) xF _;refine step i Da ys xF _ hlt hI λy H3 e3 h3=>?_;have:=xH i Da ys _ hI;exact⟨ys,e3,by omega,n - (i + 1),by omega,rfl,hlt,_,h3⟩
 . have e:i=n:=by omega
   subst e;exact .inl ⟨hstop Da ys H' hI,fin Da ys H' hI⟩
def Cd(rows:xA)(xs:Nat->V)(hz:rows.length<=sizeLine)(hstop:∀H',Same H H'->J.stop rows.length H')
 (hgo:∀i H',i < rows.length->Same H H'->J.go i H'/\∀x xF,J.yld i H' x xF->x=xs i/\xF=H') (step:∀(i:Nat) (x:Int) (H':Hp) (R:VK),rows[i]? = some x->Same H H'->(∀xF,Same H' xF->R (.int x) xF)->te (some (xs i) :: cap ix σ) H' R)
 (fin:∀p H',Same H H'->H p=none->H' p=some (.lst (rows.map V.int))->Q (.ref p) H'):Qg ix te σ Q J H:=by
 refine Cc rows.length xs hz (λi Da ys H'=>Same H H'/\H Da=none/\H' Da=some (.lst ys)/\i<=rows.length/\ys=(rows.take i).map V.int) (λDa f=>⟨Ja f _,f,J8,jX _,rfl⟩) (λi Da ys H' h=>by rw[h.2.2.2.2,jA,jT];have:=h.2.2.2.1;omega) (λDa ys H' h=>hstop H' h.1) (λi Da ys H' hi h=>hgo i H' hi h.1) (λi Da ys H' R hi h hR=>?_) (λDa ys H' h=>?_)
 . obtain⟨s,f,hD,_,rfl⟩:=h;obtain⟨x,ex⟩:∃x,rows[i]? = some x:=⟨_,jC hi⟩;refine step i x H' _ ex s λxF s'=>hR _ _ (s' _ _ hD) ⟨XR f (s.trans s'),f,J8,hi,?_⟩;rw[k9,ex,jo];rfl
 . obtain⟨s,f,hD,_,rfl⟩:=h;rw[jk]at hD;exact fin Da H' s f hD
def se(s:SmA a H H')(e:H' a=some u):Same (upd H a u) H':=λb o h=>by
 by_cases c:b=a
 . subst c;rw[J8]at h;rw[<- h];exact e
 . rw[Jb c]at h;exact s b o c h
section
variable {H H':Hp}{a:J0}{kvs:List (List Key×V)}{u:HO}
def Ce(e:H a=some (.dT kvs))(e':H' a=some u)(s:SmA a H H')(h:IsDs K H ds vs):IsDs K H' ds vs:=(Y6 (QI e) (λys z=>by rw[e]at z;cases z) (λo ys z=>by rw[e]at z;cases z) ds vs h).same (se s e')
def sf(e:H a=some (.dT kvs))(e':H' a=some u)(s:SmA a H H')(h:SqL K H b xs):SqL K H' b xs:=(se s e').seq (SqL.noL (λys z=>by rw[e]at z;cases z) (λo ys z=>by rw[e]at z;cases z) h)
end
theorem sh:∀{ns:xA}{ys:List V},IsDs K H (ns.map D.int) ys->ys=ns.map V.int
 | [],_,h=>h
 | _ :: ns,_,⟨x,r,e1,e2,e3⟩=>by
  have e2:x = .int _:=e2;have e3:=sh (ns:=ns) e3;rw[e1,e2,e3];rfl
def sj{r:Rat}{w:V}(h:IsD K H (dF r) w):∃q,w = .ref q/\SqT K H q [.int r.num,.int (r.den:Int)]:=by
 obtain⟨q,ys,rfl,sq,v1,_,rfl,e1,v2,_,rfl,e2,rfl⟩:=h;have e1:v1 = .int r.num:=e1;have e2:v2 = .int (r.den:Int):=e2;subst e1 e2;exact⟨q,rfl,sq⟩
def Cf(hS:SqL K' H a xs):(∀H',Same H H'->(Itl K' a).stop xs.length H')/\∀i H',i < xs.length->Same H H'->(Itl K' a).go i H'/\∀x xF,(Itl K' a).yld i H' x xF->x=xs.getD i .non/\xF=H':=by
 refine⟨λH' sm=>⟨xs,sm.seq hS,jD _⟩,λi H' hi sm=>⟨⟨xs,xs[i],sm.seq hS,jC hi⟩,λx xF hy=>?_⟩⟩;obtain⟨e,y⟩:=hy;refine⟨?_,e⟩;have:=y xs (sm.seq hS);rw[jE,this];rfl
def Cg(h:Qc acc k=some r):∃g∈acc,g.2=r:=by
 unfold Qc at h;obtain⟨p,hp,e⟩:=jj.mp h;exact⟨p,List.mem_of_find?_eq_some hp,e⟩
def Ch(h:te σ H (λv H'=>u D' (σ.set i (some v)) H')):XI (X0 te (Jm i)) u D' σ H:=h
def Ci(h:wi σ H (Qg ix te σ λx H1=>r [x] H1 Q)):tCB r (Jy (QF ix wi X4 te) JR) σ H Q:=h
def Cj{ns:xy}{v:xA}{x:Str}(hx:x∈ns)(hl:v.length=ns.length):atI (v.map V.int) ((ns.idxOf x:Nat):Int)=some (.int (bk ns v x)):=by
 have hi:ns.idxOf x < v.length:=by rw[hl];exact jv.mpr hx
 refine Qb ?_;rw[jF,jC hi];unfold bk;rw[jE,jC hi];rfl
def sk(K:xt):Sp:=λvs H Q _=>∃(x:V) (sa sd:J0) (ns ss:xy) (qs acc:List (xA×Rat)) (ks:List (xA×V)),vs=[x,.ref sa,.ref sd]/\IsD K H (.tup [.tup (ns.map D.str),.lst (qs.map QH)]) x/\SqL K H sa (ss.map V.str)/\H sd=some (.dT (kz ks))/\Acc K H acc ks/\(∀n∈ss,n∈ns)/\ss.length<=60/\ns.length<=60/\(∀p∈qs,p.1.length=ns.length)/\qs.length<=500/\acc.length<=500 /\
 (∀p∈qs,sz p.2/\0<=p.2)/\(∀i,∀g∈gaR acc ((Jj ns ss qs).take i),sz g.2/\0<=g.2)/\∀(H':Hp) (ks':List (xA×V)),SmA sd H H'->H' sd=some (.dT (kz ks'))->Acc K H' (gaR acc (Jj ns ss qs)) ks'->Q .non H'
def Ck(B:Bl mg)(Yg:Def P w K mg base "_law_low" 2 ["_law_top", "_law_bottom"] (gU K))(F:Fn K mg "_law_put" bO ["_law_table", "_law_names", "_law_sums"]):Def P w K mg base "_law_put" 3 ["_law_table", "_law_names", "_law_sums"] (sk K):=by
 refine F.ok Zl (λvs H Q E h=>?_) (λf xD A outer s H vs Q E hr h=>?_)
 . obtain⟨x,sa,sd,ns,ss,qs,acc,ks,rfl,_⟩:=h;rfl
 obtain⟨x,sa,sd,ns,ss,qs,acc,ks,rfl,dx,qs_,ed,ac,sub,s60,n60,len,q5,a5,zq,zg,q⟩:=h
 refine⟨_,(@J7 _ _ _ _ _ (Jg (i:=3) Zl.nd rfl 'b' (QD (eM K rfl) rfl B.list PyProof.Rows.boot_list (@Jd _ _ _ _ _ (Jf (Je K rfl) (pv 0) J5 (λ_ _=>rfl)) J6 rfl)))
  (@Jc _ _ _ (Zc PassesOwn.never rfl (Qi (Jf (Je K rfl) (pv 0) J5 (λ_ _=>rfl))) (QZ rfl (JZ (JD (i:=4) Zl.nd rfl 'b') (JZ (JD (i:=5) Zl.nd rfl 'b') QY))) (@J7 _ _ _ _ _ (Jg (i:=6) Zl.nd rfl 'b' (QD (aN K rfl) rfl B.tuple PyProof.Rows.boot_tuple (@Jd _ _ _ _ _ (QQ (CompOk.of (x := "_law_name_here") (M:=["_law_values", "_law_here"]) (ix:=[4,3]) rfl rfl (by decide +kernel) (by decide +kernel) rfl ⟨rfl,⟨rfl,trivial⟩⟩ 'g' ⟨⟨rfl,rfl,rfl,rfl⟩,⟨⟨rfl,rfl,rfl,rfl⟩,trivial⟩⟩) rfl (by decide +kernel) (Qi (pv 1)) (λ_ _ _ _ _=>Xp) (λ_ _ _ _ _=>(yc K rfl (Je K rfl) (pv 1) (pv 2) (pv 0)))) J6 rfl)))
  (@J7 _ _ _ _ _ (uc (vW (Xm hr) (pv 2) (pv 6) (@Yy _ _ _ _ _ _ _ J5 J5 rfl rfl) ⟨rfl,rfl,rfl,rfl⟩) (QZ rfl (JZ (JD (i:=7) Zl.nd rfl 'b') (JZ (JD (i:=8) Zl.nd rfl 'b') QY))))
  (@Jc _ _ _ (eA (Xm hr) (pv 2) (pv 6) (Jh Yg hr rfl (@Jd _ _ _ _ _ (J9 (JB.or (JI.or (JJ.or (JM K rfl)))) (J9 Q3 (pv 7) (Jf (Je K rfl) (pv 5) J5 (λ_ _=>rfl))) (J9 Q3 (Jf (Je K rfl) (pv 5) J5 (λ_ _=>rfl)) (pv 8))) (@Jd _ _ _ _ _ (J9 Q3 (pv 8) (Jf (Je K rfl) (pv 5) J5 (λ_ _=>rfl))) J6 rfl) rfl)) rfl))))))),?_⟩
 have big:(10000:Nat) < sizeLine:=by decide
 obtain⟨t,ys,rfl,qt,v0,_,rfl,⟨tn,zs,rfl,qn,dn⟩,v1,_,rfl,⟨l,xs,rfl,ql,dl⟩,rfl⟩:=dx;rw[fD dn]at qn;have xl:=dl.length;rw[jA]at xl;refine⟨_,rfl,.inr (.inl ⟨t,_,0,.ref tn,rfl,rfl,qt,Q1,tn,_,rfl,.inr qn,λhl nhl=>?_⟩)⟩;have s0:=Ja nhl (.lst (ns.map V.str));have eh:(upd H hl (.lst (ns.map V.str))) hl=some (.lst (ns.map V.str)):=J8;have hsd:hl≠sd:=(Jv ed nhl).symm;dsimp only[Jm,List.set,L2.JS];generalize upd H hl (.lst (ns.map V.str))=H0 at s0 eh ⊢
 refine⟨_,rfl,.inr (.inl ⟨t,_,1,.ref l,rfl,rfl,s0.tupq qt,QK,l,rfl,⟨_,s0.seq ql⟩,X1 (K:=K) (xs:=xs) (λi σ H'=>SmA sd H H'/\∃(ks':List (xA×V)) (c4 c5 c6 c7 c8:Option V),σ=[some (.ref t),some (.ref sa),some (.ref sd),some (.ref hl),c4,c5,c6,c7,c8]/\H' hl=some (.lst (ns.map V.str))/\H' sd=some (.dT (kz ks'))/\Acc K H' (gaR acc ((Jj ns ss qs).take i)) ks')
  ⟨SmA.of s0,ks,none,none,none,none,none,rfl,eh,s0 _ _ ed,ac.mono λr v h=>h.same s0⟩ (λi σ H' _ h=>by obtain⟨sm,ks',c4,c5,c6,c7,c8,_,_,e',_⟩:=h;exact sf ed e' sm ql) ?_ ?_⟩)⟩
 . rintro i z σ H1 hz ⟨sm,ks1,c4,c5,c6,c7,c8,rfl,eh1,ed1,ac1⟩;have hi:i < qs.length:=by have:=(jJ.mp hz).1;omega
   obtain⟨pq,epq⟩:∃pq,pq=qs[i]:=⟨_,rfl⟩;have hpm:pq∈qs:=by rw[epq];exact jl hi
   have xH:=len pq hpm;obtain⟨zs1,zp0⟩:=zq pq hpm;obtain⟨y,ey,dy⟩:=(Ce ed ed1 sm dl).get (i:=i) (d:=QH pq) (by rw[jF,jC hi,epq];rfl);obtain rfl:z=y:=by rw[hz]at ey;exact Option.some.inj ey
   obtain⟨tr,_,rfl,qtr,_,_,rfl,⟨tv,vs,rfl,qtv,dvs⟩,pp,_,rfl,dpf,rfl⟩:=dy;rw[sh dvs]at qtv;obtain⟨tp,rfl,qtp⟩:=sj dpf;refine⟨tr,_,rfl,qtr,rfl,_,_,rfl,_,_,rfl,rfl,?_⟩;have hL8:=sf ed ed1 sm qs_;have gi:=Cf hL8;have gl:(ss.map (bk ns pq.1)).length=(ss.map V.str).length:=by rw[jA,jA]
   obtain⟨key,ekey⟩:∃key,key=ss.map (bk ns pq.1):=⟨_,rfl⟩
   have ecut:(Jj ns ss qs)[i]? = some (key,pq.2):=by
    unfold Jj;rw[jF,jC hi,ekey,epq];rfl
   refine Ch (Ci ⟨_,rfl,sa,rfl,⟨_,hL8⟩,Cd (ss.map (bk ns pq.1)) (λi=>(ss.map V.str).getD i .non) (by rw[jA];omega) (λH' sm=>by rw[gl];exact gi.1 H' sm) (λj H' hj sm=>gi.2 j H' (by rw[<- gl];exact hj) sm) (λj x H3 R ex s3 hR=>?_) (λp5 H3 s3 f5 e5=>?_)⟩)
   . rw[jF]at ex;obtain⟨x0,en,rfl⟩:=jj.mp ex;have nx:(ss.map V.str).getD j .non = .str x0:=by rw[jE,jF,en];rfl
     rw[nx];have hm:=sub x0 (jq en);have hn:=jv.mpr hm;obtain⟨e1,e2⟩:=pU hn;exact⟨_,rfl,_,rfl,.inl ⟨rfl,_,.of (s3 _ _ eh1)⟩,_,rfl,hl,ns.map V.str,.str x0,ns.idxOf x0,by rw[jA];exact hn,rfl,rfl,s3 _ _ eh1,rfl,XV _,e1,e2,.inr (.inl ⟨tv,_,_,.int (bk ns pq.1 x0),rfl,rfl,s3.tupq qtv,Cj hm xH,hR H3 (Same.refl _)⟩)⟩
   rw[<- ekey]at e5;refine⟨p5,_,rfl,.inl ⟨.of e5,λkp f6=>?_⟩⟩;have s4:=Ja f6 (.tup (key.map V.int));have e6:(upd H3 kp (.tup (key.map V.int))) kp=some (.tup (key.map V.int)):=J8;generalize upd H3 kp (.tup (key.map V.int))=H4 at s4 e6 ⊢;have s84:=s3.trans s4;have ed4:=s84 _ _ ed1;dsimp only[Jm];refine⟨_,rfl,sd,rfl,.inr ⟨_,.inl ed4⟩,_,rfl,by show 2<=sizeLine;decide,λdp f7=>?_⟩;have s5:=Ja f7 (.tup [V.int 0,.int 1]);have e7:(upd H4 dp (.tup [V.int 0,.int 1])) dp=some (.tup [V.int 0,.int 1]):=J8;have e67:=s5 _ _ e6;generalize upd H4 dp (.tup [V.int 0,.int 1])=H9 at s5 e7 e67 ⊢;have s89:=s84.trans s5;have ed9:=s5 _ _ ed4;have ac9:Acc K H9 (gaR acc ((Jj ns ss qs).take i)) ks1:=ac1.mono λr v h=>h.same s89;have zgi:=zg i;have gsn:=pY (acc:=acc) ecut;have kl:=ac9.length;have gle:=Z8 ((Jj ns ss qs).take i) acc;rw[jT]at gle;generalize gaR acc ((Jj ns ss qs).take i)=G at ac9 zgi gsn kl gle;refine⟨_,DGet.t (k:=key.map Sum.inl) ed9 (by rw[X6];exact e67),?_⟩;obtain⟨r,er⟩:∃r,r=(Qc G key).getD 0:=⟨_,rfl⟩
   have dw:IsD K H9 (dF r) ((Q4 (kz ks1) (key.map Sum.inl)).getD (.ref dp)):=by
    rcases ac9.val key with ⟨h1,h2⟩ | ⟨r',v',h1,h2,h3⟩
    . rw[h2,er,h1];exact⟨dp,_,rfl,.of e7,_,_,rfl,rfl,_,_,rfl,rfl,rfl⟩
    . rw[h2,er,h1];exact h3
   have ad:JG G key pq.2=JU G key (r + pq.2):=by
    unfold JG;rw[er]
    cases Qc G key with
    | none=>show JU _ _ _=JU _ _ (0 + _);rw[Rat.zero_add]
    | some r'=>rfl
   have rl:sz r/\0<=r:=by
    cases ev:Qc G key with
    | none =>
     rw[ev]at er;subst er;exact⟨⟨Nat.pow_pos 'f',Nat.one_lt_two_pow 'f'⟩,by decide⟩
    | some r' =>
     rw[ev]at er;obtain⟨gg,hgg,e1⟩:=Cg ev;have:=zgi gg hgg;rw[e1]at this;have er:r=r':=er;rw[er];exact this
   obtain⟨w,ew,sw⟩:=sj dw;rw[ew];refine⟨w,_,rfl,sw,rfl,_,_,rfl,_,_,rfl,rfl,?_⟩;obtain⟨⟨zn,zd⟩,r0⟩:=rl;obtain⟨zn2,zd2⟩:=zs1;have rn0:=Rat.num_nonneg.mpr r0;have pn0:=Rat.num_nonneg.mpr zp0;have rd0:=r.den_pos;have pd0:=pq.2.den_pos;have zdI:((r.den:Nat):Int).natAbs < 2 ^ 2000:=by rw[Int.natAbs_natCast];exact zd
   have zdI2:((pq.2.den:Nat):Int).natAbs < 2 ^ 2000:=by rw[Int.natAbs_natCast];exact zd2
   have qtp9:=s89.tupq qtp;refine⟨_,rfl,_,rfl,.inr (.inl ⟨tp,_,1,.int (pq.2.den:Int),rfl,rfl,qtp9,QK,_,_,rfl,rfl,Q8 zn zdI2 'f',?_⟩)⟩;refine⟨_,rfl,.inr (.inl ⟨tp,_,0,.int pq.2.num,rfl,rfl,qtp9,Q1,_,rfl,_,_,rfl,rfl,Q8 zn2 zdI 'f',.inl ⟨_,_,rfl,rfl,?_⟩⟩)⟩;refine⟨_,rfl,_,rfl,.inr (.inl ⟨tp,_,1,.int (pq.2.den:Int),rfl,rfl,qtp9,QK,_,_,rfl,rfl,Q8 zdI zdI2 'f',?_⟩)⟩;have rdp:(0:Int) < (r.den:Int):=by omega
   have pdp:(0:Int) < (pq.2.den:Int):=by omega
   have zz:((r.den:Int) * (pq.2.den:Int)).natAbs < 2 ^ 8000:=by
    rw[Int.natAbs_mul];have h1:=qA (kE zdI) (kE zdI2);rw[<- Nat.pow_add]at h1;exact js h1 (Nat.pow_lt_pow_right 'f' 'f')
   refine⟨_,_,rfl,Int.add_nonneg (Int.mul_nonneg rn0 (Int.le_of_lt pdp)) (Int.mul_nonneg pn0 (Int.le_of_lt rdp)),Int.mul_pos rdp pdp,zz,λvp HA sA nvp dvp=>?_⟩
   have ev:Rat.divInt (r.num * (pq.2.den:Int) + pq.2.num * (r.den:Int)) ((r.den:Int) * (pq.2.den:Int))=r + pq.2:=by
    conv=>rhs;rw[<- kY r,<- kY pq.2]
    rw[Rat.divInt_add_divInt _ _ 'd' 'd']
   rw[ev]at dvp;have edA:=sA _ _ ed9;have e67A:=sA _ _ e67;have lz:(kz ks1).length < sizeLine:=by unfold kz;rw[jA];omega
   refine⟨_,rfl,_,rfl,sd,_,rfl,DPut.t (k:=key.map Sum.inl) edA (by rw[X6];exact e67A) lz,?_⟩;have s1A:=s89.trans sA;refine⟨λb u n h=>by rw[Jb n];exact s1A _ _ (sm b u n h),JU ks1 key (.ref vp),_,_,_,_,_,rfl,by rw[Jb hsd];exact s1A _ _ eh1,by rw[J8,fZ],?_⟩;rw[gsn,ad];exact((ac9.mono λr v h=>h.same sA).set dvp).mono (g9 edA)
 . rintro σ H1 ⟨sm,ks1,c4,c5,c6,c7,c8,rfl,eh1,ed1,ac1⟩;rw[ji (by unfold Jj;rw[jA];omega)]at ac1;exact q H1 ks1 sm ed1 ac1
def S0:SL:=⟨[],[([],1)]⟩
structure StOk (k:Nat) (rs:List Wr):Prop where
 hi:hiW rs < 6
 ft:fts 500 rs S0
 gd:∃pool:xy,pool.length<=60/\Gd pool k 500 (wks rs S0)
def su(T:SL)(qs:List (xA×Rat)):D := .tup [.tup ((srt T.ns).map D.str),.lst (qs.map QH)]
structure Tb (T:SL) (qs:List (xA×Rat)):Prop where
 pm:qs.Perm (gath (plc T.ns (srt T.ns)) T.w)
 pw:qs.Pairwise (λp q=>HT.lexLt p.1 q.1=true)
def Tb.uniq(h:Tb T a)(h':Tb T b):a=b:=by
 refine List.Perm.eq_of_pairwise (λx y _ _ h1 h2=>?_) h.pw h'.pw (h.pm.trans h'.pm.symm);have:=b7 h1 h2;rw[L2.YG]at this;cases this
theorem sB:∀rs:List (xA×Rat),D.deeps (rs.map QH)<=2
 | []=>jX _
 | r :: rs=>by
  have h:=sB rs
  have hI:∀l:xA,D.deeps (l.map D.int)=0:=λl=>by
   induction l with
   | nil=>rfl
   | cons a l ih=>show max 0 (D.deeps (l.map D.int))=0;rw[ih];rfl
  have h2:=hI r.1;show max (max (D.deeps (r.1.map D.int) + 1) (max (max 0 (max 0 0) + 1) 0) + 1) (D.deeps (rs.map QH))<=2;omega
theorem sD:∀ns:xy,D.deeps (ns.map D.str)=0
 | []=>rfl
 | n :: ns=>by show max 0 _=0;rw[sD ns];rfl
def hU(ns:xy)(qs:List (xA×Rat)):(D.tup [.tup (ns.map D.str),.lst (qs.map QH)]).deep<=60:=by
 have h1:=sD ns;have h2:=sB qs;show max (D.deeps (ns.map D.str) + 1) (max (D.deeps (qs.map QH) + 1) 0) + 1<=60;omega
def hX(K:xt):Sp:=λvs H Q _=>∃(rl:J0) (rs:List Wr) (x0:Str) (os0:List (Int×Rat)) (l0:List Wr) (k:Nat),vs=[.ref rl]/\IsD K H (.lst (dWs rs)) (.ref rl)/\rs = .draw x0 os0 :: l0/\StOk k rs/\k<=80 /\
 ∀(x:V) (H':Hp) (qs:List (xA×Rat)),Same H H'->Tb (wks rs S0) qs->IsD K H' (su (wks rs S0) qs) x->Q x H'
def Cl(B:Bl mg)(Cm:DefD P w K mg base "states" 33 ["program", "most"] (.int 500) (gF K))(F:Fn K mg "_law_behind" bP ["_law_rows_here"]):Def P w K mg base "_law_behind" 34 ["_law_rows_here"] (hX K):=by
 refine F.ok Aj (λvs H Q E h=>?_) (λf xD A outer s H vs Q E hr h=>?_)
 . obtain⟨rl,rs,x0,os0,l0,k,rfl,_⟩:=h;rfl
 obtain⟨rl,rs,x0,os0,l0,k,rfl,dr,ers,⟨hi,ft,pool,p6,gd⟩,k8,q⟩:=h;refine⟨_,(@Jc _ _ _ (Ji (zQ Cm hr rfl zM (J4 (JV (J4 (Qw J6) (J4 (pv 0) (J4 (Qw (J4 (Jf (Je K rfl) (Jf (Je K rfl) (pv 0) J5 (λ_ _=>rfl)) J5 (λ_ _=>rfl)) J6)) J6)))) J6)))),?_⟩;obtain⟨rl',ys,erl,qr,ds⟩:=dr
 cases erl
 have so:=gd.sok p6 (jD _) k8;have gz:=gd.gz (jD _) k8 (plc (wks rs S0).ns (srt (wks rs S0).ns));have nd:=gd.nd
 obtain⟨y0,ys',eys,⟨tr,zs,rfl,qtr,_,_,rfl,rfl,v1,_,rfl,e1,_,_,rfl,_,_⟩,_⟩:∃y0 ys',ys=y0 :: ys'/\IsD K H (dW (.draw x0 os0)) y0/\IsDs K H (dWs l0) ys':=by
  rw[ers]at ds;exact ds
 have e1:v1 = .str x0:=e1;subst e1;refine⟨jX _,λpl npl=>?_⟩;have s1:=Ja npl (.lst []);have epl:(upd H pl (.lst [])) pl=some (.lst []):=J8;generalize upd H pl (.lst [])=H1 at s1 epl ⊢;refine⟨_,rfl,_,rfl,.inl ⟨rl,_,0,.ref tr,rfl,rfl,s1.seq qr,by rw[eys];exact Q1,.inr (.inl ⟨tr,_,1,.str x0,rfl,rfl,s1.tupq qtr,QK,by show 1<=sizeLine;decide,λp2 n2=>?_⟩)⟩⟩;have s2:=Ja n2 (.lst [.str x0]);refine⟨by show 3<=sizeLine;decide,λt n3=>?_⟩;have s3:=Ja n3 (.tup [.ref pl,.ref rl,.ref p2]);have s13:=s1.trans (s2.trans s3);exact⟨t,pl,rl,.ref p2,500,ys,rs,rfl,.of J8,.of ((s2.trans s3) _ _ epl),s13.seq qr,ds.same s13,hi,BQ,ft,so,nd,gz,λx H' qs s4 pm pw d=>q x H' qs (s13.trans s4) ⟨pm,pw⟩ d⟩
theorem i3(ns ss:xy)(q:xA->Bool):∀w:List (xA×Rat),Jq (Jj ns ss w) q=Jq w λk=>q (ss.map (bk ns k))
 | []=>rfl
 | p :: w=>by
  show Jq ((ss.map (bk ns p.1),p.2) :: Jj ns ss w) q=_;rw[QM,QM,i3 ns ss q w]
def cZ{ns ss:xy}{w:List (xA×Rat)}{k:xA}:k∈(Jj ns ss w).map (·.1)↔∃r∈w,k=ss.map (bk ns r.1):=by
 unfold Jj;rw[kK,jW];exact⟨λ⟨r,h,e⟩=>⟨r,h,e.symm⟩,λ⟨r,h,e⟩=>⟨r,h,e.symm⟩⟩
def i4{ns ms ss:xy}(sub:∀n∈ss,n∈ms)(k:xA):ss.map (bk ms (JW k (plc ns ms)))=ss.map (bk ns k):=by
 rw[a6];exact j9 λn hn=>BC (sub n hn)
def sE(h:l.Pairwise ltS):srt l=l:=(cA h λ_=>Iff.rfl).symm
def Cn(h1:Tb T1 q1)(h2:Tb T2 q2)(h3:Tb (QL T1 T2) q3)(pm:acc.Perm (gaR (gaR [] (Jj (srt T1.ns) (Jr T1.ns T2.ns) q1)) (Jj (srt T2.ns) (Jr T1.ns T2.ns) q2)))(pw:acc.Pairwise (λp q=>HT.lexLt p.1 q.1=true)):q3=acc:=by
 have sN:srt (Jr T1.ns T2.ns)=Jr T1.ns T2.ns:=sE (QU _);have nd:=Zo (QU ((T1.ns).filter λx=>decide (x∈T2.ns)))
 change (Jr T1.ns T2.ns).Nodup at nd
 have b1:∀n∈Jr T1.ns T2.ns,n∈srt T1.ns:=λn hn=>Qy.mpr (Zu.mp hn).1;have b2:∀n∈Jr T1.ns T2.ns,n∈srt T2.ns:=λn hn=>Qy.mpr (Zu.mp hn).2;have e3:=h3.pm
 change q3.Perm (gath (plc (Jr T1.ns T2.ns) (srt (Jr T1.ns T2.ns))) (gaR (gaR [] (Jj T1.ns (Jr T1.ns T2.ns) T1.w)) (Jj T2.ns (Jr T1.ns T2.ns) T2.w))) at e3
 rw[sN,<- Z7]at e3;rw[<- Z7]at pm;generalize Jr T1.ns T2.ns=N at *
 have part:∀{T:SL}{qs:List (xA×Rat)},Tb T qs->(∀n∈N,n∈srt T.ns)->(∀k,k∈(Jj (srt T.ns) N qs).map (·.1)↔k∈(Jj T.ns N T.w).map (·.1))/\∀q,Jq (Jj (srt T.ns) N qs) q=Jq (Jj T.ns N T.w) q:=fun {T qs} h sub=>by
  obtain⟨_,g2,g3⟩:=ai (plc T.ns (srt T.ns)) _ T.w rfl;refine⟨λk=>?_,λq=>?_⟩
  . rw[cZ,cZ];constructor
    . rintro⟨g,hg,rfl⟩;obtain⟨r,hr,e⟩:=(g2 g.1).mp (jW.mpr ⟨g,h.pm.mem_iff.mp hg,rfl⟩);exact⟨r,hr,by rw[e,i4 sub]⟩
    . rintro⟨r,hr,rfl⟩;obtain⟨g,hg,e⟩:=jW.mp ((g2 (JW r.1 (plc T.ns (srt T.ns)))).mpr ⟨r,hr,rfl⟩);exact⟨g,h.pm.mem_iff.mpr hg,by rw[e,i4 sub]⟩
  . rw[i3,i3,gK h.pm,g3];exact rg λr _=>by rw[i4 sub]
 obtain⟨k1,m1⟩:=part h1 b1;obtain⟨k2,m2⟩:=part h2 b2;obtain⟨_,f2,f3⟩:=ai (plc N N) _ (gaR [] (Jj T1.ns N T1.w ++ Jj T2.ns N T2.w)) rfl
 have self:∀r∈gaR [] (Jj T1.ns N T1.w ++ Jj T2.ns N T2.w),JW r.1 (plc N N)=r.1:=λr hr=>by
  have hk:=cS.mp (jW.mpr ⟨r,hr,rfl⟩)
  have hl:r.1.length=N.length:=by
   rw[jo,jO]at hk;rcases hk with hk | hk
   . obtain⟨r',_,e⟩:=cZ.mp hk;rw[e,jA]
   . obtain⟨r',_,e⟩:=cZ.mp hk;rw[e,jA]
  rw[a6];exact BD nd hl
 refine BG h3.pw pw (λk=>?_) (λk=>?_)
 . rw[(e3.map (·.1)).mem_iff,f2,(pm.map (·.1)).mem_iff,cS,jo,jO,k1,k2,<- jO,<- jo,<- cS];constructor
   . rintro⟨r,hr,rfl⟩;rw[self r hr];exact jW.mpr ⟨r,hr,rfl⟩
   . intro h;obtain⟨r,hr,rfl⟩:=jW.mp h;exact⟨r,hr,(self r hr).symm⟩
 . have rhs:Jq acc (λx=>decide (x=k))=Jq (gaR [] (Jj T1.ns N T1.w ++ Jj T2.ns N T2.w)) λx=>decide (x=k):=by rw[gK pm,rC,ah,m1,m2,<- ah,<- rC]
   rw[gK e3,f3,rhs];exact rg λr hr=>by rw[self r hr]
structure Mad (pool:xy) (ra rf rsd:List Wr) (e:Ex):Prop where
 p6:pool.length<=60
 pa:PR pool [] ra
 ra0:∃x os l,ra = .draw x os :: l
 fr:fac ra<=18
 lr:ra.length<=11
 pf:PR pool (nmA [] ra) rf
 ff:fac rf<=2
 lf:rf.length<=10
 ps:PR pool (nmA [] ra) rsd
 fs:fac rsd<=2
 ls:rsd.length<=10
 ex:Lf (nmA [] ra) e 1 3
def Bd.nn{D M:Nat}{r:Rat}(h:Bd D M r):0<=r:=by
 obtain⟨a,_,rfl⟩:=h;exact Rat.divInt_nonneg (Int.natCast_nonneg _) (Int.natCast_nonneg _)
section
variable {pool:xy}{k:Nat}{T T1 T2:SL}{qs q1 q2:List (xA×Rat)}
def sH(g:Gd pool k 500 T)(h:Tb T qs):∀p∈qs,Bd (27720 ^ k) (500 * 13860000 ^ k) p.2:=λp hp =>
 (rB (XE k) g.bd p (h.pm.mem_iff.mp hp)).mono (kD _ g.cnt)
def sI(h:Tb T qs):∀p∈qs,p.1.length=(srt T.ns).length:=λp hp=>by
 obtain⟨r,_,e⟩:=((ai (plc T.ns (srt T.ns)) _ T.w rfl).2.1 p.1).mp (jW.mpr ⟨p,h.pm.mem_iff.mp hp,rfl⟩);rw[e,a6,jA]
def sM(g:Gd pool k 500 T)(h:Tb T qs):qs.length<=500:=by
 rw[h.pm.length_eq];exact jh (fY _ _) g.cnt
def sO(h:k<=60):1000 * (500 * 13860000 ^ k) < 2 ^ 2000:=js (kq _ (kq _ (kj 'f' h))) (by decide +kernel)
def sP{D M:Nat}(h:∀p∈qs,Bd D M p.2):∀p∈Jj ns ss qs,Bd D M p.2:=λp hp=>by
 obtain⟨r,hr,rfl⟩:=jW.mp hp;exact h r hr
def sQ(k6:k<=60)(h:∀p∈l,Bd (27720 ^ k) (500 * 13860000 ^ k) p.2)(hl:l.length<=1000):∀g∈gaR [] l,sz g.2/\0<=g.2:=λg hg=>by
 have:=(gL (XE k) h g hg).mono (kD _ hl);exact⟨this.sz (XE k) (ak 'd') (sO k6),this.nn⟩
def sR(k6:k<=60)(h:Bd (27720 ^ k) (500 * 13860000 ^ k) r):sz r/\0<=r:=⟨h.sz (XE k) (ak 'd') (by have:=sO k6;omega),h.nn⟩
def sS(p6:pool.length<=60)(h:PR pool [] rs)(f5:fac rs<=500)(l:rs.length<=k)(k8:k<=80):StOk k rs/\Gd pool k 500 (wks rs S0)/\(wks rs S0).ns=nmA [] rs:=by
 obtain⟨h1,h2,h3⟩:=XF p6 rs h (S:=S0) (k:=0) (c:=1) (λn hn=>(nomatch hn)) gS 'd' 'd';have h2:=(h2.ups (k':=k) 'd').mono (c':=500) 'd';exact⟨⟨by rw[QW h];decide,h1,pool,p6,h2⟩,h2,h3⟩
end
def Xj(h1:LW K H a r1)(h2:LW K H b r2)(hl:r1.length + r2.length<=1000)(k:∀p H',Same H H'->LW K H' p (r1 ++ r2)->Q (.ref p) H'):lL (.ref a) (.ref b) H Q:=by
 obtain⟨ys,e1,d1⟩:=h1;obtain⟨zs,e2,d2⟩:=h2;have big:(1000:Nat)<=sizeLine:=by decide
 have l1:=LW.len (a:=a) d1;have l2:=LW.len (a:=b) d2;exact⟨a,b,ys,zs,rfl,rfl,e1,e2,by omega,λp np=>k p _ (Ja np _) ⟨_,J8,by rw[hJ];exact(d1.append d2).same (Ja np _)⟩⟩
def Zz(d:IsD K H (dW r) y)(nl:H l=none):LW K (upd H l (.lst [y])) l [r]:=⟨[y],J8,y,[],rfl,d.same (Ja nl _),rfl⟩
def Co(ns:xy)(w:List (xA×Rat))(e:Ex):Jn ns w (.un e)=Jw ns w e:=by
 unfold Jn Jw;refine List.filter_congr λp _=>?_;show decide (b2n (decide (ev (bk ns p.1) e=0))≠0)=decide (ev (bk ns p.1) e=0)
 by_cases h:ev (bk ns p.1) e=0
 . rw[qm h];rfl
 . rw[qk h];rfl
theorem Lf.un(l:Lf nm e h n):Lf nm (.un e) (h + 1) n:=⟨l.ok,by have:=l.high;show e.high + 1<=h + 1;omega,l.few,l.sub⟩
def sT(K:xt):Sp:=λvs H Q _=>∃(al fa sa na:J0) (ye:V) (pool:xy) (ra rf rsd:List Wr) (e:Ex),vs=[.ref al,ye,.ref fa,.ref sa,.ref na]/\LW K H al ra/\IsD K H (dE e) ye/\LW K H fa rf/\LW K H sa rsd/\SqL K H na ((Jr (nmA (nmA [] ra) rf) (nmA (nmA [] ra) rsd)).map V.str)/\Mad pool ra rf rsd e/\∀H',Same H H'->Q (.bl true) H'
theorem Cp(B:Bl mg)(QX:Def P w K mg base "_law_behind" 34 ["_law_rows_here"] (hX K))(d0:Def P w K mg base "_law_put" 3 ["_law_table", "_law_names", "_law_sums"] (sk K))(F:Fn K mg "_law_choice_stands" bQ ["_law_ahead", "_law_e", "_law_first", "_law_second", "_law_names"]):Def P w K mg base "_law_choice_stands" 35 ["_law_ahead", "_law_e", "_law_first", "_law_second", "_law_names"] (sT K):=by
 refine F.ok fL (λvs H Q E h=>?_) (λf xD A outer s H vs Q E hr h=>?_)
 . obtain⟨al,fa,sa,na,ye,pool,ra,rf,rsd,e,rfl,_⟩:=h;rfl
 obtain⟨al,fa,sa,na,ye,pool,ra,rf,rsd,e,rfl,da,de,df,ds,qn,M,q⟩:=h
 refine⟨_,(@J7 _ _ _ _ _ (@aP _ 5 _ _ _ _ _ fL.nd rfl 'b' eC rfl (by first | exact .inl rfl | exact .inr rfl))
  (@J7 _ _ _ _ _ (Qa (Jh d0 hr rfl (@Jd _ _ _ _ _ (Jh QX hr rfl (@Jd _ _ _ _ _ (J9 (JB.or (JI.or (JJ.or (JM K rfl)))) (J9 (JB.or (JI.or (JJ.or (JM K rfl)))) (pv 0) (@Xq _ _ _ _ (@Yy _ _ _ _ _ _ _ Jl (pv 1) rfl rfl) rfl)) (pv 2)) J6 rfl)) (@Jd _ _ _ _ _ (pv 4) (@Jd _ _ _ _ _ (pv 5) J6 rfl) rfl) rfl)))
  (@J7 _ _ _ _ _ (Qa (Jh d0 hr rfl (@Jd _ _ _ _ _ (Jh QX hr rfl (@Jd _ _ _ _ _ (J9 (JB.or (JI.or (JJ.or (JM K rfl)))) (J9 (JB.or (JI.or (JJ.or (JM K rfl)))) (pv 0) (@Xq _ _ _ _ (@Yy _ _ _ _ _ _ _ Jl (@Yy _ _ _ _ _ _ _ Jl (pv 1) rfl rfl) rfl rfl) rfl)) (pv 3)) J6 rfl)) (@Jd _ _ _ _ _ (pv 4) (@Jd _ _ _ _ _ (pv 5) J6 rfl) rfl) rfl)))
  (@J7 _ _ _ _ _ (Jg (i:=6) fL.nd rfl 'b' (Jh QX hr rfl (@Jd _ _ _ _ _ (J9 (JB.or (JI.or (JJ.or (JM K rfl)))) (pv 0) (@Xq _ _ _ _ (@my _ _ _ _ _ _ _ _ _ _ _ Jl (pv 1) (pv 2) (pv 3) rfl rfl rfl rfl) rfl)) J6 rfl)))
  (@Jc _ _ _ (@bo _ _ _ _ (X2 (JK.or (Jx.or (JL.or (JN K rfl hr.units)))) (pv 6) (@Yy _ _ _ _ _ _ _ (QD (aN K rfl) rfl B.tuple PyProof.Rows.boot_tuple (@Jd _ _ _ _ _ (pv 4) J6 rfl)) (nj rfl (nh hr) rfl B.sorted PyProof.Rows.boot_sorted (pv 5)) rfl rfl) (Jk _)))))))),?_⟩
 have big:(10000:Nat) < sizeLine:=by decide
 have lr:=M.lr;have lf:=M.lf;have ls:=M.ls;have fr:=M.fr;have ff:=M.ff;have fs:=M.fs;obtain⟨x0,os0,l0,e0⟩:=M.ra0;have hR:∀l,∃l',ra ++ l = .draw x0 os0 :: l':=λl=>⟨l0 ++ l,by rw[e0];rfl⟩
 -- the three programs
 have p1:PR pool [] ((ra ++ [.seen e]) ++ rf):=Xh _ (Xh ra M.pa (show Wx _ _/\True from⟨M.ex.wx 'f' 'f',trivial⟩)) (by rw[QA];exact M.pf);have p2:PR pool [] ((ra ++ [.seen (.un e)]) ++ rsd):=Xh _ (Xh ra M.pa (show Wx _ _/\True from⟨M.ex.un.wx 'f' 'f',trivial⟩)) (by rw[QA];exact M.ps);have m1:=qA fr ff;have m2:=qA fr fs;obtain⟨o1,g1,n1⟩:=sS (k:=24) M.p6 p1 (by rw[Qv,Qv];show fac ra * 1 * fac rf<=500;rw[Nat.mul_one];omega) (by rw[jI,jI];show ra.length + 1 + rf.length<=24;omega) 'f';obtain⟨o2,g2,n2⟩:=sS (k:=24) M.p6 p2 (by rw[Qv,Qv];show fac ra * 1 * fac rsd<=500;rw[Nat.mul_one];omega) (by rw[jI,jI];show ra.length + 1 + rsd.length<=24;omega) 'f';obtain⟨f3,g3,n3⟩:=XF M.p6 ra M.pa (S:=S0) (k:=0) (c:=1) (λn hn=>(nomatch hn)) gS 'd' 'd';rw[Nat.one_mul,Nat.zero_add]at g3;obtain⟨f4,g4,_⟩:=rJ (nm:=nmA [] ra) (L:=10) g3 M.p6 (by rw[n3];exact λn h=>h) (M.ex.wx 'f' 'f') M.pf M.ps ff fs 'd' lf ls 'd'
 have o3:StOk 24 (ra ++ [.ifr e rf rsd]):=by
  refine⟨?_,(aa _ _ _).mpr ⟨f3,(cW _ _).mpr f4⟩,pool,M.p6,?_⟩
  . rw[Zx,QW M.pa];show max 0 (max (max (hiW rf) (hiW rsd) + 1) 0) < 6;rw[QW M.pf,QW M.ps];decide
  . rw[Qt,XG];exact(g4.ups 'd').mono 'd'
 have e1:wks ((ra ++ [.seen e]) ++ rf) S0=wks rf ⟨(wks ra S0).ns,gaR [] (Jn (wks ra S0).ns (wks ra S0).w e)⟩:=by
  rw[Qt,Qt,XG];unfold wk1;rfl
 have e2:wks ((ra ++ [.seen (.un e)]) ++ rsd) S0=wks rsd ⟨(wks ra S0).ns,gaR [] (Jw (wks ra S0).ns (wks ra S0).w e)⟩:=by
  rw[Qt,Qt,XG,<- Co];unfold wk1;rfl
 have e3:wks (ra ++ [.ifr e rf rsd]) S0=QL (wks ((ra ++ [.seen e]) ++ rf) S0) (wks ((ra ++ [.seen (.un e)]) ++ rsd) S0):=by
  rw[Qt,XG,e1,e2];unfold wk1;rfl
 rw[QA,QA]at n1 n2;have n1:(wks ((ra ++ [.seen e]) ++ rf) S0).ns=nmA (nmA [] ra) rf:=n1;have n2:(wks ((ra ++ [.seen (.un e)]) ++ rsd) S0).ns=nmA (nmA [] ra) rsd:=n2;rw[<- n1,<- n2]at qn;clear e1 e2 n1 n2 f3 f4 g3 g4 n3 m1 m2
 -- the sums
 intro sd nsd;have s0:=Ja nsd (.dT []);have ed0:(upd H sd (.dT [])) sd=some (.dT (kz [])):=J8;generalize upd H sd (.dT [])=H0 at s0 ed0 ⊢;dsimp only[Jm,List.set,L2.JS];refine⟨_,rfl,_,rfl,by show 2<=sizeLine;decide,λt1 nt1=>⟨by show 1<=sizeLine;decide,λl1 nl1 => .inr (.inr (.inl ?_))⟩⟩;have a1:=Ja nt1 (.tup [.str "seen",ye]);have a2:=Ja nl1 (.lst [V.ref t1]);have a12:=s0.trans (a1.trans a2);refine Xj (da.same a12) (Zz (r := .seen e) ⟨t1,_,rfl,.of J8,_,_,rfl,rfl,_,_,rfl,de.same (s0.trans a1),rfl⟩ nl1) (by show ra.length + 1<=1000;omega) λc1 H1 b1 w1=>?_;have s1:=a12.trans b1;refine⟨_,rfl,.inr (.inr (.inl (Xj w1 (df.same s1) (by rw[jI];show ra.length + 1 + rf.length<=1000;omega) λc2 H2 b2 w2=>?_)))⟩;have s2:=s1.trans b2;have s02:=(a1.trans a2).trans (b1.trans b2);clear a1 a2 a12 b1 b2 w1 s1 nt1 nl1;obtain⟨lx,hx⟩:=hR ([.seen e] ++ rf);rw[<- jV]at hx;refine⟨c2,_,x0,os0,lx,24,rfl,w2.isd,hx,o1,by decide,λy1 H3 q1 s23 tb1 d1=>?_⟩;have s3:=s2.trans s23;have ed3:=(s02.trans s23) _ _ ed0;obtain⟨T1,eT1⟩:∃T1,T1=wks ((ra ++ [.seen e]) ++ rf) S0:=⟨_,rfl⟩;obtain⟨T2,eT2⟩:∃T2,T2=wks ((ra ++ [.seen (.un e)]) ++ rsd) S0:=⟨_,rfl⟩;rw[<- eT1]at g1 e3 qn tb1 d1;rw[<- eT2]at g2 e3 qn;have bd1:=sH g1 tb1;have len1:=sI tb1;have few1:=sM g1 tb1;have so1:=(g1.sok M.p6 'f' 'f').nms;have so2:=(g2.sok M.p6 'f' 'f').nms;have sl:∀l:xy,(srt l).length<=l.length:=λl=>List.Nodup.length_le_of_subset (Zo (QU _)) λn hn=>Qy.mp hn;have lN:(Jr T1.ns T2.ns).length<=60:=jh (List.Nodup.length_le_of_subset (Zo (QU _)) λn hn=>(Zu.mp hn).1) so1;have sl1:=sl T1.ns;have sl2:=sl T2.ns;have cb1:∀p∈Jj (srt T1.ns) (Jr T1.ns T2.ns) q1,Bd (27720 ^ 24) (500 * 13860000 ^ 24) p.2:=sP bd1;have cl1:(Jj (srt T1.ns) (Jr T1.ns T2.ns) q1).length=q1.length:=jA _;refine⟨_,rfl,_,rfl,y1,na,sd,srt T1.ns,Jr T1.ns T2.ns,q1,[],[],rfl,d1,s3.seq qn,ed3,.nil,λn hn=>Qy.mpr (Zu.mp hn).1,lN,by omega,len1,few1,jX _,λp hp=>sR 'f' (bd1 p hp),λi g hg=>sQ 'f' (λp hp=>cb1 p (jm hp)) (by rw[jT];omega) g hg,λH4 ks1 sm4 ed4 ac1=>?_⟩;have s4:Same H H4:=Qz nsd s3 sm4
 -- the second
 refine⟨_,rfl,_,rfl,by show 2<=sizeLine;decide,λt0 nt0=>⟨by show 2<=sizeLine;decide,λt1 nt1=>⟨by show 1<=sizeLine;decide,λl1 nl1 => .inr (.inr (.inl ?_))⟩⟩⟩;have a0:=Ja nt0 (.tup [.str "not",ye]);have a1:=Ja nt1 (.tup [.str "seen",.ref t0]);have a2:=Ja nl1 (.lst [V.ref t1]);have a02:=a0.trans (a1.trans a2);have a12:=s4.trans a02;refine Xj (da.same a12) (Zz (r := .seen (.un e)) ⟨t1,_,rfl,.of J8,_,_,rfl,rfl,_,_,rfl,⟨t0,_,rfl,.of (a1 _ _ J8),_,_,rfl,rfl,_,_,rfl,de.same (s4.trans (a0.trans a1)),rfl⟩,rfl⟩ nl1) (by show ra.length + 1<=1000;omega) λc1 H5 b1 w1=>?_;have s5:=a12.trans b1;refine⟨_,rfl,.inr (.inr (.inl (Xj w1 (ds.same s5) (by rw[jI];show ra.length + 1 + rsd.length<=1000;omega) λc2 H6 b2 w2=>?_)))⟩;have s46:=a02.trans (b1.trans b2);clear a0 a1 a2 a02 a12 b1 b2 w1 s5 nt0 nt1 nl1;obtain⟨lx,hx⟩:=hR ([.seen (.un e)] ++ rsd);rw[<- jV]at hx;refine⟨c2,_,x0,os0,lx,24,rfl,w2.isd,hx,o2,by decide,λy2 H7 q2 s67 tb2 d2=>?_⟩;rw[<- eT2]at tb2 d2;have s47:=s46.trans s67;have s7:=s4.trans s47;have ed7:=s47 _ _ ed4;have bd2:=sH g2 tb2;have len2:=sI tb2;have few2:=sM g2 tb2;have cb2:∀p∈Jj (srt T2.ns) (Jr T1.ns T2.ns) q2,Bd (27720 ^ 24) (500 * 13860000 ^ 24) p.2:=sP bd2;have cl2:(Jj (srt T2.ns) (Jr T1.ns T2.ns) q2).length=q2.length:=jA _;have gl1:=Z8 (Jj (srt T1.ns) (Jr T1.ns T2.ns) q1) [];have z0:([]:List (xA×Rat)).length=0:=rfl;refine⟨_,rfl,_,rfl,y2,na,sd,srt T2.ns,Jr T1.ns T2.ns,q2,_,ks1,rfl,d2,s7.seq qn,ed7,ac1.mono λr v h=>h.same s47,λn hn=>Qy.mpr (Zu.mp hn).2,lN,by omega,len2,few2,by omega,λp hp=>sR 'f' (bd2 p hp),λi g hg=>?_,λH8 ks2 sm8 ed8 ac2=>?_⟩
 . rw[<- Z7]at hg;refine sQ (k:=24) 'f' (λp hp=>?_) (by rw[jI,jT];omega) g hg;rcases jO.mp hp with hp | hp
   . exact cb1 p hp
   . exact cb2 p (jm hp)
 have s8:Same H H8:=Qz nsd s7 sm8
 -- the choice
 refine⟨_,rfl,_,rfl,_,rfl,_,rfl,by show 4<=sizeLine;decide,λt1 nt1=>⟨by show 1<=sizeLine;decide,λl1 nl1 => .inr (.inr (.inl ?_))⟩⟩;have a1:=Ja nt1 (.tup [.str "if",ye,.ref fa,.ref sa]);have a2:=Ja nl1 (.lst [V.ref t1]);have a12:=a1.trans a2;refine Xj (da.same (s8.trans a12)) (Zz (r := .ifr e rf rsd) ⟨t1,_,rfl,.of J8,_,_,rfl,rfl,_,_,rfl,de.same (s8.trans a1),_,_,rfl,(df.same (s8.trans a1)).isd,_,_,rfl,(ds.same (s8.trans a1)).isd,rfl⟩ nl1) (by show ra.length + 1<=1000;omega) λc1 H9 b1 w1=>?_;have s89:=a12.trans b1;obtain⟨lx,hx⟩:=hR [.ifr e rf rsd];refine⟨c1,_,x0,os0,lx,24,rfl,w1.isd,hx,o3,by decide,λy3 HA q3 s9A tb3 d3=>?_⟩;rw[e3]at tb3 d3;have s8A:=s89.trans s9A;have sA:=s8.trans s8A;have edA:=s8A _ _ ed8;have acA:Acc K HA _ ks2:=ac2.mono λr v h=>h.same s8A;have kl:=acA.length;have gl2:=Z8 (Jj (srt T2.ns) (Jr T1.ns T2.ns) q2) (gaR [] (Jj (srt T1.ns) (Jr T1.ns T2.ns) q1));obtain⟨py,zs,rfl,qy,dz⟩:=id d3;dsimp only[Jm,List.set];refine⟨_,rfl,_,rfl,na,_,rfl,.inl ⟨sA.seq qn,λv nv=>?_⟩⟩;have u1:=Ja nv (.tup ((Jr T1.ns T2.ns).map V.str));refine⟨_,rfl,sd,ks2,rfl,u1 _ _ edA,by omega,λHB l qs xs' pm pw s2 nl e2 ln' pr'=>⟨(by show 2<=sizeLine;decide),λp np=>?_⟩⟩;have u3:=Ja np (.tup [V.ref v,.ref l]);obtain⟨acc',h1,h2⟩:=pJ pm acA;have hk:acc'.map (·.1)=qs.map (·.1):=g8 (G:=λr v=>IsD K HA (dF r) v) h2;have al':=h2.length
 have dl':IsD K HB (.lst (acc'.map QH)) (.ref l):=by
  refine⟨l,xs',rfl,.of e2,cF (by rw[jA];omega) λi x d' e1 e3=>?_⟩;rw[jF]at e3
  cases ea:acc'[i]? with
  | none=>rw[ea]at e3;cases e3
  | some kr =>
   rw[ea]at e3
   cases e3
   obtain⟨kv,e4,e5,e6⟩:=ZW h2 ea;obtain⟨pp,b,rfl,e7,e8⟩:=pr' i x kv e1 e4;exact⟨pp,_,rfl,.of e7,_,_,rfl,⟨b,_,rfl,.of e8,by rw[<- e5];exact cE _⟩,_,_,rfl,e6.same (u1.trans s2),rfl⟩
 have pw':acc'.Pairwise λp q=>HT.lexLt p.1 q.1=true:=by
  have:(qs.map (·.1)).Pairwise λa b=>HT.lexLt a b=true:=kT.mpr pw;rw[<- hk]at this;exact kT.mp this
 have eq3:q3=acc':=Cn tb1 tb2 tb3 h1 pw';subst eq3;have sN:srt (QL T1 T2).ns=Jr T1.ns T2.ns:=sE (QU _);unfold su at d3;rw[sN]at d3;have uA:=(u1.trans s2).trans u3;refine .inr (.inr (.inr ⟨_,d3.same uA,⟨p,_,rfl,.of J8,_,_,rfl,⟨v,_,rfl,.of ((s2.trans u3) _ _ J8),gE _⟩,_,_,rfl,dl'.same u3,rfl⟩,⟨py,rfl⟩,hU _ _,q _ (sA.trans uA)⟩))
def ao(K:xt):Sp:=λvs H Q _=>∃(a:J0) (ns:xA),vs=[.ref a]/\SqL K H a (ns.map V.int)/\ns.length<=63/\∀H',Q (.bl true) H'
def d9(c:Int):xy:=[Zv c 0,Zv c 1,Zv c 2,Zv c 3]
def Cq(ns:xA):∃cs:xA,JT (ns.map V.int) (some 4) (some 34)=cs.map V.int/\cs.length<=30:=by
 unfold JT;have e:HT.sIx (ns.map V.int).length 0 (some 4)=min 4 (ns.map V.int).length:=HT.sIx_nat _ _ 4;have e2:HT.sIx (ns.map V.int).length (ns.map V.int).length (some 34)=min 34 (ns.map V.int).length:=HT.sIx_nat _ _ 34;rw[e,e2];refine⟨(ns.drop _).take _,by rw[List.map_take,List.map_drop],?_⟩;rw[jT,jr,jA];omega
def Yu(xs:List V)(k:Nat):JT xs none (some (k:Int))=xs.take k:=by
 unfold JT;have e2:HT.sIx xs.length xs.length (some (k:Int))=min k xs.length:=HT.sIx_nat _ _ k;have e:HT.sIx xs.length 0 none=0:=rfl;rw[e,e2,kO,qG]
 by_cases h:k<=xs.length
 . rw[Nat.min_eq_left h]
 . rw[Nat.min_eq_right 'd',jk,ji 'd']
def Cr(xs:List V)(h:1<=xs.length):JT xs (some 1) none=xs.drop 1:=by
 unfold JT;have e2:HT.sIx xs.length 0 (some 1)=min 1 xs.length:=HT.sIx_nat _ _ 1;have e:HT.sIx xs.length xs.length none=xs.length:=rfl;rw[e,e2,Nat.min_eq_left h,ji (by rw[jr];exact jD _)]
def Cs:∀n,n<=30->∀r,r < 3->((List.range n).filter λk=>decide (k % 3=r)).length<=10:=by decide +kernel
theorem Ct{ms:xA}{r:Nat}(l:xz):((l.map λk=>if k % 3=r then some (ms.getD k 0) else none).filterMap id).length=(l.filter λk=>decide (k % 3=r)).length:=by
 induction l with
 | nil=>rfl
 | cons a l ih =>
  rw[jf,List.filter_cons]
  by_cases h:a % 3=r
  . rw[qh h,qh (qm h),jP,<- ih];rfl
  . rw[qg h,qg (by simp[h]),<- ih];rfl
def Cu(h:Paired (λ(x:Int) v=>v=V.int x) l ys):ys=l.map V.int:=by
 induction h with
 | nil=>rfl
 | cons h _ ih=>rw[h,ih];rfl
def i5{r n:Nat}(hr:r < 3){ms:xA}(hn:n=ms.length)(l30:ms.length<=30){ix:xz}{tt:TT}{te:TE}{Q:VK}(ht:∀(i:Nat) (H':Hp) (R:Bool->Hp->Prop),Same H H'->R (decide (((0:Int) + (i:Nat)) % 3=(r:Nat))) H'->tt (some (.int (0 + (i:Nat))) :: cap ix σ) H' R)
 (he:∀(i:Nat) (H':Hp) (R:VK) (hi:i < ms.length),Same H H'->R (.int ms[i]) H'->te (some (.int (0 + (i:Nat))) :: cap ix σ) H' R) (fin:∀(p:J0) (H':Hp) (ws:xA),Same H H'->H p=none->H' p=some (.lst (ws.map V.int))->ws.length<=10->Q (.ref p) H'):ZL ix tt te σ Q (Itr 0 n) H:=by
 subst hn;have big:(100:Nat) < sizeLine:=by decide
 refine o6 (λ(_:Hp) (x:Int) v=>v=V.int x) (λ_ h=>h) ms.length (λi => .int (0 + (i:Nat))) ((List.range ms.length).map λk=>if k % 3=r then some (ms.getD k 0) else none) (by rw[jA,kR]) 'd' (λ_ _=>jD _) (λi H' hi sm=>⟨hi,λx xF hy=>⟨hy.2,hy.1⟩⟩) (λi ov H' R hi ei s' hR=>?_) (λi x Da H' R hi ei s' nD oD hR=>?_) (λal H2 ys s2 nal eal pr=>?_)
 . rw[jF,List.getElem?_range hi]at ei
   cases ei
   refine ht i H' R s' ?_;have:=hR H' (Same.refl H');dsimp only at this
   by_cases h:i % 3=r
   . rw[qh h]at this;rw[qm 'd'];exact this
   . rw[qg h]at this;rw[qk 'd'];exact this
 . rw[jF,List.getElem?_range hi]at ei;have ei:=Option.some.inj ei;dsimp only at ei;split at ei
   . have ei:=Option.some.inj ei;refine he i H' R hi s' (hR _ _ (Same.refl _) ?_);rw[<- ei,jE,jC hi];rfl
   . cases ei
 . have e:=Cu pr;subst e;refine fin al H2 _ s2 nal eal ?_;rw[Ct];exact Cs _ l30 _ hr
def sU{sp:Sp}{dv:List V}{E:XK}{ix:xz}{wi:TI}{tt:TT}{te:TE}{tr:TA}{g:TG}{u:TS}{D:Ends}(h:wi σ H (ZL ix tt te σ λx H1=>tr σ H1 λxs H2=>sp ((x :: xs) ++ dv) H2 (λy H3=>g y σ H3 (u D)) E)):XI (X0 (ZD sp dv E (Jy (QF ix wi tt te) tr)) g) u D σ H:=h
def Cv(h:wi σ H (ZL ix tt te σ λx H1=>tr σ H1 λxs H2=>sp ((x :: xs) ++ dv) H2 Q E)):ZD sp dv E (Jy (QF ix wi tt te) tr) σ H Q:=h
def Cw(h:wi σ H (ZL ix tt te σ λx H1=>r [x] H1 λv H2=>tr σ H2 λxs H3=>Q (v :: xs) H3)):Jy (tCB r (Jy (QF ix wi tt te) JR)) tr σ H Q:=h
theorem sV:∀{l:xy}{p:Str},PyProof.Rows.risingS p l=true->(p :: l).Nodup->(p :: l).Pairwise ltS
 | [],_,_,_=>List.pairwise_singleton _ _
 | x :: r,p,h,nd=>by
  obtain⟨n1,n2⟩:=j5.mp nd;unfold PyProof.Rows.risingS at h;rw[kX]at h;have ih:=sV h.2 n2
  have nl:¬ltS x p:=by
   have:=h.1;rw[PyProof.Rows.ltCps_eq]at this;intro z;have z:x.cps.toList < p.cps.toList:=z;rw[qm z]at this
   cases this
  have lt:ltS p x:=eZ (λz=>n1 (by rw[z];exact jb ..)) nl;refine kZ.mpr ⟨λy hy=>?_,ih⟩;rcases jL.mp hy with rfl | hy
  . exact lt
  . exact ba lt ((kZ.mp ih).1 y hy)
def Cy(h:PyProof.Rows.sortedS l=true)(nd:l.Nodup):l.Pairwise ltS:=by
 cases l with
 | nil=>exact List.Pairwise.nil
 | cons x r=>exact sV h nd
theorem Zb:∀(rs:List Wr) {nm:xy},nm.Nodup->(nmA nm rs).Nodup
 | [],_,h=>h
 | .draw x os :: l,_,h=>Zb l (cT h)
 | .lett x e :: l,_,h=>Zb l (cT h)
 | .seen e :: l,_,h=>Zb l h
 | .ifr .. :: l,_,h=>Zb l h
 | .rnd .. :: l,_,h=>Zb l h
 | .call .. :: l,_,h=>Zb l h
theorem Yi(h:∀x∈p1,x∈p2):∀{rs:List Wr}{nm:xy},PR p1 nm rs->PR p2 nm rs
 | [],_,_=>trivial
 | .draw x os :: l,_,⟨h1,h2,h3⟩=>⟨h x h1,h2,Yi h h3⟩
 | .lett x e :: l,_,⟨h1,h2,h3⟩=>⟨h x h1,h2,Yi h h3⟩
 | .seen e :: l,_,⟨h1,h2⟩=>⟨h1,Yi (rs:=l) h h2⟩
theorem ZA:∀(a:List Wr) {b:List Wr}{nm:xy},PR pool nm (a ++ b)->PR pool nm a/\PR pool (nmA nm a) b
 | [],_,_,h=>⟨trivial,h⟩
 | .draw x os :: l,_,_,⟨h1,h2,h3⟩=>⟨⟨h1,h2,(ZA l h3).1⟩,(ZA l h3).2⟩
 | .lett x e :: l,_,_,⟨h1,h2,h3⟩=>⟨⟨h1,h2,(ZA l h3).1⟩,(ZA l h3).2⟩
 | .seen e :: l,_,_,⟨h1,h2⟩=>⟨⟨h1,(ZA l h2).1⟩,(ZA l h2).2⟩
def sW(k:Nat)(h:PR pool nm rs):PR pool nm (rs.take k)/\fac (rs.take k)<=fac rs:=by
 rw[<- je k rs]at h;obtain⟨h1,h2⟩:=ZA _ h;refine⟨h1,?_⟩
 conv=>rhs;rw[<- je k rs,Qv]
 exact kn _ (Zt h2)
theorem sX:∀(k:Nat) {ds:List D}{ys:List V},IsDs K H ds ys->IsDs K H (ds.take k) (ys.take k)
 | 0,_,_,_=>rfl
 | k + 1,[],_,h=>by rw[show _=[] from h];rfl
 | k + 1,d :: ds,_,⟨x,r,e,h1,h2⟩=>by rw[e];exact⟨x,_,rfl,h1,sX k h2⟩
theorem LW.take(k:Nat)(h:IsDs K H (dWs rs) ys)(np:H p=none):LW K (upd H p (.lst (ys.take k))) p (rs.take k):=⟨_,J8,by
 have:=sX k h;rw[Xf,<- List.map_take,<- Xf]at this;exact this.same (Ja np _)⟩
theorem sY(h:IsDs K H ds ys):∀n,IsDs K H (List.replicate n ds).flatten (List.replicate n ys).flatten
 | 0=>rfl
 | n + 1=>by
  rw[kA,kA,kN,kN];exact h.append (sY h n)
def Cz(a:List Wr)(n:Nat):dWs (Qd n a)=(List.replicate n (dWs a)).flatten:=by
 induction n with
 | zero=>rfl
 | succ n ih =>
  unfold Qd at ih ⊢;rw[kA,kA,kN,kN,hJ,ih]
def sZ(h:LW K H a r)(hl:r.length<=10)(hn:n<=9)(k:∀p H',Same H H'->LW K H' p (Qd n r)->Q (.ref p) H'):dR (.ref a) (.int (n:Nat)) H Q:=by
 obtain⟨ys,e,d⟩:=h;have big:(1000:Nat) < sizeLine:=by decide
 have l1:=LW.len (a:=a) d;have m:=qA hl hn;refine⟨a,_,ys,rfl,rfl,e,by omega,by omega,by rw[l1,jp];omega,λp np=>k p _ (Ja np _) ⟨_,J8,?_⟩⟩;rw[Cz,jp];exact(sY d n).same (Ja np _)
def CA{n:Nat}{z:Int}(hz:z=(n:Int))(h:LW K H a r)(hl:r.length<=10)(hn:n<=9)(k:∀p H',Same H H'->LW K H' p (Qd n r)->Q (.ref p) H'):dR (.ref a) (.int z) H Q:=by subst hz;exact sZ h hl hn k
theorem i6(a:List Wr):∀n,hiW (Qd n a)<=hiW a
 | 0=>jX _
 | n + 1=>by rw[gP,Zx];have:=i6 a n;omega
def db(p6:pool.length<=60)(f3:fts 500 ra S0)(fl:fts 500 l (wks ra S0))(hi:hiW (ra ++ l) < 6)(g:Gd pool k c (wks l (wks ra S0)))(c5:c<=500)(k6:k<=60):StOk 60 (ra ++ l) :=
 ⟨hi,(aa _ _ _).mpr ⟨f3,fl⟩,pool,p6,by rw[Qt];exact(g.ups k6).mono c5⟩
def dc(h:LW K (hid [a] H) b rs):LW K H b rs:=h.same (C0 _ _)
theorem CB(B:Bl mg)(Yj:Def P w K mg base "_law_cell_at" 1 ["_law_script", "_law_k"] (rL (K:=K)))(i8:Def P w K mg base "_law_name" 1 ["_law_cell", "_law_k"] rO)(Yh:Def P w K mg base "_law_outcomes" 3 ["_law_cell", "_law_many"] (hG K))(aq:Def P w K mg base "_law_rows" 4 ["_law_cells", "_law_names", "_law_pool", "_law_most"] (rZ K))(Zy:Def P w K mg base "_law_expression" 2 ["_law_cell", "_law_names"] (gY K))(i9:Def P w K mg base "_law_choice_stands" 35 ["_law_ahead", "_law_e", "_law_first", "_law_second", "_law_names"] (sT K))(QX:Def P w K mg base "_law_behind" 34 ["_law_rows_here"] (hX K))(F:Fun K "law" "law" Xa f fd):FnOk P w K mg base CX0 60 f fd ["_law_script"] (ao K):=by
 refine F.ok Qr (λvs H Q E h=>?_) (λxD A outer s H vs Q E hr h=>?_)
 . obtain⟨a,ns,rfl,_⟩:=h;rfl
 obtain⟨a,ns,rfl,hS,hl,q⟩:=h
 refine⟨_,(@J7 _ _ _ _ _ (m8 (j:=1) Qr.nd rfl rfl (CompOk.of (x := "_law_k") (M:=["_law_script"]) (ix:=[0]) rfl rfl (by decide +kernel) (by decide +kernel) rfl ⟨rfl,trivial⟩ 'g' ⟨⟨rfl,rfl,rfl,rfl⟩,trivial⟩) rfl (by decide +kernel) (XJ rfl B.range (@Jd _ _ _ _ _ J5 J6 rfl)) (λ_ _ _ _ _=>Xp) (λ_ _ _ _ _=>(Jh i8 hr rfl (@Jd _ _ _ _ _ (Jh Yj hr rfl (@Jd _ _ _ _ _ (pv 1) (@Jd _ _ _ _ _ J5 J6 rfl) rfl)) (@Jd _ _ _ _ _ (pv 0) J6 rfl) rfl))))
  (@J7 _ _ _ _ _ (Jg (i:=2) Qr.nd rfl 'b' (QP ((XS K rfl).or (XT K rfl)) (pv 0) (QE J5) (QE J5)))
  (@J7 _ _ _ _ _ (@aP _ 3 _ _ _ _ _ Qr.nd rfl 'b' (@Xq _ _ _ _ (Jf (Je K rfl) (pv 1) J5 (λ_ _=>rfl)) rfl) rfl (by first | exact .inl rfl | exact .inr rfl))
  (@J7 _ _ _ _ _ (@aP _ 4 _ _ _ _ _ Qr.nd rfl 'b' (@Xq _ _ _ _ (@aO _ _ _ _ _ _ _ _ _ Jl (Jf (Je K rfl) (pv 1) J5 (λ_ _=>rfl)) (Jh Yh hr rfl (@Jd _ _ _ _ _ (Jh Yj hr rfl (@Jd _ _ _ _ _ (pv 0) (@Jd _ _ _ _ _ J5 J6 rfl) rfl)) (@Jd _ _ _ _ _ J5 J6 rfl) rfl)) rfl rfl rfl) rfl) rfl (by first | exact .inl rfl | exact .inr rfl))
  (@J7 _ _ _ _ _ (Jg (i:=4) Qr.nd rfl 'b' (J9 (JB.or (JI.or (JJ.or (JM K rfl)))) (pv 4) (Jh aq hr rfl (@Jd _ _ _ _ _ (QQ (CompOk.of (x := "_law_k") (M:=["_law_cells"]) (ix:=[2]) rfl rfl (by decide +kernel) (by decide +kernel) rfl ⟨rfl,trivial⟩ 'g' ⟨⟨rfl,rfl,rfl,rfl⟩,trivial⟩) rfl (by decide +kernel) (XJ rfl B.range (@Jd _ _ _ _ _ (Qk (Zi K rfl) rfl B.len PySem.boot_len (@Jd _ _ _ _ _ (pv 2) J6 rfl)) J6 rfl)) (λ_ _ _ _ _=>(aI (Jo (JK.or (Jx.or (JL.or (JN K rfl hr.units)))) (J9 JH (pv 0) J5) J5 (Jk _)))) (λ_ _ _ _ _=>(Jf (Je K rfl) (pv 1) (pv 0) (λ_ _=>rfl)))) (@Jd _ _ _ _ _ (pv 3) (@Jd _ _ _ _ _ (QP ((XS K rfl).or (XT K rfl)) (pv 1) X3 (QE J5)) (@Jd _ _ _ _ _ J5 J6 rfl) rfl) rfl) rfl))))
  (@J7 _ _ _ _ _ (Jg (i:=5) Qr.nd rfl 'b' (QD (eM K rfl) rfl B.list PyProof.Rows.boot_list (@Jd _ _ _ _ _ (pv 3) J6 rfl)))
  (@J7 _ _ _ _ _ (Jg (i:=6) Qr.nd rfl 'b' (Jh aq hr rfl (@Jd _ _ _ _ _ (QQ (CompOk.of (x := "_law_k") (M:=["_law_cells"]) (ix:=[2]) rfl rfl (by decide +kernel) (by decide +kernel) rfl ⟨rfl,trivial⟩ 'g' ⟨⟨rfl,rfl,rfl,rfl⟩,trivial⟩) rfl (by decide +kernel) (XJ rfl B.range (@Jd _ _ _ _ _ (Qk (Zi K rfl) rfl B.len PySem.boot_len (@Jd _ _ _ _ _ (pv 2) J6 rfl)) J6 rfl)) (λ_ _ _ _ _=>(aI (Jo (JK.or (Jx.or (JL.or (JN K rfl hr.units)))) (J9 JH (pv 0) J5) J5 (Jk _)))) (λ_ _ _ _ _=>(Jf (Je K rfl) (pv 1) (pv 0) (λ_ _=>rfl)))) (@Jd _ _ _ _ _ (pv 5) (@Jd _ _ _ _ _ (QP ((XS K rfl).or (XT K rfl)) (pv 1) X3 (QE J5)) (@Jd _ _ _ _ _ J5 J6 rfl) rfl) rfl) rfl)))
  (@J7 _ _ _ _ _ (Jg (i:=7) Qr.nd rfl 'b' (QD (eM K rfl) rfl B.list PyProof.Rows.boot_list (@Jd _ _ _ _ _ (pv 3) J6 rfl)))
  (@J7 _ _ _ _ _ (Jg (i:=8) Qr.nd rfl 'b' (Jh aq hr rfl (@Jd _ _ _ _ _ (QQ (CompOk.of (x := "_law_k") (M:=["_law_cells"]) (ix:=[2]) rfl rfl (by decide +kernel) (by decide +kernel) rfl ⟨rfl,trivial⟩ 'g' ⟨⟨rfl,rfl,rfl,rfl⟩,trivial⟩) rfl (by decide +kernel) (XJ rfl B.range (@Jd _ _ _ _ _ (Qk (Zi K rfl) rfl B.len PySem.boot_len (@Jd _ _ _ _ _ (pv 2) J6 rfl)) J6 rfl)) (λ_ _ _ _ _=>(aI (Jo (JK.or (Jx.or (JL.or (JN K rfl hr.units)))) (J9 JH (pv 0) J5) J5 (Jk _)))) (λ_ _ _ _ _=>(Jf (Je K rfl) (pv 1) (pv 0) (λ_ _=>rfl)))) (@Jd _ _ _ _ _ (pv 7) (@Jd _ _ _ _ _ (QP ((XS K rfl).or (XT K rfl)) (pv 1) (QE J5) X3) (@Jd _ _ _ _ _ J5 J6 rfl) rfl) rfl) rfl)))
  (@J7 _ _ _ _ _ (Jg (i:=9) Qr.nd rfl 'b' (Jh Zy hr rfl (@Jd _ _ _ _ _ (Jh Yj hr rfl (@Jd _ _ _ _ _ (pv 0) (@Jd _ _ _ _ _ J5 J6 rfl) rfl)) (@Jd _ _ _ _ _ (pv 3) J6 rfl) rfl)))
  (@J7 _ _ _ _ _ (Js (du (av (Jh i9 hr rfl (@Jd _ _ _ _ _ (pv 4) (@Jd _ _ _ _ _ (pv 9) (@Jd _ _ _ _ _ (pv 6) (@Jd _ _ _ _ _ (pv 8) (@Jd _ _ _ _ _ (Qk (wm K rfl) rfl B.sorted PyProof.Rows.boot_sorted (@Jd _ _ _ _ _ (QQ (CompOk.of (x := "_law_x") (M:=["_law_behind_second"]) (ix:=[7]) rfl rfl (by decide +kernel) (by decide +kernel) rfl ⟨rfl,trivial⟩ 'g' ⟨⟨rfl,rfl,rfl,rfl⟩,trivial⟩) rfl (by decide +kernel) (Qi (pv 5)) (λ_ _ _ _ _=>(aI (Jo (ur.or (mi K rfl)) (pv 0) (pv 1) 'g'))) (λ_ _ _ _ _=>(pv 0))) J6 rfl)) J6 rfl) rfl) rfl) rfl) rfl)))) (@Jc _ _ _ (@bo _ _ _ _ ir)) Ju)
  (@J7 _ _ _ _ _ (Jg (i:=10) Qr.nd rfl 'b' (J9 JH (Jh Yj hr rfl (@Jd _ _ _ _ _ (pv 0) (@Jd _ _ _ _ _ J5 J6 rfl) rfl)) J5))
  (@J7 _ _ _ _ _ (Js (Jo (Xo.or (XN.or (XO.or (XU K rfl hr.units)))) (Jh QX hr rfl (@Jd _ _ _ _ _ (J9 (JB.or (JI.or (JJ.or (JM K rfl)))) (pv 4) (@Xq _ _ _ _ (@aO _ _ _ _ _ _ _ _ _ Jl (pv 10) (pv 6) rfl rfl rfl) rfl)) J6 rfl)) (Jh QX hr rfl (@Jd _ _ _ _ _ (J9 (JB.or (JI.or (JJ.or (JM K rfl)))) (pv 4) (J9 ((Q3 (X:=_)).or dU) (pv 6) (pv 10))) J6 rfl)) (Jk _)) (@Jc _ _ _ (@bo _ _ _ _ ir)) Ju)
  (@J7 _ _ _ _ _ (@aP _ 11 _ _ _ _ _ Qr.nd rfl 'b' (@Xq _ _ _ _ (@my _ _ _ _ _ _ _ _ _ _ _ Jl (pv 9) (QP ((XS K rfl).or (XT K rfl)) (pv 8) X3 (QE J5)) (QP ((XS K rfl).or (XT K rfl)) (pv 6) X3 (QE J5)) rfl rfl rfl rfl) rfl) rfl (by first | exact .inl rfl | exact .inr rfl))
  (@J7 _ _ _ _ _ (Jg (i:=12) Qr.nd rfl 'b' (J9 (JB.or (JI.or (JJ.or (JM K rfl)))) (pv 4) (@Xq _ _ _ _ (@aO _ _ _ _ _ _ _ _ _ Jl (pv 10) (@Xq _ _ _ _ (@aO _ _ _ _ _ _ _ _ _ Jl (J9 Yp J5 (J9 Q5 (pv 10) J5)) (pv 11) rfl rfl rfl) rfl) rfl rfl rfl) rfl)))
  (@Jc _ _ _ (@bo _ _ _ _ (X2 (JK.or (Jx.or (JL.or (JN K rfl hr.units)))) (Jh QX hr rfl (@Jd _ _ _ _ _ (pv 12) J6 rfl)) (Jh QX hr rfl (@Jd _ _ _ _ _ (J9 (JB.or (JI.or (JJ.or (JM K rfl)))) (pv 4) (J9 ((Q3 (X:=_)).or dU) (pv 11) (J9 ((Q3 (X:=_)).or dU) (pv 10) (J9 Yp J5 (J9 Q5 (pv 10) J5))))) J6 rfl)) (Jk _))))))))))))))))))),?_⟩
 have big:(10000:Nat) < sizeLine:=by decide
 -- the names
 refine eJ ⟨_,rfl,(by decide),(by decide),?_⟩;refine wf (K:=K) (n:=4) ((d9 (cell ns 0)).map D.str) rfl 'f' (aM λd hd=>by obtain⟨_,_,rfl⟩:=jW.mp hd;rfl) (λi d H' R hi hd sm hR=>?_) (λpp H1 s1 dl=>?_)
 . have e:((d9 (cell ns 0)).map D.str)[i]? = some (.str (Zv (cell ns 0) i)):=by
    have h:i=0\/i=1\/i=2\/i=3:=by omega
    rcases h with rfl | rfl | rfl | rfl<;>rfl
   rw[e]at hd
   cases hd
   rw[Int.zero_add];exact⟨_,rfl,a,ns,0,rfl,sm.seq hS,(by decide),_,rfl,cell ns 0,i,rfl,by omega,by omega,λH' s'=>hR _ _ s' rfl⟩
 obtain⟨_,ys,ee,qpp,dys⟩:=dl
 cases ee
 rw[fD dys]at qpp;obtain⟨x0,x1,x2,x3,e4⟩:∃x0 x1 x2 x3,d9 (cell ns 0)=[x0,x1,x2,x3]:=⟨_,_,_,_,rfl⟩;obtain⟨pool,epl⟩:∃pool,pool=d9 (cell ns 0):=⟨_,rfl⟩;rw[<- epl]at e4 qpp;have pl4:pool.length=4:=by rw[e4];rfl
 have hx0:x0∈pool:=by rw[e4];simp
 have xM:atI (pool.map V.str) 0=some (.str x0):=by rw[e4];exact Q1
 dsimp only[Jm,List.set,L2.JS];have hS1:=s1.seq hS
 -- the cells
 refine⟨_,rfl,_,rfl,_,rfl,.inl ⟨a,_,rfl,hS1,λca nca=>?_⟩⟩;obtain⟨ms,em,lm⟩:=Cq ns;rw[em];have s2:=Ja nca (.lst (ms.map V.int));have eca:(upd H1 ca (.lst (ms.map V.int))) ca=some (.lst (ms.map V.int)):=J8;generalize upd H1 ca (.lst (ms.map V.int))=H2 at s2 eca ⊢;dsimp only[Jm,List.set];refine⟨_,rfl,.inl ⟨pp,_,0,.str x0,rfl,rfl,s2.seq qpp,xM,by show 1<=sizeLine;decide,λna nna=>?_⟩⟩;have s3:=Ja nna (.lst [V.str x0]);have ena:(upd H2 na (.lst [V.str x0])) na=some (.lst (([x0]:xy).map V.str)):=J8;have s23:=s2.trans s3;have eca3:=s3 _ _ eca;have qp3:=s23.seq qpp;have hS3:=s23.seq hS1;generalize upd H2 na (.lst [V.str x0])=H3 at s3 ena s23 eca3 qp3 hS3 ⊢;dsimp only[Jm,List.set]
 -- the first row
 refine⟨_,rfl,.inl ⟨pp,_,0,.str x0,rfl,rfl,qp3,xM,_,rfl,a,ns,1,rfl,hS3,by decide,_,2,rfl,by decide,by decide,λpo os H4 s4 a4 og ol=>⟨by show 3<=sizeLine;decide,λp5 n5=>⟨by show 1<=sizeLine;decide,λl6 n6=>?_⟩⟩⟩⟩;have s5:=Ja n5 (.tup [.str "draw",.str x0,.ref po]);have s6:=Ja n6 (.lst [V.ref p5]);have d5:IsA K H3 (upd H4 p5 (.tup [.str "draw",.str x0,.ref po])) (dW (.draw x0 os)) (.ref p5):=Xg (ds:=[.str "draw",.str x0,.lst (dOs os)]) s4 n5 λA a=>⟨_,_,rfl,rfl,_,_,rfl,rfl,_,_,rfl,a4 A a,rfl⟩;have al3:Al [na] H3:=λb hb=>by rw[jM.mp hb];exact⟨_,ena⟩
 have l6na:l6∉[na]:=(al3.same (s4.trans s5)).not n6;have w6:LW K (hid [na] (upd (upd H4 p5 (.tup [.str "draw",.str x0,.ref po])) l6 (.lst [V.ref p5]))) l6 [.draw x0 os]:=⟨_,Zw l6na J8,_,_,rfl,((d5 _ al3).same (Ye s6)),rfl⟩;have s36:=s4.trans (s5.trans s6);generalize upd (upd H4 p5 (.tup [.str "draw",.str x0,.ref po])) l6 (.lst [V.ref p5])=H6 at w6 s36 ⊢;clear s4 s5 s6 n5 n6 d5 a4;have ol:os.length=2:=ol;have ena6:=s36 _ _ ena;have eca6:=s36 _ _ eca3;have qp6:=s36.seq qp3;have hS6:=s36.seq hS3;dsimp only[Jm,List.set];have mlen:(ms.map V.int).length=ms.length:=jA _;have ats:∀(i:Nat) (hi:i < ms.length),atI (ms.map V.int) (0 + (i:Nat))=some (.int ms[i]):=λi hi=>by rw[Int.zero_add];exact Qb (by rw[jF,jC hi];rfl)
 -- the rows ahead
 refine⟨_,rfl,?_⟩;refine Cv ⟨_,rfl,_,_,rfl,ZK (.of eca6),_,rfl,by rw[mlen];omega,by rw[mlen];omega,i5 (r:=0) 'f' (ms:=ms) (by rw[mlen];rfl) lm (λi H' R sm hR=>⟨_,rfl,_,_,rfl,rfl,(by show(0:Int) < 3;decide),.inl ⟨_,_,rfl,rfl,_,rfl,hR⟩⟩) (λi H' R hi sm hR=>⟨_,rfl,_,rfl,.inl ⟨ca,_,_,.int ms[i],rfl,rfl,.of (sm _ _ eca6),ats i hi,hR⟩⟩) λka H7 ws s67 nka eka lws=>?_⟩;refine⟨_,rfl,_,rfl,_,rfl,.inl ⟨pp,_,rfl,s67.seq qp6,λp2 np2=>?_⟩⟩;rw[show(2:Int)=((2:Nat):Int) from rfl,Yu,<- List.map_take];have u7:=Ja np2 (.lst ((pool.take 2).map V.str));have s68:=s67.trans u7;have p2na:p2≠na:=λz=>by rw[z,s67 _ _ ena6]at np2;cases np2
 refine⟨ka,na,p2,ws,[x0],pool.take 2,2,rfl,.of (u7 _ _ eka),lws,s68 _ _ ena6,by simp,by show 1<=40;decide,.of J8,by rw[e4];simp,by rw[jT];omega,p2na,by decide,by decide,λrl rs H9 sm9 nrl ena9 lw9 pr9 lr9 fb9=>?_⟩;generalize upd H7 p2 (.lst ((pool.take 2).map V.str))=H8 at u7 s68 sm9 nrl;have w9:LW K (hid [na] H9) l6 [.draw x0 os]:=(w6.same (Ye s68)).same (C1 (jM.mpr rfl) sm9);have s29:Same H2 H9:=Qz nna (s3.trans (s36.trans s68)) sm9;have hS9:=s29.seq (s2.seq hS1);have eca9:=s29 _ _ eca;have qp9:=s29.seq (s2.seq qpp);have w9':=dc w9;have lw9':=dc lw9;have lrs:rs.length<=10:=by omega
 clear w6 w9 lw9 s68 s67 u7 s36 sm9 nrl ena6 eca6 qp6 hS6 np2 p2na ena eca3 qp3 hS3 s23 s3 s29 nka eka al3 l6na nna eca;refine .inr (.inr (.inl (Xj w9' lw9' (by show 1 + rs.length<=1000;omega) λal HA s9A wA=>?_)));clear w9' lw9';have hN:adN [] x0=[x0]:=by unfold adN;rw[qg 'j'];rfl
 have subT:∀(k:Nat),∀x∈pool.take k,x∈pool:=λk x hx=>jm hx;have PRa:PR pool [] ([.draw x0 os] ++ rs):=⟨hx0,og,by rw[hN];exact Yi (subT 2) pr9⟩
 have fra:fac ([Wr.draw x0 os] ++ rs)<=18:=by
  show os.length * fac rs<=18;rw[ol];have:fac rs<=9:=fb9;omega
 have lra:([Wr.draw x0 os] ++ rs).length<=11:=by show rs.length + 1<=11;omega
 have eN:nmA [] ([.draw x0 os] ++ rs)=nmA [x0] rs:=by show nmA (adN [] x0) rs=_;rw[hN]
 have hra:∃x os' l,[Wr.draw x0 os] ++ rs=Wr.draw x os' :: l:=⟨x0,os,rs,rfl⟩;have lN:(nmA [x0] rs).length<=11:=by have:=Xi rs [x0];rw[List.length_singleton]at this;omega
 have neN:nmA [x0] rs≠[]:=λz=>by
  have:=QV rs (nm:=[x0]) x0 (jM.mpr rfl);rw[z]at this;cases this
 have ndN:(nmA [x0] rs).Nodup:=Zb rs 'j';rw[<- eN]at lN neN ndN ena9;obtain⟨ra,era⟩:∃ra,ra=[Wr.draw x0 os] ++ rs:=⟨_,rfl⟩;rw[<- era]at PRa fra lra hra wA lN neN ndN ena9;obtain⟨N,hNN⟩:∃N,N=nmA [] ra:=⟨_,rfl⟩;rw[<- hNN]at lN neN ndN ena9;clear eN pr9 fb9 og ol lr9 hN era;have hSA:=s9A.seq hS9;have ecaA:=s9A _ _ eca9;have qpA:=s9A.seq qp9;have enaA:=s9A _ _ ena9;clear hS9 eca9 qp9 ena9 s9A;dsimp only[Jm,List.set]
 -- the first branch
 refine⟨_,rfl,na,_,rfl,.inl (.of enaA),λbf nbf=>?_⟩;have uB:=Ja nbf (.lst (N.map V.str));have ebf:(upd HA bf (.lst (N.map V.str))) bf=some (.lst (N.map V.str)):=J8;generalize upd HA bf (.lst (N.map V.str))=HB at uB ebf ⊢;dsimp only[Jm,List.set];refine sU ⟨_,rfl,_,_,rfl,ZK (.of (uB _ _ ecaA)),_,rfl,by rw[mlen];omega,by rw[mlen];omega,i5 (r:=1) 'f' (ms:=ms) (by rw[mlen];rfl) lm (λi H' R sm hR=>⟨_,rfl,_,_,rfl,rfl,(by show(0:Int) < 3;decide),.inl ⟨_,_,rfl,rfl,_,rfl,hR⟩⟩) (λi H' R hi sm hR=>⟨_,rfl,_,rfl,.inl ⟨ca,_,_,.int ms[i],rfl,rfl,.of (sm _ _ (uB _ _ ecaA)),ats i hi,hR⟩⟩) λkb HC ws1 sC nkb ekb lws1=>?_⟩;refine⟨_,rfl,_,rfl,_,rfl,.inl ⟨pp,_,rfl,(uB.trans sC).seq qpA,λp3 np3=>?_⟩⟩;rw[show(3:Int)=((3:Nat):Int) from rfl,Yu,<- List.map_take];have uC:=Ja np3 (.lst ((pool.take 3).map V.str));have p3n:p3≠bf:=λz=>by rw[z,sC _ _ ebf]at np3;cases np3
 refine⟨kb,bf,p3,ws1,N,pool.take 3,1,rfl,.of (uC _ _ ekb),lws1,(sC.trans uC) _ _ ebf,neN,by omega,.of J8,by rw[e4];simp,by rw[jT];omega,p3n,by decide,by decide,λfl rf HD smD nfl ebD lwD prD lrD fbD=>?_⟩;have sAD:Same HA HD:=Qz nbf (uB.trans (sC.trans uC)) smD;have wfD:=dc lwD;have lrf:rf.length<=10:=by omega
 have frf:fac rf<=2:=fbD;have PRf:=Yi (subT 3) prD;have hSD:=sAD.seq hSA;have ecaD:=sAD _ _ ecaA;have qpD:=sAD.seq qpA;have enaD:=sAD _ _ enaA;have waD:=wA.same sAD;clear hSA ecaA qpA enaA wA uC sC uB smD nfl lwD prD lrD fbD np3 p3n ekb nkb nbf ebf sAD;dsimp only[Jm,List.set]
 -- the second branch
 refine⟨_,rfl,na,_,rfl,.inl (.of enaD),λbs nbs=>?_⟩;have uE:=Ja nbs (.lst (N.map V.str));have ebs:(upd HD bs (.lst (N.map V.str))) bs=some (.lst (N.map V.str)):=J8;generalize upd HD bs (.lst (N.map V.str))=HE at uE ebs ⊢;dsimp only[Jm,List.set];refine sU ⟨_,rfl,_,_,rfl,ZK (.of (uE _ _ ecaD)),_,rfl,by rw[mlen];omega,by rw[mlen];omega,i5 (r:=2) 'f' (ms:=ms) (by rw[mlen];rfl) lm (λi H' R sm hR=>⟨_,rfl,_,_,rfl,rfl,(by show(0:Int) < 3;decide),.inl ⟨_,_,rfl,rfl,_,rfl,hR⟩⟩) (λi H' R hi sm hR=>⟨_,rfl,_,rfl,.inl ⟨ca,_,_,.int ms[i],rfl,rfl,.of (sm _ _ (uE _ _ ecaD)),ats i hi,hR⟩⟩) λkc HG ws2 sG nkc ekc lws2=>?_⟩;refine⟨_,rfl,_,rfl,_,rfl,.inl ⟨pp,_,rfl,(uE.trans sG).seq qpD,λp4 np4=>?_⟩⟩;rw[Cr _ (by rw[jA];omega),<- List.map_drop];have uG:=Ja np4 (.lst ((pool.drop 1).map V.str));have p4n:p4≠bs:=λz=>by rw[z,sG _ _ ebs]at np4;cases np4
 refine⟨kc,bs,p4,ws2,N,pool.drop 1,1,rfl,.of (uG _ _ ekc),lws2,(sG.trans uG) _ _ ebs,neN,by omega,.of J8,by rw[e4];simp,by rw[jr];omega,p4n,by decide,by decide,λsl rsd HI smI nsl ebI lwI prI lrI fbI=>?_⟩;have sDI:Same HD HI:=Qz nbs (uE.trans (sG.trans uG)) smI;have wsI:=dc lwI;have lrd:rsd.length<=10:=by omega
 have frd:fac rsd<=2:=fbI;have PRs:=Yi (λx hx=>List.mem_of_mem_drop hx) prI;have hSI:=sDI.seq hSD;have enaI:=sDI _ _ enaD;have waI:=waD.same sDI;have wfI:=wfD.same sDI;have ebfI:=sDI _ _ ebD;clear hSD ecaD qpD enaD waD wfD ebD uG sG uE smI nsl lwI prI lrI fbI np4 p4n ekc nkc nbs ebs sDI ats mlen em nca;dsimp only[Jm,List.set]
 -- the expression
 refine⟨_,rfl,a,ns,2,rfl,hSI,by decide,_,rfl,_,na,N,rfl,.of enaI,by omega,neN,λpe e HJ sJ aJ fe=>?_⟩;have de:=aJ.plain;have M:Mad pool ra rf rsd e:=⟨by omega,PRa,hra,fra,lra,by rw[<- hNN];exact PRf,frf,lrf,by rw[<- hNN];exact PRs,frd,lrd,by rw[<- hNN];exact fe⟩;have hSJ:=sJ.seq hSI;have waJ:=waI.same sJ;have wfJ:=wfI.same sJ;have wsJ:=wsI.same sJ;have ebfJ:=sJ _ _ ebfI;have ebsJ:=sJ _ _ ebI;clear hSI waI wfI wsI ebfI ebI aJ sJ enaI;dsimp only[Jm,List.set]
 -- the choice stands
 refine⟨_,rfl,_,rfl,_,rfl,_,rfl,?_⟩;refine Cw ⟨_,rfl,bf,rfl,⟨_,.of ebfJ⟩,wj (K:=K) (λn=>decide (n∈nmA N rsd)) (.of ebfJ) (by have:=Xi rf N;omega) (λn H' R sm hR=>⟨_,rfl,_,rfl,.inr ⟨bs,_,rfl,.inl (.of (sm _ _ ebsJ)),rfl,XV _,_,rfl,?_⟩⟩) (λn H' R hR=>⟨_,rfl,hR⟩) (λcc HK fc sK ec=>?_)⟩
 . show R (inV (.str n) ((nmA N rsd).map V.str)) H';rw[Yx];exact hR
 refine⟨cc,_,rfl,.of ec,by have h1:=qB (λn=>decide (n∈nmA N rsd)) (nmA N rf);have:=Xi rf N;omega,λsq ss nsq pm so=>?_⟩;have ndf:((nmA N rf).filter λn=>decide (n∈nmA N rsd)).Nodup:=(Zb rf ndN).filter _;obtain rfl:ss=Jr (nmA N rf) (nmA N rsd):=cA (Cy so (pm.nodup_iff.mpr ndf)) λk=>pm.mem_iff;have uK:=sK.trans (Ja nsq (.lst ((Jr (nmA N rf) (nmA N rsd)).map V.str)));refine⟨al,fl,sl,sq,.ref pe,pool,ra,rf,rsd,e,rfl,waJ.same uK,de.same uK,wfJ.same uK,wsJ.same uK,.of (by rw[<- hNN];exact J8),M,λHL sL=>⟨true,rfl,ZG (nxt ?_)⟩⟩;have sJL:=uK.trans sL;have hSL:=sJL.seq hSJ;have waL:=waJ.same sJL;have wfL:=wfJ.same sJL;have wsL:=wsJ.same sJL;have deL:=de.same sJL;clear hSJ waJ wfJ wsJ ebfJ ebsJ de uK sL sJL ndf pm so ec fc sK nsq
 -- how often
 refine⟨_,rfl,a,ns,3,rfl,hSL,by decide,_,_,rfl,rfl,(by show(0:Int) < 4;decide),?_⟩;obtain⟨n,hn,en⟩:∃n:Nat,n<=3/\cell ns 3 % 4=(n:Int):=⟨(cell ns 3 % 4).toNat,by omega,by omega⟩;dsimp only[Jm,List.set];rw[en]
 -- what the programs come to
 have p6:pool.length<=60:=by omega
 obtain⟨f3,g3,n3⟩:=XF p6 ra PRa (S:=S0) (k:=0) (c:=1) (λn hn=>(nomatch hn)) gS 'd' 'd';rw[Nat.one_mul,Nat.zero_add]at g3
 have subN:∀x∈N,x∈(wks ra S0).ns:=by
  rw[n3];show ∀x∈N,x∈nmA [] ra;rw[<- hNN];exact λx h=>h
 have two:∀j,j<=3->fac ra * 2 ^ j<=500:=λj hj=>by
  have:=qA fra (kj (show 0 < 2 by decide) hj);omega
 have hia:=QW PRa;have hif:=QW PRf;obtain⟨i1,i2,_⟩:=gO (BN p6 PRf frf lrf) g3 subN (n:=n) (two n hn) 'd';have o1:StOk 60 (ra ++ [.rnd n rf]):=db p6 f3 ((cW _ _).mpr (rK 'd' i1)) (by rw[Zx,hia];show max 0 (max (hiW rf + 1) 0) < 6;rw[hif];decide) (by rw[XG,cX];exact i2) (two n hn) 'd';have o2:StOk 60 (ra ++ Qd n rf):=db p6 f3 (gQ i1) (by rw[Zx,hia];have:=i6 rf n;omega) (by rw[Yc];exact i2) (two n hn) 'd';have e12:wks (ra ++ Qd n rf) S0=wks (ra ++ [.rnd n rf]) S0:=by rw[Qt,Qt,XG,cX,Yc]
 obtain⟨m,em⟩:∃m:Nat,m=2 - n / 2:=⟨_,rfl⟩
 have nm3:n * m<=3:=by
  have:n=0\/n=1\/n=2\/n=3:=by omega
  rcases this with rfl | rfl | rfl | rfl<;>(subst em;decide)
 have m2:m<=2:=by omega
 have emI:(2:Int) - (n:Int) / 2=(m:Int):=by omega
 obtain⟨t1,t2⟩:=sW 6 PRs;obtain⟨t3,t4⟩:=sW 6 PRf;have l6a:(rsd.take 6).length<=6:=by rw[jT];omega
 have l6b:(rf.take 6).length<=6:=by rw[jT];omega
 obtain⟨j1,j2,_⟩:=gO (BO (L:=6) p6 (fe.wx 'f' 'f') t1 t3 'd' 'd' l6a l6b) g3 subN (n:=n * m) (two _ nm3) 'd';obtain⟨r1,r2⟩:=BP (n:=n) (m:=m) 'd' 'd' j1
 have hiI:hiW [.ifr e (rsd.take 6) (rf.take 6)]=1:=by
  show max (max (hiW (rsd.take 6)) (hiW (rf.take 6)) + 1) 0=1;rw[QW t1,QW t3];rfl
 have o3:StOk 60 (ra ++ [.rnd n [.rnd m [.ifr e (rsd.take 6) (rf.take 6)]]]):=db p6 f3 ((cW _ _).mpr r1) (by rw[Zx,hia];show max 0 (max (max (hiW [.ifr e (rsd.take 6) (rf.take 6)] + 1) 0 + 1) 0) < 6;rw[hiI];decide) (by rw[XG,r2];exact j2) (two _ nm3) 'd';have o4:StOk 60 (ra ++ Qd (n * m) [.ifr e (rsd.take 6) (rf.take 6)]):=db p6 f3 (gQ j1) (by rw[Zx,hia];have:=i6 [.ifr e (rsd.take 6) (rf.take 6)] (n * m);omega) (by rw[Yc];exact j2) (two _ nm3) 'd';have e34:wks (ra ++ Qd (n * m) [.ifr e (rsd.take 6) (rf.take 6)]) S0=wks (ra ++ [.rnd n [.rnd m [.ifr e (rsd.take 6) (rf.take 6)]]]) S0:=by rw[Qt,Qt,XG,r2,Yc]
 clear i1 i2 j1 j2 r1 r2 f3 g3 n3 two hia hif hiI t1 t2 t3 t4 subN;obtain⟨x0',os0,l0,e0⟩:=hra;have hR:∀l,∃l',ra ++ l = .draw x0' os0 :: l':=λl=>⟨l0 ++ l,by rw[e0];rfl⟩
 -- rounds
 refine⟨_,rfl,_,rfl,_,rfl,by show 3<=sizeLine;decide,λt1 nt1=>⟨by show 1<=sizeLine;decide,λl1 nl1 => .inr (.inr (.inl ?_))⟩⟩;have a1:=Ja nt1 (.tup [.str "rounds",.int (n:Int),.ref fl]);have a2:=Ja nl1 (.lst [V.ref t1]);refine Xj (waL.same (a1.trans a2)) (Zz (r := .rnd n rf) ⟨t1,_,rfl,.of J8,_,_,rfl,rfl,_,_,rfl,rfl,_,_,rfl,(wfL.same a1).isd,rfl⟩ nl1) (by show ra.length + 1<=1000;omega) λc1 HM b1 wM=>?_;have sLM:=(a1.trans a2).trans b1;clear a1 a2 b1 nt1 nl1;obtain⟨lx,hx⟩:=hR [.rnd n rf];refine⟨c1,_,x0',os0,lx,60,rfl,wM.isd,hx,o1,by decide,λy1 HN q1 sMN tb1 d1=>?_⟩;have sLN:=sLM.trans sMN;refine⟨_,rfl,_,rfl,_,rfl,.inr (sZ (wfL.same sLN) lrf 'd' λc2 HO sNO wO => .inr (.inr (.inl (Xj (waL.same (sLN.trans sNO)) wO ?_ λc3 HP sOP wP=>?_))))⟩
 . have:(Qd n rf).length=n * rf.length:=dS _ _;have:=qA hn lrf;omega
 obtain⟨lx2,hx2⟩:=hR (Qd n rf);refine⟨c3,_,x0',os0,lx2,60,rfl,wP.isd,hx2,o2,by decide,λy2 HQ q2 sPQ tb2 d2=>?_⟩;rw[e12]at tb2 d2;obtain rfl:=tb1.uniq tb2;have sNQ:=(sNO.trans sOP).trans sPQ;have sLQ:=sLN.trans sNQ;obtain⟨py,zs,rfl,qy,dz⟩:=id d1;refine .inr (.inr (.inr ⟨_,d1.same sNQ,d2,⟨py,rfl⟩,hU _ _,_,rfl,ZG (nxt ?_)⟩));have waQ:=waL.same sLQ;have wfQ:=wfL.same sLQ;have wsQ:=wsL.same sLQ;have deQ:=deL.same sLQ;clear waL wfL wsL deL sLQ sNQ sLN sLM sMN sNO sOP sPQ wM wO wP tb1 tb2 d1 d2 dz qy hx hx2 hSL o1 o2 e12;obtain⟨ysl,esl,dsl⟩:=wsQ;obtain⟨yfl,efl,dfl⟩:=wfQ;have c6:∀xs:List V,JT xs none (some 6)=xs.take 6:=λxs=>Yu xs 6
 -- the inner choice
 refine⟨_,rfl,_,rfl,_,rfl,.inl ⟨sl,_,rfl,.of esl,λp1 np1=>?_⟩⟩;rw[c6];have u1:=Ja np1 (.lst (ysl.take 6));have w1:LW K (upd HQ p1 (.lst (ysl.take 6))) p1 (rsd.take 6):=LW.take 6 dsl np1;generalize upd HQ p1 (.lst (ysl.take 6))=HR at u1 w1 ⊢;refine⟨_,rfl,_,rfl,.inl ⟨fl,_,rfl,.of (u1 _ _ efl),λp2 np2=>?_⟩⟩;rw[c6];have u2:=Ja np2 (.lst (yfl.take 6));have w2:LW K (upd HR p2 (.lst (yfl.take 6))) p2 (rf.take 6):=LW.take 6 (dfl.same u1) np2;generalize upd HR p2 (.lst (yfl.take 6))=HS at u2 w2 ⊢;refine⟨by show 4<=sizeLine;decide,λt1 nt1=>⟨by show 1<=sizeLine;decide,λil nil=>?_⟩⟩;have u3:=Ja nt1 (.tup [.str "if",.ref pe,.ref p1,.ref p2]);have u4:=Ja nil (.lst [V.ref t1]);have wi:LW K (upd (upd HS t1 (.tup [.str "if",.ref pe,.ref p1,.ref p2])) il (.lst [V.ref t1])) il [.ifr e (rsd.take 6) (rf.take 6)]:=Zz ⟨t1,_,rfl,.of J8,_,_,rfl,rfl,_,_,rfl,deQ.same ((u1.trans u2).trans u3),_,_,rfl,(w1.same (u2.trans u3)).isd,_,_,rfl,(w2.same u3).isd,rfl⟩ nil;have waT:=waQ.same ((u1.trans u2).trans (u3.trans u4));generalize upd (upd HS t1 (.tup [.str "if",.ref pe,.ref p1,.ref p2])) il (.lst [V.ref t1])=HT' at wi waT ⊢;clear u1 u2 u3 u4 w1 w2 np1 np2 nt1 nil waQ deQ dsl dfl esl efl;dsimp only[Jm,List.set]
 -- rounds of rounds
 refine⟨_,rfl,_,rfl,_,rfl,_,_,rfl,rfl,⟨by decide,by decide⟩,_,_,rfl,rfl,?_⟩;refine⟨_,rfl,by show 3<=sizeLine;decide,λt2 nt2=>⟨by show 1<=sizeLine;decide,λl2 nl2=>⟨by show 3<=sizeLine;decide,λt3 nt3=>⟨by show 1<=sizeLine;decide,λl3 nl3 => .inr (.inr (.inl ?_))⟩⟩⟩⟩;have v1:=Ja nt2 (.tup [.str "rounds",.int (2 - (n:Int) / 2),.ref il]);have v2:=Ja nl2 (.lst [V.ref t2]);have v3:=Ja nt3 (.tup [.str "rounds",.int (n:Int),.ref l2]);have v4:=Ja nl3 (.lst [V.ref t3]);have x2:LW K (upd (upd HT' t2 (.tup [.str "rounds",.int (2 - (n:Int) / 2),.ref il])) l2 (.lst [V.ref t2])) l2 [.rnd m [.ifr e (rsd.take 6) (rf.take 6)]]:=Zz ⟨t2,_,rfl,.of J8,_,_,rfl,rfl,_,_,rfl,(by show V.int (2 - (n:Int) / 2)=V.int (m:Int);rw[emI]),_,_,rfl,(wi.same v1).isd,rfl⟩ nl2;have v14:=(v1.trans v2).trans (v3.trans v4);refine Xj (waT.same v14) (Zz (r := .rnd n [.rnd m [.ifr e (rsd.take 6) (rf.take 6)]]) ⟨t3,_,rfl,.of J8,_,_,rfl,rfl,_,_,rfl,rfl,_,_,rfl,(x2.same v3).isd,rfl⟩ nl3) (by show ra.length + 1<=1000;omega) λc1 HU b1 wU=>?_;have sTU:=v14.trans b1;clear v1 v2 v3 v4 v14 x2 b1 nt2 nl2 nt3 nl3;dsimp only[Jm,List.set];obtain⟨lx,hx⟩:=hR [.rnd n [.rnd m [.ifr e (rsd.take 6) (rf.take 6)]]];refine⟨_,rfl,c1,_,x0',os0,lx,60,rfl,wU.isd,hx,o3,by decide,λy1 HV q1 sUV tb1 d1=>?_⟩;have sTV:=sTU.trans sUV;refine⟨_,rfl,_,rfl,_,rfl,_,rfl,_,_,rfl,rfl,⟨by decide,by decide⟩,_,_,rfl,rfl,.inl ⟨_,_,rfl,rfl,Q8 (m:=3) (n:=3) 'd' (by show(2 - (n:Int) / 2).natAbs < 2 ^ 3;omega) 'f',?_⟩⟩;refine .inr (CA (n:=n * m) (by show(n:Int) * (2 - (n:Int) / 2)=((n * m:Nat):Int);rw[emI];push_cast;rfl) (wi.same sTV) (by show 1<=10;decide) 'd' λc2 HO sNO wO => .inr (.inr (.inl (Xj (waT.same (sTV.trans sNO)) wO ?_ λc3 HP sOP wP=>?_))))
 . have:(Qd (n * m) [Wr.ifr e (rsd.take 6) (rf.take 6)]).length=n * m * 1:=dS _ _;omega
 obtain⟨lx2,hx2⟩:=hR (Qd (n * m) [.ifr e (rsd.take 6) (rf.take 6)]);refine⟨c3,_,x0',os0,lx2,60,rfl,wP.isd,hx2,o4,by decide,λy2 HQ q2 sPQ tb2 d2=>?_⟩;rw[e34]at tb2 d2;obtain rfl:=tb1.uniq tb2;obtain⟨py,zs,rfl,qy,dz⟩:=id d1;exact .inr (.inr (.inr ⟨_,d1.same ((sNO.trans sOP).trans sPQ),d2,⟨py,rfl⟩,hU _ _,q _⟩))
def CC(B:Bl mg)(CF_Gathering:CFn K mg "Gathering" t5 "__init__" "Gathering.__init__" bR ["self", "most"])(xI:Cls K JY)(t6:NoAttr K JY "most")(Yk:NoAttr K JY "shares")(XH:NoAttr K JY "names")(CD:IFn K mg "StateList" JY "StateList.__init__" bS ["self", "names", "most"])(CF:MFn K JY "place_for" "StateList.place_for" bT ["self", "name"])(CG:MFn K JY "valued" "StateList.valued" bU ["self", "es"])(CH:MFn K JY "add_states" "StateList.add_states" bV ["self", "others"])(CI:MFn K JY "add" "Gathering.add" cf ["self", "numbers", "share"])(xP:Cls K xW)(CJ:NoAttr K xW "parts")(ar:NoAttr K xW "most")(CK:NoAttr K xW "results")(CL:IFn K mg "Walk" xW "Walk.__init__" bW ["self", "parts", "most"])(CM:MFn K xW "walk_draw" "Walk.walk_draw" bX ["self", "row", "ahead"])(CN:MFn K xW "walk_let" "Walk.walk_let" bZ ["self", "row", "ahead"])(CO:MFn K xW "walk_seen" "Walk.walk_seen" cb ["self", "row", "ahead"])(CP:MFn K xW "walk_if" "Walk.walk_if" YL ["self", "row", "ahead"])(CQ:MFn K xW "walk_rounds" "Walk.walk_rounds" YM ["self", "row", "ahead"])(CT:MFn K xW "walk_call" "Walk.walk_call" YN ["self", "row", "ahead"])(y3p:MFn K xW "results_of" "Walk.results_of" oM ["self", "name", "arguments"])(CU:MFn K xW "walk_row" "Walk.walk_row" YO ["self", "row", "ahead"])(CV:MFn K xW "walk_rows" "Walk.walk_rows" YQ ["self", "rows", "ahead"])(CY:Fn K mg "divisor" bq ["one", "other"])(CZ:Fn K mg "is_whole" br ["thing"])(D0:Fn K mg "fraction" bt ["top", "bottom"])(D3:Fn K mg "plus" bu ["one", "other"])(D4:Fn K mg "times" bv ["one", "other"])(D5:Fn K mg "holds" bw ["sign", "numbers"])(D6:Fn K mg "reckoned" bz ["sign", "numbers"])(D7:Fn K mg "value" YJ ["e", "book"])(D8:Fn K mg "names_in" YK ["e"])(D9:Fn K mg "chosen" bA ["values", "places"])(Db:Fn K mg "places_of" bB ["names", "some"])(Dc:Fn K mg "gathered" bC ["rows", "places"])(Dd:Fn K mg "replaced" bD ["some", "place", "one"])(De:FnD K mg "states" XZ ["program", "most"] (.int 500))(Df:Fn K mg "_law_cell_at" bE ["_law_script", "_law_k"])(Dg:Fn K mg "_law_mixed" bF ["_law_cell", "_law_k"])(Dh:Fn K mg "_law_common" bG ["_law_one", "_law_other"])(Di:Fn K mg "_law_low" bH ["_law_top", "_law_bottom"])(Dj:Fn K mg "_law_name" bJ ["_law_cell", "_law_k"])(Dk:Fn K mg "_law_leaf" bK ["_law_cell", "_law_names"])(Dl:Fn K mg "_law_expression" bL ["_law_cell", "_law_names"])(Dm:Fn K mg "_law_outcomes" bM ["_law_cell", "_law_many"])(Dn:Fn K mg "_law_rows" bN ["_law_cells", "_law_names", "_law_pool", "_law_most"])(Do:Fn K mg "_law_put" bO ["_law_table", "_law_names", "_law_sums"])(Dp:Fn K mg "_law_behind" bP ["_law_rows_here"])(Dq:Fn K mg "_law_choice_stands" bQ ["_law_ahead", "_law_e", "_law_first", "_law_second", "_law_names"])(F:Fun K "law" "law" Xa f fd):FnOk P w K mg base CX0 60 f fd ["_law_script"] (ao K):=by
 have Y3:=AK (P:=P) (w:=w) (base:=base) B CY;have cB:=AL (P:=P) (w:=w) (base:=base) B CZ;have Zq:=AM B D0 cB Y3;have Y4:=AN B D3 Y3 Zq;have gy:=AO B D4 Zq;have XA:=AR (P:=P) (w:=w) (base:=base) B D9;have gH:=AU B XA Y4 Dc;have XC:=AV (P:=P) (w:=w) (base:=base) B Db;have gf:=AZ (P:=P) (w:=w) (base:=base) B D5;have Y5:=B0 B D6 gf;have YZ:=pN B D7 Y5 10;have YY:=pL (P:=P) (w:=w) (base:=base) B D8 10;have Z9:=B7 (P:=P) (w:=w) (base:=base) B Dd;have DC_Gathering:=B4 (P:=P) (w:=w) (base:=base) (CS:=JY) B xI t6 Yk CF_Gathering;have Q6:=CD.new (P:=P) (w:=w) (base:=base) λf fd F=>B5 B xI XH DC_Gathering F;have Yl:=B3 B xI t6 Yk Y4 CI;have t7:=B8 (P:=P) (w:=w) (base:=base) (mg:=mg) B xI XH CF;have ic:=Be B xI Yk XH YY XC XA YZ CG;have Dr:=Bi B xI Yk XH XC XA Yl CH;have gG:=CL.new (P:=P) (w:=w) (base:=base) λf fd F=>By B xP CJ ar CK F;have Ds:=Bk B xI xP Yk XH ar Q6 t7 Yl Z9 gy CM;have Dt:=Bm B xI xP XH ar Q6 t7 Yl ic Z9 CN;have Du:=Bn B xI xP XH ar Q6 Yl ic CO;have Dv:=re B xI xP XH ar Q6 Yl ic Dr Ds Dt Du CP CQ CT CU CV 6;have Dw:=BB B xI xP Yk XH Q6 gG Yl Dv XC gH De;have Yj:=BS (P:=P) (w:=w) (base:=base) B Df;have Qp:=BR (P:=P) (w:=w) (base:=base) B Dg;have gV:=BU (P:=P) (w:=w) (base:=base) B Dh;have Yg:=BV B gV Di;have i8:=BZ (P:=P) (w:=w) (base:=base) B Dj;have am:=C4 (P:=P) (w:=w) (base:=base) B Dk;have Zy:=C7 B Qp am Dl;have Yh:=C9 B Qp Yg Dm;have aq:=Cb B Qp Zy Yh Dn;have d0:=Ck B Yg Do;have QX:=Cl B Dw.2 Dp;have i9:=Cp B QX d0 Dq;exact CB B Yj i8 Yh aq Zy i9 QX F
end
def us0{p:xx->Prop}(h:p [])(us:xx)(hl:us.length=0):p us:=match us,hl with | [],_=>h
def us1{p:xx->Prop}(h:∀a0,p [a0])(us:xx)(hl:us.length=1):p us:=match us,hl with | a0 :: t,hl=>us0 (p:=λt=>p (a0 :: t)) (h a0) t (Nat.succ.inj hl)
def us2{p:xx->Prop}(h:∀a0 a1,p [a0,a1])(us:xx)(hl:us.length=2):p us:=match us,hl with | a0 :: t,hl=>us1 (p:=λt=>p (a0 :: t)) (h a0) t (Nat.succ.inj hl)
def us3{p:xx->Prop}(h:∀a0 a1 a2,p [a0,a1,a2])(us:xx)(hl:us.length=3):p us:=match us,hl with | a0 :: t,hl=>us2 (p:=λt=>p (a0 :: t)) (h a0) t (Nat.succ.inj hl)
def us4{p:xx->Prop}(h:∀a0 a1 a2 a3,p [a0,a1,a2,a3])(us:xx)(hl:us.length=4):p us:=match us,hl with | a0 :: t,hl=>us3 (p:=λt=>p (a0 :: t)) (h a0) t (Nat.succ.inj hl)
def us5{p:xx->Prop}(h:∀a0 a1 a2 a3 a4,p [a0,a1,a2,a3,a4])(us:xx)(hl:us.length=5):p us:=match us,hl with | a0 :: t,hl=>us4 (p:=λt=>p (a0 :: t)) (h a0) t (Nat.succ.inj hl)
def FnIn(K:xt)(x:Str)(st:Stmt):Prop:=∃f fd,PySem.W.nsIn K mainGlobals x=some (some (.ref f))/\Fun K x x st f fd
def Dx{K:xt}{x:Str}{st:Stmt}{f:J0}{oc:xY}{od an:Option J0}{osl:Array (xu)}{kV xQ pm xD ct:xY}(a:PySem.W.nsIn K mainGlobals x=some (some (.ref f)))(l:K.lookup f=some ⟨oc,od,.func (PySem.W.fnOf x x (defArgs st) (defBody st) (defScope st) .none kV xQ pm an xD ct),osl⟩)(c:PySem.W.codeIn K xD x=true)(k:PySem.W.keepIn K (.ref f)=true):FnIn K x st:=⟨f,_,a,aD l c k⟩
def FnIn.fn(H:FnIn K x st)(X:K.In h)(G:h.Ns mainGlobals mg)(hb:∀(kV xQ pm:xY) (an:Option J0) (xD ct:xY) (us:xx),us.length=ps.length->bindArgs (PySem.W.fnOf x x (defArgs st) (defBody st) (defScope st) .none kV xQ pm an xD ct) ⟨us,[]⟩=pure (ps.zip us)):Fn K mg x st ps:=by
 obtain⟨f,fd,a,F⟩:=H;exact⟨f,fd,F,F.binds hb,PySem.W.mg_of X G a⟩
def CtIn(K:xt)(C:J0)(m q:Str)(st:Stmt):Prop:=∃f fd,ClsM K C m f/\Fun K m q st f fd
def Dy{K:xt}{C:J0}{m q:Str}{st:Stmt}{f:J0}{oc:xY}{od an:Option J0}{osl:Array (xu)}{kV xQ pm xD ct:xY}(sg:PySem.W.specialIn K (.ref C) "__getattribute__" = some (some (.builtin "type.__getattribute__")))(rd:PySem.W.readsIn K C (.type "type")=true)(fc:PySem.W.findCls K (.ref C) (.type "type") m=some (.val (.ref f)))(l:K.lookup f=some ⟨oc,od,.func (PySem.W.fnOf m q (defArgs st) (defBody st) (defScope st) .none kV xQ pm an xD ct),osl⟩)(c:PySem.W.codeIn K xD q=true)(k:PySem.W.keepIn K (.ref f)=true):CtIn K C m q st:=⟨f,_,⟨sg,rd,fc,k⟩,aD l c k⟩
def CtIn.cfn(H:CtIn K C m q st)(nm:mg x=some (.ref C))(hb:∀(kV xQ pm:xY) (an:Option J0) (xD ct:xY) (us:xx),us.length=ps.length->bindArgs (PySem.W.fnOf m q (defArgs st) (defBody st) (defScope st) .none kV xQ pm an xD ct) ⟨us,[]⟩=pure (ps.zip us)):CFn K mg x C m q st ps:=by
 obtain⟨f,fd,M,F⟩:=H;exact⟨nm,f,fd,F,M,F.binds hb⟩
def MtIn(K:xt)(C:J0)(m q:Str)(st:Stmt):Prop:=∃f fd,PySem.W.findIn K (.ref C) m=some (some (.ref f))/\PySem.W.isFn K (.ref f)=true/\Fun K m q st f fd
def Dz{K:xt}{C:J0}{m q:Str}{st:Stmt}{f:J0}{oc:xY}{od an:Option J0}{osl:Array (xu)}{kV xQ pm xD ct:xY}(a:PySem.W.findIn K (.ref C) m=some (some (.ref f)))(i:PySem.W.isFn K (.ref f)=true)(l:K.lookup f=some ⟨oc,od,.func (PySem.W.fnOf m q (defArgs st) (defBody st) (defScope st) .none kV xQ pm an xD ct),osl⟩)(c:PySem.W.codeIn K xD q=true)(k:PySem.W.keepIn K (.ref f)=true):MtIn K C m q st:=⟨f,_,a,i,aD l c k⟩
def MtIn.mfn(H:MtIn K C m q st)(hb:∀(kV xQ pm:xY) (an:Option J0) (xD ct:xY) (us:xx),us.length=ps.length->bindArgs (PySem.W.fnOf m q (defArgs st) (defBody st) (defScope st) .none kV xQ pm an xD ct) ⟨us,[]⟩=pure (ps.zip us)):MFn K C m q st ps:=by
 obtain⟨f,fd,a,i,F⟩:=H;exact⟨f,fd,F,⟨a,i,F.kp⟩,F.binds hb⟩
def MtIn.ifn(H:MtIn K C "__init__" q st)(nm:mg x=some (.ref C))(mk:PySem.W.makesIn K C=true)(kc:PySem.W.keepIn K (.ref C)=true)(hb:∀(kV xQ pm:xY) (an:Option J0) (xD ct:xY) (us:xx),us.length=ps.length->bindArgs (PySem.W.fnOf "__init__" q (defArgs st) (defBody st) (defScope st) .none kV xQ pm an xD ct) ⟨us,[]⟩=pure (ps.zip us)):IFn K mg x C q st ps:=by
 obtain⟨f,fd,a,i,F⟩:=H;exact⟨nm,f,fd,F,⟨mk,a,i,kc⟩,F.binds hb⟩
def DA{l:PySem.W.OpenLaw}{mg:xq}(X:K.In h)(G:h.Ns mainGlobals mg)(hfa:mg "law" = some (.ref fa))
 {od13 an13 od26 an26:Option J0}{sl13 sl26:Array (xu)}
 (H0:FnIn K "divisor" bq)
 (H1:FnIn K "is_whole" br)
 (H2:FnIn K "fraction" bt)
 (H3:FnIn K "plus" bu)
 (H4:FnIn K "times" bv)
 (H5:FnIn K "holds" bw)
 (H6:FnIn K "reckoned" bz)
 (H7:FnIn K "value" YJ)
 (H8:FnIn K "names_in" YK)
 (H9:FnIn K "chosen" bA)
 (H10:FnIn K "places_of" bB)
 (H11:FnIn K "gathered" bC)
 (H12:FnIn K "replaced" bD) {fTd13:Option J0}{fTn13:Nat}{fTs13:Array (xu)}{fTk13:Tok} (lt13:K.lookup fT13=some ⟨fTo13,fTd13,.seq #[.int 500 fTk13] fTn13,fTs13⟩)
 (a13:PySem.W.nsIn K mainGlobals "states" = some (some (.ref f13))) (l13:K.lookup f13=some ⟨oc13,od13,.func (PySem.W.fnOf "states" "states" (defArgs XZ) (defBody XZ) (defScope XZ) (.ref fT13) kV13 dc13 pm13 an13 cd13 ct13),sl13⟩) (c13:PySem.W.codeIn K cd13 "states" = true) (k13:PySem.W.keepIn K (.ref f13)=true)
 (H14:FnIn K "_law_cell_at" bE)
 (H15:FnIn K "_law_mixed" bF)
 (H16:FnIn K "_law_common" bG)
 (H17:FnIn K "_law_low" bH)
 (H18:FnIn K "_law_name" bJ)
 (H19:FnIn K "_law_leaf" bK)
 (H20:FnIn K "_law_expression" bL)
 (H21:FnIn K "_law_outcomes" bM)
 (H22:FnIn K "_law_rows" bN)
 (H23:FnIn K "_law_put" bO)
 (H24:FnIn K "_law_behind" bP)
 (H25:FnIn K "_law_choice_stands" bQ)
 (a26:PySem.W.nsIn K mainGlobals "law" = some (some (.ref f26))) (l26:K.lookup f26=some ⟨oc26,od26,.func (PySem.W.fnOf "law" "law" (defArgs Xa) (defBody Xa) (defScope Xa) .none kV26 dc26 pm26 an26 cd26 ct26),sl26⟩) (c26:PySem.W.codeIn K cd26 "law" = true) (k26:PySem.W.keepIn K (.ref f26)=true)
 (Q_j0:CtIn K t5 "__init__" "Gathering.__init__" bR)
 (Q_j1:MtIn K JY "__init__" "StateList.__init__" bS)
 (Q_j2:MtIn K JY "place_for" "StateList.place_for" bT)
 (Q_j3:MtIn K JY "valued" "StateList.valued" bU)
 (Q_j4:MtIn K JY "add_states" "StateList.add_states" bV)
 (Q_j5:MtIn K xW "__init__" "Walk.__init__" bW)
 (Q_j6:MtIn K xW "walk_draw" "Walk.walk_draw" bX)
 (Q_j7:MtIn K xW "walk_let" "Walk.walk_let" bZ)
 (Q_j8:MtIn K xW "walk_seen" "Walk.walk_seen" cb)
 (Q_j9:MtIn K xW "walk_if" "Walk.walk_if" YL)
 (Q_j10:MtIn K xW "walk_rounds" "Walk.walk_rounds" YM)
 (Q_j11:MtIn K xW "walk_call" "Walk.walk_call" YN)
 (Q_j12:MtIn K xW "results_of" "Walk.results_of" oM)
 (Q_j13:MtIn K xW "walk_row" "Walk.walk_row" YO)
 (Q_j14:MtIn K xW "walk_rows" "Walk.walk_rows" YQ)
 (Q_j15:MtIn K JY "add" "Gathering.add" cf)
 (oa_Gathering:PySem.W.nsIn K mainGlobals "Gathering" = some (some (.ref t5)))
 (oa_StateList:PySem.W.nsIn K mainGlobals "StateList" = some (some (.ref JY))) (pg_StateList:PySem.W.plainGet K JY Str.empty=true) (hd_StateList:PySem.W.hasDictIn K JY=true) (po_StateList:PySem.W.plainOver K JY=true) (os_StateList:PySem.W.findIn K (.ref JY) "__setattr__" = some (some (.builtin "object.__setattr__"))) (mk_StateList:PySem.W.makesIn K JY=true) (kc_StateList:PySem.W.keepIn K (.ref JY)=true)
 (of_j1_most:PySem.W.findIn K (.ref JY) "most" = some none)
 (of_j1_shares:PySem.W.findIn K (.ref JY) "shares" = some none)
 (of_j1_names:PySem.W.findIn K (.ref JY) "names" = some none)
 (oa_Walk:PySem.W.nsIn K mainGlobals "Walk" = some (some (.ref xW))) (pg_Walk:PySem.W.plainGet K xW Str.empty=true) (hd_Walk:PySem.W.hasDictIn K xW=true) (po_Walk:PySem.W.plainOver K xW=true) (os_Walk:PySem.W.findIn K (.ref xW) "__setattr__" = some (some (.builtin "object.__setattr__"))) (mk_Walk:PySem.W.makesIn K xW=true) (kc_Walk:PySem.W.keepIn K (.ref xW)=true)
 (of_j2_parts:PySem.W.findIn K (.ref xW) "parts" = some none)
 (of_j2_most:PySem.W.findIn K (.ref xW) "most" = some none)
 (of_j2_results:PySem.W.findIn K (.ref xW) "results" = some none)
 (z_abs:PySem.W.nsIn K mainGlobals "abs" = some none)
 (z_bool:PySem.W.nsIn K mainGlobals "bool" = some none)
 (z_dict:PySem.W.nsIn K mainGlobals "dict" = some none)
 (z_int:PySem.W.nsIn K mainGlobals "int" = some none)
 (z_isinstance:PySem.W.nsIn K mainGlobals "isinstance" = some none)
 (z_len:PySem.W.nsIn K mainGlobals "len" = some none)
 (z_list:PySem.W.nsIn K mainGlobals "list" = some none)
 (z_range:PySem.W.nsIn K mainGlobals "range" = some none)
 (z_reversed:PySem.W.nsIn K mainGlobals "reversed" = some none)
 (z_set:PySem.W.nsIn K mainGlobals "set" = some none)
 (z_sorted:PySem.W.nsIn K mainGlobals "sorted" = some none)
 (z_str:PySem.W.nsIn K mainGlobals "str" = some none)
 (z_sum:PySem.W.nsIn K mainGlobals "sum" = some none)
 (z_tuple:PySem.W.nsIn K mainGlobals "tuple" = some none)
 (z_zip:PySem.W.nsIn K mainGlobals "zip" = some none)
 : ∃fd:FuncData,(∀(s:xZ) (v:xY),BindsTo s fd ⟨[v],[]⟩ [("_law_script",v)])/\∀base:Heap,K.In base->base.Ns mainGlobals mg->FnOk l.prog w K mg base CX0 60 fa fd ["_law_script"] (ao K):=by
 have e:=hfa.symm.trans (PySem.W.mg_of X G a26)
 cases e
 have B:Bl mg:=⟨PySem.W.mg_none_of X G z_abs,PySem.W.mg_none_of X G z_bool,PySem.W.mg_none_of X G z_dict,PySem.W.mg_none_of X G z_int,PySem.W.mg_none_of X G z_isinstance,PySem.W.mg_none_of X G z_len,PySem.W.mg_none_of X G z_list,PySem.W.mg_none_of X G z_range,PySem.W.mg_none_of X G z_reversed,PySem.W.mg_none_of X G z_set,PySem.W.mg_none_of X G z_sorted,PySem.W.mg_none_of X G z_str,PySem.W.mg_none_of X G z_sum,PySem.W.mg_none_of X G z_tuple,PySem.W.mg_none_of X G z_zip⟩;have F13:FunD K "states" "states" XZ f13 _ (.int 500 fTk13):=⟨_,_,_,_,_,_,_,_,_,_,_,_,_,_,rfl,l13,c13,lt13⟩;have bM13:=F13.binds (ps:=["program", "most"]) (ds:=[]) λ_ _ _ _ _ _ _ us hl=>match us,hl with | [_,_],_=>⟨_,rfl,rfl⟩
 have bD13:=F13.binds (ps:=["program", "most"]) (ds:=[.int 500 fTk13]) λ_ _ _ _ _ _ _ us hl=>(show us.length=1->_ from λh=>match us,h with | [_],_=>⟨_,rfl,rfl⟩) (by simpa using hl);have N13:FnD K mg "states" XZ ["program", "most"] (.int 500):=⟨_,_,_,F13,bM13,bD13,⟨_,rfl⟩,k13,PySem.W.mg_of X G a13⟩;have F26:=aD (st:=Xa) l26 c26 k26;refine⟨PySem.W.fnOf "law" "law" (defArgs Xa) (defBody Xa) (defScope Xa) .none kV26 dc26 pm26 an26 cd26 ct26,λs v => .of_eq rfl,λbase _ _=>?_⟩;exact CC (P:=l.prog) (w:=w) (base:=base) B (Q_j0.cfn (PySem.W.mg_of X G oa_Gathering) (λ_ _ _ _ _ _=>us2 λ_ _=>rfl)) ⟨pg_StateList,hd_StateList,po_StateList,os_StateList⟩ of_j1_most of_j1_shares of_j1_names (Q_j1.ifn (PySem.W.mg_of X G oa_StateList) mk_StateList kc_StateList (λ_ _ _ _ _ _=>us3 λ_ _ _=>rfl)) (Q_j2.mfn (λ_ _ _ _ _ _=>us2 λ_ _=>rfl)) (Q_j3.mfn (λ_ _ _ _ _ _=>us2 λ_ _=>rfl)) (Q_j4.mfn (λ_ _ _ _ _ _=>us2 λ_ _=>rfl)) (Q_j15.mfn (λ_ _ _ _ _ _=>us3 λ_ _ _=>rfl)) ⟨pg_Walk,hd_Walk,po_Walk,os_Walk⟩ of_j2_parts of_j2_most of_j2_results (Q_j5.ifn (PySem.W.mg_of X G oa_Walk) mk_Walk kc_Walk (λ_ _ _ _ _ _=>us3 λ_ _ _=>rfl)) (Q_j6.mfn (λ_ _ _ _ _ _=>us3 λ_ _ _=>rfl)) (Q_j7.mfn (λ_ _ _ _ _ _=>us3 λ_ _ _=>rfl)) (Q_j8.mfn (λ_ _ _ _ _ _=>us3 λ_ _ _=>rfl)) (Q_j9.mfn (λ_ _ _ _ _ _=>us3 λ_ _ _=>rfl)) (Q_j10.mfn (λ_ _ _ _ _ _=>us3 λ_ _ _=>rfl)) (Q_j11.mfn (λ_ _ _ _ _ _=>us3 λ_ _ _=>rfl)) (Q_j12.mfn (λ_ _ _ _ _ _=>us3 λ_ _ _=>rfl)) (Q_j13.mfn (λ_ _ _ _ _ _=>us3 λ_ _ _=>rfl)) (Q_j14.mfn (λ_ _ _ _ _ _=>us3 λ_ _ _=>rfl)) (H0.fn X G (λ_ _ _ _ _ _=>us2 λ_ _=>rfl)) (H1.fn X G (λ_ _ _ _ _ _=>us1 λ_=>rfl)) (H2.fn X G (λ_ _ _ _ _ _=>us2 λ_ _=>rfl)) (H3.fn X G (λ_ _ _ _ _ _=>us2 λ_ _=>rfl)) (H4.fn X G (λ_ _ _ _ _ _=>us2 λ_ _=>rfl)) (H5.fn X G (λ_ _ _ _ _ _=>us2 λ_ _=>rfl)) (H6.fn X G (λ_ _ _ _ _ _=>us2 λ_ _=>rfl)) (H7.fn X G (λ_ _ _ _ _ _=>us2 λ_ _=>rfl)) (H8.fn X G (λ_ _ _ _ _ _=>us1 λ_=>rfl)) (H9.fn X G (λ_ _ _ _ _ _=>us2 λ_ _=>rfl)) (H10.fn X G (λ_ _ _ _ _ _=>us2 λ_ _=>rfl)) (H11.fn X G (λ_ _ _ _ _ _=>us2 λ_ _=>rfl)) (H12.fn X G (λ_ _ _ _ _ _=>us3 λ_ _ _=>rfl)) N13 (H14.fn X G (λ_ _ _ _ _ _=>us2 λ_ _=>rfl)) (H15.fn X G (λ_ _ _ _ _ _=>us2 λ_ _=>rfl)) (H16.fn X G (λ_ _ _ _ _ _=>us2 λ_ _=>rfl)) (H17.fn X G (λ_ _ _ _ _ _=>us2 λ_ _=>rfl)) (H18.fn X G (λ_ _ _ _ _ _=>us2 λ_ _=>rfl)) (H19.fn X G (λ_ _ _ _ _ _=>us2 λ_ _=>rfl)) (H20.fn X G (λ_ _ _ _ _ _=>us2 λ_ _=>rfl)) (H21.fn X G (λ_ _ _ _ _ _=>us2 λ_ _=>rfl)) (H22.fn X G (λ_ _ _ _ _ _=>us4 λ_ _ _ _=>rfl)) (H23.fn X G (λ_ _ _ _ _ _=>us3 λ_ _ _=>rfl)) (H24.fn X G (λ_ _ _ _ _ _=>us1 λ_=>rfl)) (H25.fn X G (λ_ _ _ _ _ _=>us5 λ_ _ _ _ _=>rfl)) F26
def walk{l:PySem.W.OpenLaw}{loose:xy}{XP:(xq)->Heap->Prop}{YP:J2->Heap->Prop}{d:DefRec}{K:Params->xt}(hn:l.most=some 63)(hdf:d.params.defaults=[])
 (hY:∀(w:J2) (h:Heap),YP w h->(K w.params).In h)
 (F:∀(w:J2) (mg:xq) (fa:J0) (h:Heap),(K w.params).In h->h.Ns mainGlobals mg->mg d.name=some (.ref fa) ->
  ∃fd:FuncData,(∀(s:xZ) (u:xY),BindsTo s fd ⟨[u],[]⟩ [("_law_script",u)])/\∀base:Heap,(K w.params).In base->base.Ns mainGlobals mg->FnOk l.prog w (K w.params) mg base CX0 60 fa fd ["_law_script"] (ao (K w.params))) :
 PySem.W.WalkO q loose XP YP l.row.toRowW d [] (λf vs=>PySem.call f vs) :=
 L2.vF (n:=63) (k:=60) (x := "_law_script") (CX:=λ_=>CX0) (sp:=λw=>ao (K w.params)) hn 'f' hdf ⟨rfl,by decide,by decide⟩ hY F (λ_ _ a ns hl _ hS=>⟨a,ns,rfl,hS,hl,λ_=>rfl⟩) λ_ _ _ _ _ z=>z
end Fd
open PySem PySem.W PyProof.Rows
local macro_rules | `(tactic| o_head $H:term) => `(tactic| (refine holds_open (q := FdE.viewQ) (loose := ["states"]) (Xt := fun s => xlAt FdE.viewQ [] s && recOk (RowW.records (OpenRow.toRowW (OpenLaw.row PySem.Challenge.rw_fairdraw_k52_choices_and_rounds))) s) (XP := XL FdE.viewQ []) (Yf := Hook.obs $H) (Ya := Hook.val $H) (YP := Hook.says $H) (N := 5478) ?_ (Hook.of $H) (Hook.keeps $H) (fun s e => xl_of s (Bool.and_eq_true_iff.mp e).1) XL.keeps (by rfl) (by rfl) (by rfl) (fun s e => recFacts_of (Bool.and_eq_true_iff.mp e).2) (by rfl) (by first | assumption | decide +kernel) (by decide +kernel) ⟨rfl, rfl, rfl, rfl, rfl, by decide +kernel⟩ ?_ ?_))
set_option maxRecDepth 100000 in
set_option maxHeartbeats 0 in
theorem PySem.Challenge.cw_fairdraw_k52_choices_and_rounds_holds : PySem.Challenge.rw_fairdraw_k52_choices_and_rounds.Holds := by
 w_on;refine holds_law (by as_aux_lemma=>(rw[PySem.W.Fast.te9446332074065402090];kernel_rfl)) λsaid=>?_;o_head (kHook FdE.pre.heap_1 ((FdE.pre.heap_1 FdE.P0).map (·.1)) (λ_=>by kernel_rfl))
 . exact FdE.left
 . w_witness2
 k_fill
 refine Fd.walk (l:=PySem.Challenge.rw_fairdraw_k52_choices_and_rounds) rfl rfl (λw h Y=>PySem.W.kIn_of Y) ?F
 case F =>
  intro w mg fa h KX G hmg
  refine' Fd.DA KX G hmg ?H0 ?H1 ?H2 ?H3 ?H4 ?H5 ?H6 ?H7 ?H8 ?H9 ?H10 ?H11 ?H12 ?lt13 ?a13 ?l13 ?c13 ?k13 ?H14 ?H15 ?H16 ?H17 ?H18 ?H19 ?H20 ?H21 ?H22 ?H23 ?H24 ?H25 ?a26 ?l26 ?c26 ?k26           ?Q_j0 ?Q_j1 ?Q_j2 ?Q_j3 ?Q_j4 ?Q_j5 ?Q_j6 ?Q_j7 ?Q_j8 ?Q_j9 ?Q_j10 ?Q_j11 ?Q_j12 ?Q_j13 ?Q_j14 ?Q_j15 ?oa_Gathering ?oa_StateList ?pg_StateList ?hd_StateList ?po_StateList ?os_StateList ?mk_StateList ?kc_StateList ?of_j1_most ?of_j1_shares ?of_j1_names ?oa_Walk ?pg_Walk ?hd_Walk ?po_Walk ?os_Walk ?mk_Walk ?kc_Walk ?of_j2_parts ?of_j2_most ?of_j2_results ?z_abs ?z_bool ?z_dict ?z_int ?z_isinstance ?z_len ?z_list ?z_range ?z_reversed ?z_set ?z_sorted ?z_str ?z_sum ?z_tuple ?z_zip
  (case H0 | H1 | H2 | H3 | H4 | H5 | H6 | H7 | H8 | H9 | H10 | H11 | H12 | H14 | H15 | H16 | H17 | H18 | H19 | H20 | H21 | H22 | H23 | H24 | H25=>refine' Fd.Dx ?a ?l ?c ?k;(case a=>k_is);(case l=>k_is);(case c=>k_is);(case k=>k_is))
  (case a13=>k_is);(case l13=>k_is);(case c13=>k_is);(case k13=>k_is);(case lt13=>k_is)
  (case a26=>k_is);(case l26=>k_is);(case c26=>k_is);(case k26=>k_is)
  (case oa_Gathering=>k_is)
  (case oa_StateList=>k_is)
  (case oa_Walk=>k_is)
  (case Q_j0=>refine' Fd.Dy ?sg ?rd ?fc ?l ?c ?k;(case sg | rd | fc=>k_is);(case l=>k_is);(case c=>k_is);(case k=>k_is))
  (case Q_j1 | Q_j2 | Q_j3 | Q_j4 | Q_j5 | Q_j6 | Q_j7 | Q_j8 | Q_j9 | Q_j10 | Q_j11 | Q_j12 | Q_j13 | Q_j14 | Q_j15=>refine' Fd.Dz ?a ?i ?l ?c ?k;(case a=>k_is);(case i=>k_is);(case l=>k_is);(case c=>k_is);(case k=>k_is))
  (case pg_StateList | hd_StateList | po_StateList | os_StateList | mk_StateList | kc_StateList | of_j1_most | of_j1_shares | of_j1_names=>k_is)
  (case pg_Walk | hd_Walk | po_Walk | os_Walk | mk_Walk | kc_Walk | of_j2_parts | of_j2_most | of_j2_results=>k_is)
  (case z_abs | z_bool | z_dict | z_int | z_isinstance | z_len | z_list | z_range | z_reversed | z_set | z_sorted | z_str | z_sum | z_tuple | z_zip=>k_is)
